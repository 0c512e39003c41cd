import PyProof.Rows.All
import Wide.All
import OpenK.AllK
import Wide.FinOn
import KE.KStateDown
import HandS.ForMost
import HandS.ForExc
import HandS.More
import HandS.Words
import HandS.WordsExc
import HandS.Defaults
import HandS.TryMany
import HandS.ExcIs
import HandS.ExcValue
import HandS.ExcInit
import HandS.RaiseMore
import HandS.DictTup
import HandS.Wide
import HandS.IsInst
import HandS.Conv
import HandS.Head0
import HandS.Head1
import HandS.Head2
import HandS.HeadEnd
import HandS.HeadHook1
import HandS.HeadHook2
import HandS.HeadHook3
import HandS.HeadHook4
import HandS.Property
import HandS.ClsMeth
import HandS.CallLocal
import KE.KCallOwn
import PyProof.InstEq
import HandS.HeadNt
import KE.KExcInit
import KE.KExcPX
import KE.KExcIs
import KE.KTryMore
import HandS.HeadWalk
import HandS.NestedK
import HandS.ExcField
import KE.SortData
import KE.SortKeyHeap
import PyProof.StrWalks
import HandS.Base
import HandS.Call
import HandS.List
import HandS.Dict
import HandS.Iter
import HandS.Set
import HandS.SetFor
import HandS.TupSets
import HandS.SetTxt0
import HandS.SortKw
import KE.KSortKey
import HandS.StrMore
import HandS.Text
import HandS.ExcOwn
import HandS.Lambda
import HandS.Style
import HandS.TupMul
import PyProof.TupleOfSeq
import PyProof.SliceStr2
import HandS.Walk
import HandS.FStr
import HandS.DictComp
import HandS.TupAny
import HandS.Steps
import HandS.Zip
import KE.GoesMore
import KE.GoesEnum
import OpenK.KMeth
import PyProof.NeData
import PyProof.Rows.SumAny
import KE.DataMinMax
import PyProof.StrBlock2
import PyProof.StrLawsIn
import HandS.SortInts
import HandS.GenList
import PyProof.CollectStr
import PySem.Challenge.RW_twowaycuts_k17_errors_of_ways
set_option Elab.async false
set_option linter.all false
set_option maxRecDepth 100000
set_option maxHeartbeats 4000000
/-! the draws -/
namespace B17
open PySem PySem.Spec PyProof.Rows L2
def top (i : Nat) : Stmt := PySem.Challenge.pw_twowaycuts_k17_errors_of_ways.main.body.getD i (.Pass ⟨0, 0, 0, 0⟩)
abbrev sJug : Stmt := top 46
abbrev sBit : Stmt := top 47
abbrev sPick : Stmt := top 48
abbrev sDealt : Stmt := top 49
abbrev FnP (K : PySem.W.Frag) (x : Str) (st : Stmt) (f : Addr) (fd : FuncData) : Prop := FunD K x x (defArgs st) (defBody st) (defScope st) [] [] f fd

/-! ### a power with a great base -/
def CPowX (i j : Int) : Prop := 0 ≤ j ∧ (Builtin.Int.intBits i : Int) * j ≤ 2 ^ 27
theorem op_powX {X : Cx} : OpR X (binaryOp .Pow) (rI CPowX fun i j => .int (i ^ j.toNat)) := opI fun _ _ _ _ _ _ _ hc q => pow_int hc.1 hc.2 q

/-! ### the jug: a list of three ints, the first at least 0 -/
def JugAt (H : Hp) (j : Addr) : Prop := ∃ a b c : Int, H j = some (.lst [.int a, .int b, .int c]) ∧ 0 ≤ a
/-- all stands but j, which is a jug still -/
def Kj (j : Addr) (H H' : Hp) : Prop := (∀ b o, b ≠ j → H b = some o → H' b = some o) ∧ JugAt H' j
theorem Kj.refl {j : Addr} {H : Hp} (h : JugAt H j) : Kj j H H := ⟨fun _ _ _ e => e, h⟩
theorem Kj.trans {j : Addr} {H H1 H2 : Hp} (a : Kj j H H1) (b : Kj j H1 H2) : Kj j H H2 := ⟨fun c o n e => b.1 c o n (a.1 c o n e), b.2⟩
theorem Kj.put {j : Addr} {H : Hp} {a b c : Int} (h : 0 ≤ a) : Kj j H (upd H j (.lst [.int a, .int b, .int c])) := ⟨fun d o n e => by rw [upd_ne n]; exact e, ⟨a, b, c, upd_same, h⟩⟩
theorem Kj.new {j p : Addr} {H H' : Hp} {o : HO} (k : Kj j H H') (hp : H p = none) (hj : p ≠ j) : Kj j H (upd H' p o) := ⟨fun c u n e => by
  rw [upd_ne (ne_of_none e hp)]; exact k.1 c u n e, by
  obtain ⟨a, b, c, e, h⟩ := k.2
  exact ⟨a, b, c, by rw [upd_ne (Ne.symm hj)]; exact e, h⟩⟩
theorem Kj.rd {j a : Addr} {H H' : Hp} {u : HO} (k : Kj j H H') (n : a ≠ j) (h : Rd H a u) : Rd H' a u := by
  rcases h with h | ⟨o, h⟩
  · exact .inl (k.1 a _ n h)
  · exact .inr ⟨o, k.1 a _ n h⟩
theorem Kj.sqL {K : PySem.W.Frag} {j a : Addr} {H H' : Hp} {xs : List V} (k : Kj j H H') (n : a ≠ j) (h : SqL K H a xs) : SqL K H' a xs := by
  rcases h with h | h
  · exact .inl (k.rd n h)
  · exact .inr h
theorem Kj.sqT {K : PySem.W.Frag} {j a : Addr} {H H' : Hp} {xs : List V} (k : Kj j H H') (n : a ≠ j) (h : SqT K H a xs) : SqT K H' a xs := by
  rcases h with h | h
  · exact .inl (k.rd n h)
  · exact .inr h

theorem erase_perm {α : Type} : ∀ {ws : List α} {i : Nat} (h : i < ws.length), (ws[i] :: ws.eraseIdx i).Perm ws
  | [], _, h => by cases h
  | w :: ws, 0, _ => List.Perm.refl _
  | w :: ws, i + 1, h => by
    have ih := erase_perm (ws := ws) (i := i) (by simpa using h)
    exact (List.Perm.swap _ _ _).trans (ih.cons w)
/-! ### promises -/
def spJug (K : PySem.W.Frag) : Sp := fun vs H Q _ => ∃ (l : Addr) (ns : List Int) (i : Nat), vs = [.ref l, .int (i : Int)] ∧ SqL K H l (ns.map V.int) ∧
  ∀ j H', H j = none → (∀ b o, H b = some o → H' b = some o) → JugAt H' j → Q (.ref j) H'
def spBit : Sp := fun vs H Q _ => ∃ (j : Addr) (m : Int), vs = [.ref j, .int m] ∧ JugAt H j ∧ 0 < m ∧ m < 2 ^ 200 ∧
  ∀ r H', 0 ≤ r → r < m → Kj j H H' → Q (.int r) H'
def spPick (K : PySem.W.Frag) : Sp := fun vs H Q _ => ∃ (j p : Addr) (xs : List V), vs = [.ref j, .ref p] ∧ JugAt H j ∧ SqL K H p xs ∧ p ≠ j ∧ xs ≠ [] ∧ xs.length ≤ 1000 ∧
  ∀ x H', x ∈ xs → Kj j H H' → Q x H'
def spDealt (K : PySem.W.Frag) : Sp := fun vs H Q _ => ∃ (j p : Addr) (xs : List V), vs = [.ref j, .ref p] ∧ JugAt H j ∧ (SqL K H p xs ∨ SqT K H p xs) ∧ p ≠ j ∧ xs.length ≤ 1000 ∧
  ∀ q ys H', H q = none → H' q = some (.lst ys) → ys.Perm xs → Kj j H H' → Q (.ref q) H'

section
variable {P : Program} {w : World} {K : PySem.W.Frag} {mg : Str → Option Value} {base : Heap} {f fB fJ : Addr} {fd fdB : FuncData}
theorem scBit : FnScope ["jug", "much", "found", "first", "later"] ["jug", "much"] (defScope sBit) := ⟨rfl, rfl, rfl, by decide +kernel, rfl, by decide +kernel, by decide +kernel⟩
theorem scJug : FnScope ["script", "at", "cell", "great", "blend"] ["script", "at"] (defScope sJug) := ⟨rfl, rfl, rfl, by decide +kernel, rfl, by decide +kernel, by decide +kernel⟩
theorem scPick : FnScope ["jug", "items"] ["jug", "items"] (defScope sPick) := ⟨rfl, rfl, rfl, by decide +kernel, rfl, by decide +kernel, by decide +kernel⟩

theorem ok_bit (F : FnP K "_law_bit" sBit f fd) (mI : mg "int" = none) : FnOk P w K mg base CX0 1 f fd ["jug", "much"] spBit := by
  refine F.ok scBit (fun vs H Q E h => ?_) (fun cdv A outer s H vs Q E hr h => ?_)
  · obtain ⟨j, m, rfl, _⟩ := h
    rfl
  · obtain ⟨j, m, rfl, ⟨a, b, c, ej, ha⟩, hm, hm2, q⟩ := h
    refine ⟨_, PSs.nox (pss_cons (ps_if (pt_cmpR op_gt (pe_ix ix_list (pv 0) pe_int (fun _ _ => rfl)) pe_int (nomark _))
        (pss_cons (ps_set (i := 2) scBit.nd rfl (.inl rfl) (pe_op op_mod (pe_callTy call_int1 (by rfl) mI (by decide +kernel) (pa_cons (pe_ix ix_list (pv 0) pe_int (fun _ _ => rfl)) pa_nil)) (pv 1)))
          (pss_cons (ps_asg (pe_op op_fdivW (pe_ix ix_list (pv 0) pe_int (fun _ _ => rfl)) (pv 1)) (pg_sub (pv 0) pe_int set_list))
          (pss_one (ps_ret (pv 2))))) pss_nil)
      (pss_cons (ps_asg (pe_op op_add (pe_ix ix_list (pv 0) pe_int (fun _ _ => rfl)) pe_int) (pg_sub (pv 0) pe_int set_list))
      (pss_cons (ps_set (i := 3) scBit.nd rfl (.inl rfl) (pe_op op_mod (pe_callTy call_int1 (by rfl) mI (by decide +kernel) (pa_cons (pe_op op_add (pe_ix ix_list (pv 0) pe_int (fun _ _ => rfl)) (pe_op op_mul pe_int (pe_ix ix_list (pv 0) pe_int (fun _ _ => rfl)))) pa_nil)) pe_int))
      (pss_cons (ps_set (i := 4) scBit.nd rfl (.inl rfl) (pe_op op_add (pe_op op_mul (pe_op op_mod (pe_callTy call_int1 (by rfl) mI (by decide +kernel) (pa_cons (pe_op op_mul (pv 3) (pv 3)) pa_nil)) pe_int) (pv 3)) (pe_op op_mul pe_int (pe_ix ix_list (pv 0) pe_int (fun _ _ => rfl)))))
      (pss_one (ps_ret (pe_op op_mod (pe_callTy call_int1 (by rfl) mI (by decide +kernel) (pa_cons (pe_op op_fdiv (pe_op op_mod (pe_callTy call_int1 (by rfl) mI (by decide +kernel) (pa_cons (pv 4) pa_nil)) pe_int) pe_int) pa_nil)) (pv 1)))))))), ?_⟩
    refine ⟨_, rfl, _, _, _, _, rfl, rfl, SqL.of ej, atI_nat (j := 0) rfl, _, _, rfl, rfl, _, rfl, ite2 (fun e => ?_) (fun e => ?_)⟩
    · refine ⟨_, rfl, _, _, _, _, rfl, rfl, SqL.of ej, atI_nat (j := 0) rfl, .inl ⟨_, rfl, _, rfl, _, _, rfl, rfl, hm, ?_⟩⟩
      refine ⟨_, rfl, _, _, _, _, rfl, rfl, SqL.of ej, atI_nat (j := 0) rfl, _, rfl, _, _, rfl, rfl, wide_div hm (b := 200) (by omega) (by decide) (by decide), ?_⟩
      refine ⟨_, rfl, _, _, _, 0, rfl, rfl, ej, rfl, ?_⟩
      refine ⟨_, rfl, ?_⟩
      exact q _ _ (Int.emod_nonneg _ (by omega)) (Int.emod_lt_of_pos _ hm) (Kj.put (Int.ediv_nonneg ha (by omega)))
    · refine ⟨_, rfl, _, _, _, _, rfl, rfl, SqL.of ej, atI_nat (j := 2) rfl, _, _, rfl, rfl, ?_⟩
      refine ⟨_, rfl, _, _, _, 2, rfl, rfl, ej, rfl, ?_⟩
      have ej2 : (upd H j (.lst [V.int a, V.int b, V.int (c + 1)])) j = some (.lst [V.int a, V.int b, V.int (c + 1)]) := upd_same
      refine ⟨_, rfl, _, _, _, _, rfl, rfl, SqL.of ej2, atI_nat (j := 1) rfl, _, rfl, _, _, _, _, rfl, rfl, SqL.of ej2, atI_nat (j := 2) rfl, _, _, rfl, rfl, .inl (by decide), _, _, rfl, rfl, .inl ⟨_, rfl, _, _, rfl, rfl, (by show (0:Int) < _; decide), ?_⟩⟩
      have hf0 := Int.emod_nonneg (b + 1000507 * (c + 1)) (show (2305843009213693951 : Int) ≠ 0 by decide)
      have hf1 := Int.emod_lt_of_pos (b + 1000507 * (c + 1)) (show (0 : Int) < 2305843009213693951 by decide)
      generalize (b + 1000507 * (c + 1)) % 2305843009213693951 = fi at hf0 hf1
      refine ⟨_, rfl, _, rfl, _, _, rfl, rfl, .inl ⟨by omega, by omega⟩, .inl ⟨_, rfl, _, _, rfl, rfl, (by show (0:Int) < _; decide), ?_⟩⟩
      refine ⟨_, rfl, _, _, rfl, rfl, .inr ⟨by omega, by omega⟩, _, rfl, _, _, _, _, rfl, rfl, SqL.of ej2, atI_nat (j := 2) rfl, _, _, rfl, rfl, .inl (by decide), _, _, rfl, rfl, ?_⟩
      refine ⟨_, rfl, .inl ⟨_, rfl, _, _, rfl, rfl, (by show (0:Int) < _; decide), _, _, rfl, rfl, ⟨by decide, by decide⟩, .inl ⟨_, rfl, _, rfl, _, _, rfl, rfl, hm, ?_⟩⟩⟩
      exact q _ _ (Int.emod_nonneg _ (by omega)) (Int.emod_lt_of_pos _ hm) (Kj.put ha)

theorem ok_jug (F : FnP K "_law_jug" sJug f fd) (mI : mg "int" = none) (mL : mg "len" = none) (mA : mg "abs" = none) (mM : mg "max" = none) : FnOk P w K mg base CX0 1 f fd ["script", "at"] (spJug K) := by
  refine F.ok scJug (fun vs H Q E h => ?_) (fun cdv A outer s H vs Q E hr h => ?_)
  · obtain ⟨l, ns, i, rfl, _⟩ := h
    rfl
  · obtain ⟨l, ns, i, rfl, hS, q⟩ := h
    refine ⟨_, PSs.nox (pss_cons (ps_set (i := 2) scJug.nd rfl (.inl rfl) (pe_ifExp (pt_cmpR op_lt (pv 1) (pe_callB call_len_seq (by rfl) mL PySem.boot_len (pa_cons (pv 0) pa_nil)) (nomark _))
          (pe_ix ix_list (pv 0) (pv 1) (fun _ _ => rfl)) (pe_op op_add (pe_op op_mul pe_int (pv 1)) pe_int)))
      (pss_cons (ps_set (i := 3) scJug.nd rfl (.inl rfl) (pe_op op_mod (pe_callTy call_int1 (by rfl) mI (by decide +kernel) (pa_cons (pe_callB call_abs (by rfl) mA (by decide +kernel) (pa_cons (pv 2) pa_nil)) pa_nil)) (pe_op op_powX (pe_op op_powX pe_int pe_int) pe_int)))
      (pss_cons (ps_set (i := 4) scJug.nd rfl (.inl rfl) (pe_op op_add (pe_op op_add (pe_op op_add (pe_op op_mul (pe_op op_mod (pe_callTy call_int1 (by rfl) mI (by decide +kernel) (pa_cons (pv 3) pa_nil)) pe_int) pe_int) (pe_op op_mul pe_int (pv 1))) (pe_op op_mul pe_int (pe_callTy call_int1 (by rfl) mI (by decide +kernel) (pa_cons (pe_cmpR op_lt (pv 2) pe_int (nomark _)) pa_nil)))) pe_int))
      (pss_one (ps_ret (pe_lst (pa_cons (pe_callB (call_max2 rfl) (by rfl) mM (by decide +kernel) (pa_cons pe_int (pa_cons (pe_op op_sub (pv 3) (pe_op op_powX pe_int pe_int)) pa_nil))) (pa_cons (pe_op op_mod (pe_callTy call_int1 (by rfl) mI (by decide +kernel) (pa_cons (pv 4) pa_nil)) pe_int) (pa_cons pe_int pa_nil))))))))), ?_⟩
    refine ⟨_, rfl, _, rfl, _, _, rfl, .inl hS, _, _, rfl, rfl, _, rfl, ite2 (fun e => ?a) (fun e => ?b)⟩
    case' a =>
      have hi : i < ns.length := by
        have z := of_decide_eq_true e
        rw [List.length_map] at z
        omega
      refine ⟨_, rfl, _, rfl, _, _, _, _, rfl, rfl, hS, atI_nat (v := .int (ns[i]'hi)) (by rw [List.getElem?_map, List.getElem?_eq_getElem hi]; rfl), ?_⟩
      generalize ns[i]'hi = cell
    case' b =>
      refine ⟨_, rfl, _, _, rfl, rfl, .inl (by decide), _, _, rfl, rfl, ?_⟩
      generalize 71 * (i : Int) + 41 = cell
    all_goals
      refine ⟨_, rfl, _, rfl, .inl ⟨_, rfl, _, _, rfl, rfl, ⟨by decide, by decide +kernel⟩, _, _, rfl, rfl, ⟨by decide, by decide +kernel⟩, _, _, rfl, rfl, (by show (0:Int) < _; decide +kernel), ?_⟩⟩
      have hb : (0 : Int) < (10 ^ (61 : Int).toNat) ^ (11 : Int).toNat := by decide +kernel
      have hg0 := Int.emod_nonneg (if cell < 0 then -cell else cell) (show ((10 ^ (61 : Int).toNat) ^ (11 : Int).toNat : Int) ≠ 0 by omega)
      generalize (if cell < 0 then -cell else cell) % ((10 ^ (61 : Int).toNat) ^ (11 : Int).toNat : Int) = great at hg0
      refine ⟨_, rfl, .inl ⟨_, rfl, _, _, rfl, rfl, (by show (0:Int) < _; decide), _, _, rfl, rfl, .inr (by decide), _, rfl, _, _, rfl, rfl, .inl (by decide), _, _, rfl, rfl, _, rfl, _, _, rfl, rfl, .inr ⟨_, rfl, _, _, rfl, rfl, .inl (by decide), _, _, rfl, rfl, _, _, rfl, rfl, ?_⟩⟩⟩
      refine ⟨_, rfl, _, _, rfl, rfl, ⟨by decide, by decide +kernel⟩, _, _, rfl, rfl, _, _, rfl, _, rfl, .inl ⟨_, rfl, _, _, rfl, rfl, (by show (0:Int) < _; decide), (by show 3 ≤ sizeLine; decide), fun p hp => ?_⟩⟩
      refine q p _ hp (fun b o e => by rw [upd_ne (ne_of_none e hp)]; exact e) ⟨_, _, _, upd_same, ?_⟩
      split <;> omega

theorem ok_pick (F : FnP K "_law_pick" sPick f fd) (FB : FnOk P w K mg base CX0 1 fB fdB ["jug", "much"] spBit) (gB : mg "_law_bit" = some (.ref fB)) (kB : PySem.W.keepIn K (.ref fB) = true) (bB : Binds K fdB ["jug", "much"] [])
    (mL : mg "len" = none) : FnOk P w K mg base CX0 2 f fd ["jug", "items"] (spPick K) := by
  refine F.ok scPick (fun vs H Q E h => ?_) (fun cdv A outer s H vs Q E hr h => ?_)
  · obtain ⟨j, p, xs, rfl, _⟩ := h
    rfl
  · obtain ⟨j, p, xs, rfl, hj, hS, hpj, hne, hlen, q⟩ := h
    refine ⟨_, PSs.nox (pss_one (ps_ret (pe_ix ix_list (pv 1) (pe_call FB hr rfl gB kB bB .nil pass0 (pa_cons (pv 0) (pa_cons (pe_callB call_len_seq (by rfl) mL PySem.boot_len (pa_cons (pv 1) pa_nil)) pa_nil))) (fun _ _ => rfl)))), ?_⟩
    have h0 : 0 < xs.length := List.length_pos_iff.mpr hne
    refine ⟨_, rfl, _, rfl, _, rfl, _, _, rfl, .inl hS, j, _, rfl, hj, by omega, by omega, fun r H' hr0 hr1 hk => ?_⟩
    have hi : r.toNat < xs.length := by omega
    have er : r = ((r.toNat : Nat) : Int) := by omega
    rw [er]
    refine ⟨_, _, _, _, rfl, rfl, hk.sqL hpj hS, atI_nat (List.getElem?_eq_getElem hi), ?_⟩
    exact q _ _ (List.getElem_mem hi) hk

def rLenL (K : PySem.W.Frag) : List V → Hp → VK → Prop := fun xs H Q => ∃ p ys, xs = [.ref p] ∧ (SqL K H p ys ∨ SqT K H p ys) ∧ Q (.int ys.length) H
theorem call_lenL {X : Cx} : CallR X (.builtin "len") (rLenL X.K) := call_len_seq
theorem scDealt : FnScope ["jug", "items", "waits", "turn"] ["jug", "items"] (defScope sDealt) := ⟨rfl, rfl, rfl, by decide +kernel, rfl, by decide +kernel, by decide +kernel⟩
theorem ok_dealt (F : FnP K "_law_dealt" sDealt f fd) (FB : FnOk P w K mg base CX0 1 fB fdB ["jug", "much"] spBit) (gB : mg "_law_bit" = some (.ref fB)) (kB : PySem.W.keepIn K (.ref fB) = true) (bB : Binds K fdB ["jug", "much"] [])
    (mL : mg "len" = none) (mR : mg "range" = none) (mT : mg "list" = none) : FnOk P w K mg base CX0 2 f fd ["jug", "items"] (spDealt K) := by
  refine F.ok scDealt (fun vs H Q E h => ?_) (fun cdv A outer s H vs Q E hr h => ?_)
  · obtain ⟨j, p, xs, rfl, _⟩ := h
    rfl
  · obtain ⟨j, p, xs, rfl, hj, hS, hpj, hlen, q⟩ := h
    refine ⟨_, PSs.nox (pss_cons (ps_set (i := 2) scDealt.nd rfl (.inr rfl) (pe_callTy call_list_of (by rfl) mT (by decide +kernel) (pa_cons (pv 1) pa_nil)))
      (pss_one (ps_ret (pe_lc (own := [("turn", 3)]) (g := gName 3) (tt := tYes) (te := tBM K "list" rPopAt (tVar 2) (tCons (tCall spBit [] E0 (tCons (tVar 0) (tCons (tCB (rLenL K) (tCons (tVar 2) tNil)) tNil))) tNil)) rfl scDealt.nd (pi_range1 (by rfl) mR (pa_cons (pe_callB call_len_seq (by rfl) mL PySem.boot_len (pa_cons (pv 1) pa_nil)) pa_nil))
        (blkOk_by (N := ["jug", "items", "waits", "turn"]) (sc := defScope sDealt) (by decide +kernel)) (fun _ _ _ _ _ => pg_name (i := 3) scDealt.nd rfl (Or.inl rfl)) (fun _ _ _ _ _ => pts_nil)
        (fun _ _ _ _ _ => by
          refine pe_bm (T := "list") (id := "list.pop") (r := rPopAt) PySem.F.plainAttrs_list PySem.F.slot_list_pop PySem.F.type_list_pop ?_ ?_ ?_
          · exact mt_popAt
          · exact pv 2
          · exact (pa_cons (pe_call FB hr (by rfl) gB kB bB .nil pass0 (pa_cons (pv 0) (pa_cons (pe_callB call_lenL (by rfl) mL PySem.boot_len (pa_cons (pv 2) pa_nil)) pa_nil))) pa_nil)))))), ?_⟩
    refine ⟨_, rfl, _, _, rfl, hS, fun wt hw => ?_⟩
    have hwj : wt ≠ j := fun z => by
      obtain ⟨a, b, c, e, _⟩ := hj
      rw [z, e] at hw
      cases hw
    refine ⟨_, rfl, _, _, rfl, hS.imp (Kj.sqL ((Kj.refl hj).new hw hwj) hpj) (Kj.sqT ((Kj.refl hj).new hw hwj) hpj), _, rfl, by omega, by omega, fun D hD => ?_⟩
    have ewt : (upd H wt (.lst xs)) wt = some (.lst xs) := upd_same
    have nDw : wt ≠ D := ne_of_none ewt hD
    have hkw : Kj j H (upd H wt (.lst xs)) := (Kj.refl hj).new hw hwj
    have nDj : D ≠ j := fun z => by
      obtain ⟨a, b, c, e, _⟩ := hkw.2
      rw [z, e] at hD
      cases hD
    have hDH : H D = none := by
      cases e : H D with
      | none => rfl
      | some o =>
        rw [hkw.1 D o nDj e] at hD
        cases hD
    refine lc_range (n := xs.length) (fun i H' => ∃ ws acc : List V, H' wt = some (.lst ws) ∧ H' D = some (.lst acc) ∧ ws.length + i = xs.length ∧ acc.length = i ∧ (acc ++ ws).Perm xs ∧ Kj j H H') ?_ ?_ ?_
    · refine ⟨xs, [], by rw [upd_ne nDw]; exact ewt, upd_same, by simp, rfl, List.Perm.refl _, ?_⟩
      refine ⟨fun b o n e => ?_, ?_⟩
      · rw [upd_ne (ne_of_none e hDH)]
        exact hkw.1 b o n e
      · obtain ⟨a, b, c, e, h⟩ := hkw.2
        exact ⟨a, b, c, by rw [upd_ne (Ne.symm nDj)]; exact e, h⟩
    · rintro i H' hi ⟨ws, acc, hws, hacc, l1, l2, pm, hk⟩
      have hlw : 0 < ws.length := by omega
      refine ⟨rfl, _, rfl, .inl ⟨rfl, _, .inl (.inl hws)⟩, _, rfl, _, rfl, _, _, rfl, .inl (SqL.of hws), j, _, rfl, hk.2, by omega, by omega, fun r H2 hr0 hr1 hk2 => ?_⟩
      have hwt2 := hk2.1 wt _ hwj hws
      have hi : r.toNat < ws.length := by omega
      have er : r = ((r.toNat : Nat) : Int) := by omega
      have es : seqIndex? r ws.length = some r.toNat := by
        rw [er]
        unfold seqIndex?
        simp
        omega
      refine ⟨wt, ws, r, r.toNat, _, rfl, rfl, hwt2, by omega, by omega, es, List.getElem?_eq_getElem hi, ?_⟩
      have hacc2 := hk2.1 D _ nDj hacc
      refine ⟨acc, by rw [upd_ne (Ne.symm nDw)]; exact hacc2, by rw [l2]; exact Nat.lt_of_lt_of_le (show i < 1001 by omega) (by decide), ?_⟩
      have pm2 : (acc ++ [ws[r.toNat]'hi] ++ ws.eraseIdx r.toNat).Perm xs := by
        rw [List.append_assoc]
        exact ((erase_perm hi).append_left acc).trans pm
      refine ⟨ws.eraseIdx r.toNat, acc ++ [ws[r.toNat]'hi], by rw [upd_ne nDw]; exact upd_same, upd_same, by rw [List.length_eraseIdx_of_lt hi]; omega, by rw [List.length_append]; simp; omega, pm2, ?_⟩
      · have hk3 := hk.trans hk2
        refine ⟨fun b o n e => ?_, ?_⟩
        · rw [upd_ne (ne_of_none e hDH), upd_ne (ne_of_none e hw)]
          exact hk3.1 b o n e
        · obtain ⟨a, b, c, e, h⟩ := hk3.2
          exact ⟨a, b, c, by rw [upd_ne (Ne.symm nDj), upd_ne (Ne.symm hwj)]; exact e, h⟩
    · rintro H' ⟨ws, acc, hws, hacc, l1, l2, pm, hk⟩
      obtain rfl : ws = [] := List.length_eq_zero_iff.mp (by omega)
      rw [List.append_nil] at pm
      exact q D acc H' hDH hacc pm hk
end
end B17

/-! what Python calls by itself of an own class: len, [], in, ==, !=, str; a class made by a local name; what is never reached -/
namespace XB
open PySem PySem.Spec PyProof.Rows L2 PySem.Calls

/-- never reached -/
theorem pe_never {X : Cx} {e : Expr} : PE X e (fun _ _ _ => False) := ⟨fun _ _ _ _ _ _ h => h.elim⟩

theorem rel_ref (a : Addr) : L2.RelV (.ref a) (.ref a) := rfl
structure Own (K : PySem.W.Frag) (C : Addr) (m : Str) (f : Addr) : Prop where
  at_ : PySem.W.findIn K (.ref C) m = some (some (.ref f))
  fn : PySem.W.isFn K (.ref f) = true
section
variable {X : Cx} {pins : List (Addr × Obj)} {σ : L2.St} {H : Hp} {s : Shared} {a C dx f : Addr} {fs : List (Str × V)} {k : Nat} {fd : FuncData} {ps : List Str} {sp : Sp}
theorem ins_inst (I : Inv X pins σ H s) (ea : H a = some (.ins C dx fs)) : ∃ ox od, PySem.W.InstAt s.heap a ox C (some od) := by
  obtain ⟨mA, O, _⟩ := ins_get I.hok ea
  obtain ⟨od, J, _⟩ := O.look
  exact ⟨_, od, J⟩
theorem run_own {A : Around} {Q : VK} {us : List Value} {vs : List V} {E : Value → Shared → Prop} (F : FnOk X.prog X.w X.K X.mg X.base CX0 k f fd ps sp) (hr : Room k A) (e0 : Env0 X.prog X.w X.K X.mg X.base A X.stack s H) (hb : Binds X.K fd ps [])
    (I : Inv X pins σ H s) (r : Vals vs us) (h : sp vs H Q E0) : wpAny (model X.prog X.w) A (call (.ref f) us) (EP X pins σ Q) E s := by
  have hl : us.length = ps.length := by rw [← r.length]; exact F.len _ _ _ _ h
  have bound := hb s us I.kIn (by simpa using hl)
  rw [List.append_nil] at bound
  refine wpAny_call (codeAny_mono (F.run A X.stack s H ⟨us, []⟩ us vs Q E0 hr e0 bound r h) fun r s' done => ?_)
  cases r with
  | error er => exact False.elim done
  | ok fl =>
    cases fl with
    | ret u => exact I.after done
    | next => exact False.elim done
    | brk => exact False.elim done
    | cont => exact False.elim done

/-! ### len(o) -/
def rLenO (C : Addr) (sp : Sp) : List V → Hp → VK → Prop := fun xs H Q => ∃ a dx fs, xs = [.ref a] ∧ H a = some (.ins C dx fs) ∧ sp [.ref a] H (fun v H' => ∃ n : Nat, v = .int (n : Int) ∧ n < 4611686018427387904 ∧ Q (.int (n : Int)) H') E0
theorem call_lenO (F : FnOk X.prog X.w X.K X.mg X.base CX0 k f fd ps sp) (hr : Room (k + 1) X.A) (O : Own X.K C "__len__" f) (hb : Binds X.K fd ps []) : CallR X (.builtin "len") (rLenO C sp) := by
  intro pins s σ H xs us Q I r h
  obtain ⟨a, dx, fs, rfl, ea, q⟩ := h
  obtain ⟨u, rfl, rx⟩ := vals1 r
  obtain rfl : u = Value.ref a := rx
  obtain ⟨ox, od, J⟩ := ins_inst I ea
  obtain ⟨m, hF⟩ := I.fr
  refine PySem.W.len_K hF I.ok.mod.kin J O.at_ O.fn ?_
  refine wpAny_mono (run_own F hr.in1 I.env0.in1 hb I (.cons (rel_ref a) .nil) q) (fun v s' z => ?_) (fun _ _ z => z)
  obtain ⟨y, H', I', ry, n, rfl, hn, q'⟩ := z
  obtain ⟨t, rfl⟩ := ry
  exact ⟨⟨by omega, by omega⟩, ⟨.int n, H', I'.tok _, ⟨_, rfl⟩, q'⟩⟩

/-! ### o[i] -/
def rIxO (C : Addr) (sp : Sp) : R2 := fun x y H Q => ∃ a dx fs, x = .ref a ∧ H a = some (.ins C dx fs) ∧ sp [.ref a, y] H Q E0
theorem pe_ixO {e1 e2 : Expr} {ta tb : TE} {pos : Pos} (F : FnOk X.prog X.w X.K X.mg X.base CX0 k f fd ps sp) (hr : Room (k + 1) X.A) (O : Own X.K C "__getitem__" f) (hf : PySem.W.fnIn X.K f = true) (hb : Binds X.K fd ps []) (h1 : PE X e1 ta) (h2 : PE X e2 tb)
    (hsl : ∀ o i, subscripted e2 true o i = runValue (.builtin "lifetime.subscript" ⟨[o, i], []⟩) := by intro _ _; with_unfolding_all rfl) : PE X (.Subscript e1 e2 pos) (tOp (rIxO C sp) ta tb) := by
  refine ⟨fun pins s σ H Q I h => ?_⟩
  refine Subscript_ (binT h1 h2 I h fun v u s2 x y H2 I2 rx ry q => ?_)
  obtain ⟨a, dx, fs, rfl, ea, q⟩ := q
  obtain rfl : v = Value.ref a := rx
  obtain ⟨ox, od, J⟩ := ins_inst I2 ea
  obtain ⟨m, hF⟩ := I2.fr
  exact PySem.W.sub_K hF I2.ok.mod.kin J O.at_ hf O.fn (run_own F hr.in1 I2.env0.in1 hb I2 (.cons (rel_ref a) (.cons ry .nil)) q) (hsl _ _)

/-! ### x in o, x not in o -/
def rInO (C : Addr) (sp : Sp) (g : Bool → Bool) : R2 := fun x y H Q => ∃ a dx fs, y = .ref a ∧ H a = some (.ins C dx fs) ∧ sp [.ref a, x] H (fun v H' => ∃ b, v = .bl b ∧ Q (.bl (g b)) H') E0
theorem op_inO (F : FnOk X.prog X.w X.K X.mg X.base CX0 k f fd ps sp) (hr : Room k X.A) (O : Own X.K C "__contains__" f) (hb : Binds X.K fd ps []) : OpR X (compareOp .In) (rInO C sp fun b => b) := by
  intro pins s σ H x y v u Q I rx ry h
  obtain ⟨a, dx, fs, rfl, ea, q⟩ := h
  obtain rfl : u = Value.ref a := ry
  obtain ⟨ox, od, J⟩ := ins_inst I ea
  obtain ⟨m, hF⟩ := I.fr
  refine PySem.W.in_K hF I.ok.mod.kin J O.at_ O.fn (wpAny_mono (run_own F hr I.env0 hb I (.cons (rel_ref a) (.cons rx .nil)) q) (fun r s' z => ?_) (fun _ _ z => z))
  obtain ⟨y, H', I', ry, b, rfl, q'⟩ := z
  obtain rfl : r = Value.bool b := ry
  exact wpAny_truthy_bool ⟨.bl b, H', I', rfl, q'⟩
theorem op_notInO (F : FnOk X.prog X.w X.K X.mg X.base CX0 k f fd ps sp) (hr : Room k X.A) (O : Own X.K C "__contains__" f) (hb : Binds X.K fd ps []) : OpR X (compareOp .NotIn) (rInO C sp fun b => !b) := by
  intro pins s σ H x y v u Q I rx ry h
  obtain ⟨a, dx, fs, rfl, ea, q⟩ := h
  obtain rfl : u = Value.ref a := ry
  obtain ⟨ox, od, J⟩ := ins_inst I ea
  obtain ⟨m, hF⟩ := I.fr
  refine PySem.W.notIn_K hF I.ok.mod.kin J O.at_ O.fn (wpAny_mono (run_own F hr I.env0 hb I (.cons (rel_ref a) (.cons rx .nil)) q) (fun r s' z => ?_) (fun _ _ z => z))
  obtain ⟨y, H', I', ry, b, rfl, q'⟩ := z
  obtain rfl : r = Value.bool b := ry
  exact wpAny_truthy_bool ⟨.bl (!b), H', I', rfl, q'⟩

/-! ### o == x, o != x -/
def rEqO (K : PySem.W.Frag) (C : Addr) (sp : Sp) (g : Bool → Bool) : R2 := fun x y H Q => ∃ a dx fs t, x = .ref a ∧ H a = some (.ins C dx fs) ∧ TyX K H y t ∧ PySem.W.notFirst K C t = true ∧ sp [.ref a, y] H (fun v H' => ∃ b, v = .bl b ∧ Q (.bl (g b)) H') E0
theorem op_eqO (F : FnOk X.prog X.w X.K X.mg X.base CX0 k f fd ps sp) (hr : Room k X.A) (O : Own X.K C "__eq__" f) (hb : Binds X.K fd ps []) : OpR X (compareOp .Eq) (rEqO X.K C sp fun b => b) := by
  intro pins s σ H x y v u Q I rx ry h
  obtain ⟨a, dx, fs, t, rfl, ea, ty, nf, q⟩ := h
  obtain rfl : v = Value.ref a := rx
  obtain ⟨ox, od, J⟩ := ins_inst I ea
  obtain ⟨m, hF⟩ := I.fr
  obtain ⟨P, Z, p, _⟩ := kit_of I ry ty
  refine PySem.W.cmp_K (op := .Eq) hr.units0 hF I.ok.mod.kin J (Z.ty _ _ I.kIn p) nf O.at_ O.fn (wpAny_mono (run_own F hr I.env0 hb I (.cons (rel_ref a) (.cons ry .nil)) q) (fun r s' z => ?_) (fun _ _ z => z))
  obtain ⟨y, H', I', ry, b, rfl, q'⟩ := z
  obtain rfl : r = Value.bool b := ry
  exact ⟨.bl b, H', I', rfl, q'⟩
theorem slot_ne : Slot "object" "__ne__" "object.__ne__" := .of (owner := "object") (n := "__ne__") (by rw [typeLookup_type, builtinLookup_eq_fast]; kernel_rfl) (by decide +kernel) (by decide +kernel) (by decide +kernel)
    (.inl (by decide +kernel)) (by rw [isSubtype_type]; kernel_rfl)
theorem bound_slot {M : Model} {A : Around} {E : Value → Shared → Prop} {K : PySem.W.Frag} {x : Addr} {ox : Obj} {od : Option Obj} {name : Str} {id : String} {args : List Value} {Q : Option Value → Shared → Prop} (KX : K.In s.heap) (I : PySem.W.InstAt s.heap x ox C od)
    (hs : PySem.W.findIn K (.ref C) name = some (some (.builtin id))) (S : ∀ self, bindSpecial (.builtin id) self = pure (.builtin id, [self])) (h : wpAny M A (call (.builtin id) (.ref x :: args)) (fun v => Q (some v)) E s) : wpAny M A (callSpecialIfBound? (.ref x) name args) Q E s := by
  have fin : wpAny M A (call (.builtin id) ([.ref x] ++ args) >>= fun v => pure (some v)) Q E s := wpAny_bind (wpAny_mono h (fun v s' z => wpAny_pure z) fun _ _ z => z)
  have bd : PySem.W.Looks M s.heap (bindSpecial (.builtin id) (.ref x)) (.builtin id, [.ref x]) := PySem.W.Looks.of_pure (S _)
  simp only [callSpecialIfBound?, bindSpecialIfBound?]
  refine wpAny_holding (wpAny_bind (wpAny_bind (wpAny_bind (I.type.here ((PySem.W.looks_findIn KX hs).here (wpAny_bind (wpAny_askSetting (wpAny_ite ?_))))))))
  split
  · exact wpAny_bind (bd.here (wpAny_pure (by exact fin)))
  · exact wpAny_tryCatch (wpAny_bind (bd.here (wpAny_pure (by exact fin))))
theorem ne_own {prog : Program} {w : World} {A : Around} {E : Value → Shared → Prop} {Q : Value → Shared → Prop} {K : PySem.W.Frag} {x : Addr} {b tb : Value} {ox : Obj} {od : Option Obj} (hu : A.units + 1 < cLine) (KX : K.In s.heap) (I : PySem.W.InstAt s.heap x ox C od)
    (hb : PySem.W.Looks (model prog w) s.heap (typeOf b) tb) (hn : PySem.W.notFirst K C tb = true) (hs : PySem.W.findIn K (.ref C) "__ne__" = some (some (.builtin "object.__ne__"))) (he : PySem.W.findIn K (.ref C) "__eq__" = some (some (.ref f)))
    (hf : PySem.W.isFn K (.ref f) = true) (hob : PySem.W.subIn K (.ref C) (.type "object") = some true)
    (h : wpAny (model prog w) A.in1 (call (.ref f) [.ref x, b]) (fun r s' => ∃ c, r = .bool c ∧ Q (.bool (!c)) s') E s) : wpAny (model prog w) A (richCompare .NotEq (.ref x) b) Q E s := by
  have hu0 : A.units < cLine := by omega
  have hu1 : A.in1.units < cLine := by show A.units + 1 < cLine; exact hu
  have body : wpAny (model prog w) A.in1 (Builtin.«object.__ne__» ⟨[.ref x, b], []⟩) (fun fin s' => match fin with
      | .done fl => wants (fun v s' => ∃ c, v = .bool c ∧ Q (.bool c) s') E (.ok fl) s'
      | .again c' => c'.quiet = true ∧ codeAny (model prog w) A c' (wants (fun v s' => ∃ c, v = .bool c ∧ Q (.bool c) s') E) s') (fun e s' => wants (fun v s' => ∃ c, v = .bool c ∧ Q (.bool c) s') E (.error e) s') s := by
    unfold Builtin.«object.__ne__»
    refine wpAny_bind (m := slotArgs _ _ _) (wpAny_pure ?_)
    refine wpAny_bind (wpAny_cRoomFor hu1 ?_)
    refine wpAny_bind (m := callSpecialIfBound? (.ref x) (Str.ofString "__eq__") [b]) (PySem.W.ifBound_K KX I he hf (wpAny_mono h (fun r s' z => ?_) fun _ _ z => z))
    obtain ⟨c, rfl, q⟩ := z
    refine wpAny_bind (wpAny_truthy_bool ?_)
    exact wpAny_pure ⟨_, rfl, q⟩
  have one : wpAny (model prog w) A (tryCompare (.ref x) "__ne__" b) (fun r s' => ∃ v, r = some v ∧ Q v s') E s := by
    have chk : PySem.W.Looks (model prog w) s.heap (isInstance (.ref x) (.type "object")) true := I.type.andThen (PySem.W.looks_subIn KX hob)
    have fin : wpAny (model prog w) A (call (.builtin "object.__ne__") [.ref x, b]) (fun v s' => ∃ c, v = .bool c ∧ Q (.bool c) s') E s :=
      wpAny_call (codeAny_call_builtin slot_ne.plain F.cmpEntry_ne (PySem.W.check_slot F.cmpKind_ne F.cmpSplit_ne chk (F.cmpArgs_ne _ _) body))
    unfold tryCompare
    refine wpAny_bind (bound_slot KX I hs slot_ne.bind (wpAny_mono fin (fun v s' z => ?_) fun _ _ z => z))
    obtain ⟨c, rfl, q⟩ := z
    exact wpAny_pure ⟨_, rfl, q⟩
  unfold richCompare
  simp only [oneThing_ref]
  refine wpAny_holding (wpAny_bind (wpAny_cRoomFor hu0 (wpAny_bind (I.type.here (wpAny_bind (hb.here ?_))))))
  have tell : ∀ {t : Option Value → Sem Value}, (∀ v, t (some v) = pure v) → wpAny (model prog w) A (tryCompare (.ref x) "__ne__" b >>= t) Q E s := fun ht => wpAny_bind (wpAny_mono one (fun r s' z => by
    obtain ⟨v, rfl, q⟩ := z
    rw [ht]
    exact wpAny_pure q) fun _ _ z => z)
  split
  · rename_i q
    have e : PySem.W.subIn K tb (.ref C) = some false := by
      rcases Bool.or_eq_true_iff.mp hn with e | e
      · rw [beq_iff_eq.mp e] at q
        simp at q
      · exact beq_iff_eq.mp e
    refine wpAny_bind ((PySem.W.looks_subIn KX e).here ?_)
    simp only [Bool.false_eq_true, if_false]
    exact tell fun _ => rfl
  · refine wpAny_bind (wpAny_pure ?_)
    simp only [Bool.false_eq_true, if_false]
    exact tell fun _ => rfl
theorem op_neO (F : FnOk X.prog X.w X.K X.mg X.base CX0 k f fd ps sp) (hr : Room (k + 1) X.A) (O : Own X.K C "__eq__" f) (hs : PySem.W.findIn X.K (.ref C) "__ne__" = some (some (.builtin "object.__ne__"))) (hob : PySem.W.subIn X.K (.ref C) (.type "object") = some true)
    (hb : Binds X.K fd ps []) : OpR X (compareOp .NotEq) (rEqO X.K C sp fun b => !b) := by
  intro pins s σ H x y v u Q I rx ry h
  obtain ⟨a, dx, fs, t, rfl, ea, ty, nf, q⟩ := h
  obtain rfl : v = Value.ref a := rx
  obtain ⟨ox, od, J⟩ := ins_inst I ea
  obtain ⟨P, Z, p, _⟩ := kit_of I ry ty
  refine ne_own (by have := hr.un; omega) I.kIn J (Z.ty _ _ I.kIn p) nf hs O.at_ O.fn hob (wpAny_mono (run_own F hr.in1 I.env0.in1 hb I (.cons (rel_ref a) (.cons ry .nil)) q) (fun r s' z => ?_) (fun _ _ z => z))
  obtain ⟨y, H', I', ry, b, rfl, q'⟩ := z
  obtain rfl : r = Value.bool b := ry
  exact ⟨b, rfl, .bl (!b), H', I', rfl, q'⟩

/-! ### str(o) -/
def rStrO (C : Addr) (sp : Sp) : List V → Hp → VK → Prop := fun xs H Q => ∃ a dx fs, xs = [.ref a] ∧ H a = some (.ins C dx fs) ∧ sp [.ref a] H (fun v H' => ∃ z, v = .str z ∧ Q (.str z) H') E0
theorem call_strO (F : FnOk X.prog X.w X.K X.mg X.base CX0 k f fd ps sp) (hr : Room (k + 2) X.A) (O : Own X.K C "__str__" f) (hb : Binds X.K fd ps []) : CallR X (.type "str") (rStrO C sp) := by
  intro pins s σ H xs us Q I r h
  obtain ⟨a, dx, fs, rfl, ea, q⟩ := h
  obtain ⟨u, rfl, rx⟩ := vals1 r
  obtain rfl : u = Value.ref a := rx
  obtain ⟨ox, od, J⟩ := ins_inst I ea
  have room2 : Room k X.A.in1.in1 := (Room.in1 hr).in1
  refine PySem.W.kso_call room2.units0 I.kIn J O.at_ O.fn (wpAny_mono (run_own F room2 I.env0.in1.in1 hb I (.cons (rel_ref a) .nil) q) (fun v s' z => ?_) (fun _ _ z => z))
  obtain ⟨y, H', I', ry, n, rfl, q'⟩ := z
  obtain ⟨t, rfl⟩ := ry
  exact ⟨.str n, H', I', ⟨t, rfl⟩, q'⟩

/-! ### cls(..), cls a local name that holds the class -/
def tMakeL (i : Nat) (C : Addr) (sp : Sp) (t : TA) : TE := fun σ H Q => σ[i]? = some (some (.ref C)) ∧ tMake C sp [] E0 t σ H Q
theorem pe_makeL {i : Nat} {x : Str} {p pos : Pos} {e : Expr} {es : List Expr} {t : TA} (M : Mk X.K C f) (F : FnOk X.prog X.w X.K X.mg X.base CX0 k f fd ps sp) (hr : Room (k + 1) X.A) (hN : X.N[i]? = some x) (hv : Vis X.env.scope x) (hb : Binds X.K fd ps []) (ha : PA X (e :: es) t)
    (hdb : (x == ("__debug__" : Str)) = false := by decide) (hcd : (x == ("__classdict__" : Str)) = false := by decide)
    (he : starEach (e :: es) X.env = (false, eval e X.env) :: starEach es X.env := by rfl) (hpl : (backTo pos (starEach es X.env)).any (·.1) = false := by rfl) : PE X (.Call (.Name x p) (e :: es) [] pos) (tMakeL i C sp t) := by
  refine ⟨fun pins s σ H Q I h => ?_⟩
  obtain ⟨hs, ht⟩ := h
  refine wpAny_Call_Name_kw (thn ((pe_var (pos := p) hN hv hdb hcd).run pins s σ H (fun v H1 => v = .ref C ∧ H1 = H) I ⟨.ref C, hs, rfl, rfl⟩) fun u s1 ⟨v, H1, I1, r1, q1⟩ => ?_)
  obtain ⟨rfl, rfl⟩ := q1
  cases r1
  refine PySem.W.callWith_K (h₀ := X.base) I.ok.mod.kin M.kp (thn (ha.run pos pins s1 σ _ _ I1 ht) fun us s2 ⟨vs, H2, I2, r, q⟩ => ⟨I2.kIn, ?_⟩) he hpl
  exact run_make M F hr hb .nil pass0 I2 r q
end
end XB

/-! the head's facts, those of getters and classmethods too -/
namespace HP
open PySem PySem.Spec PyProof.Rows L2
open PySem.W (Frag)
/-- a def that stands at an address which is found by K -/
structure GetD where
  addr : Frag → Addr
  name : Str
  qual : Str
  params : Arguments
  body : List Stmt
  scope : Scope
def bare : Value → Bool
  | .none => true
  | _ => false
def fnA (K : Frag) (a : Addr) : He.FnW := match K.lookup a with
  | some ⟨_, _, .func q, _⟩ => some (q.name, q.qualname, q.params, q.body, q.scope, q.globals, q.closure, q.builtins)
  | _ => none
def GetD.val (d : GetD) : He.FnW := some (d.name, d.qual, d.params, FuncBody.stmts d.body, d.scope, mainGlobals, [], builtinsNs)
def GetD.ok (K : Frag) (d : GetD) : Bool := PySem.W.keepIn K (.ref (d.addr K)) && (match K.lookup (d.addr K) with
  | some ⟨_, _, .func q, _⟩ => PySem.W.codeIn K q.code d.qual && bare q.defaults
  | _ => false)
theorem GetD.funD {K : Frag} {d : GetD} (e : fnA K (d.addr K) = d.val) (c : d.ok K = true) : ∃ fd, FunD K d.name d.qual d.params d.body d.scope [] [] (d.addr K) fd := by
  obtain ⟨kp, c2⟩ := He.ba c
  unfold fnA at e
  cases q : K.lookup (d.addr K) with
  | none =>
    rw [q] at e
    cases e
  | some o =>
    obtain ⟨oc, od, dt, osl⟩ := o
    rw [q] at c2 e
    cases dt with
    | func fd =>
      obtain ⟨a1, a2, a3, a4, a5, a6, a7, a8, a9, a10, a11, a12, a13, a14, a15⟩ := fd
      have e2 : (some (a1, a2, a3, a4, a5, a6, a7, a15) : He.FnW) = some (d.name, d.qual, d.params, FuncBody.stmts d.body, d.scope, mainGlobals, [], builtinsNs) := e
      simp only [Option.some.injEq, Prod.mk.injEq] at e2
      obtain ⟨g1, g2, g3, g4, g5, g6, g7, g8⟩ := e2
      subst g1 g2 g3 g4 g5 g6 g7 g8
      obtain ⟨k1, k2⟩ := He.ba (show (PySem.W.codeIn K a13 d.qual && bare a8) = true from c2)
      have k3 : a8 = .none := by
        cases a8 with
        | none => rfl
        | _ => cases k2
      exact ⟨_, ⟨oc, od, a8, a9, a10, a11, a12, a13, a14, osl, rfl, q, k1, .inl ⟨rfl, k3⟩, .inl rfl⟩, kp⟩
    | _ => cases c2
/-- what is told of K -/
structure SaysP (fa : List He.Fa) (fn : List He.DefD) (gs : List GetD) (ex : Frag → Bool) (w : World) (K : Frag) : Prop where
  t : He.SaysT fa fn [] w K
  gets : gs.map (fun g => fnA K (g.addr K)) = gs.map GetD.val
  fine : (gs.all fun g => g.ok K) = true
  more : ex K = true
abbrev AlP : Type := He.AlT × List He.FnW × Bool
def obsP (n : Nat) (fa : List He.Fa) (fn : List He.DefD) (gs : List GetD) (ex : Frag → Bool) (g : Addr → Option Obj) : AlP :=
  (He.obsT fa fn [] (He.frG g (He5.asA g n)), gs.map (fun d => fnA (He.frG g (He5.asA g n)) (d.addr (He.frG g (He5.asA g n)))), (gs.all fun d => d.ok (He.frG g (He5.asA g n))) && ex (He.frG g (He5.asA g n)))
def valP (fn : List He.DefD) (gs : List GetD) (w : World) : AlP := (He.valT fn [] w, gs.map GetD.val, true)
theorem saysP_of {n : Nat} {fa : List He.Fa} {fn : List He.DefD} {gs : List GetD} {ex : Frag → Bool} {w : World} {h : Heap} (e : obsP n fa fn gs ex h.get? = valP fn gs w) : SaysP fa fn gs ex w (He.frG h.get? (He5.asA h.get? n)) := by
  have e1 := congrArg (fun z : AlP => z.1) e
  have e2 := congrArg (fun z : AlP => z.2.1) e
  have e3 := congrArg (fun z : AlP => z.2.2) e
  obtain ⟨h1, h2⟩ := He.ba e3
  exact ⟨e1, e2, h1, h2⟩
def hookP (n : Nat) (fa : List He.Fa) (fn : List He.DefD) (gs : List GetD) (ex : Frag → Bool) : PySem.W.Hook where
  α := AlP
  obs := fun s => obsP n fa fn gs ex s.heap.get?
  val := fun w => valP fn gs w
  says := fun w h => ∃ K : Frag, K.In h ∧ SaysP fa fn gs ex w K
  of := fun _ _ e => ⟨_, He.frG_in, saysP_of e⟩
  keeps := fun _ _ _ ⟨K, hK, c⟩ k => ⟨K, PySem.W.Frag.In.keeps hK k, c⟩
theorem obsP_eq {n : Nat} {fa : List He.Fa} {fn : List He.DefD} {gs : List GetD} {ex : Frag → Bool} {g : Addr → Option Obj} {s : Shared} (h : ∀ a, g a = s.heap.get? a) : obsP n fa fn gs ex g = (hookP n fa fn gs ex).obs s := by
  have e : g = s.heap.get? := funext h
  rw [e] <;> rfl
theorem SaysP.get {fa : List He.Fa} {fn : List He.DefD} {gs : List GetD} {ex : Frag → Bool} {w : World} {K : Frag} (c : SaysP fa fn gs ex w K) (i : Nat) {d : GetD} (h : gs[i]? = some d := by rfl) : ∃ fd, FunD K d.name d.qual d.params d.body d.scope [] [] (d.addr K) fd := by
  have e : (gs.map fun g => fnA K (g.addr K))[i]? = (gs.map GetD.val)[i]? := by rw [c.gets]
  rw [List.getElem?_map, List.getElem?_map, h] at e
  exact GetD.funD (Option.some.inj e) (List.all_eq_true.mp c.fine d (List.mem_of_getElem? h))
/-! ### a property, a classmethod -/
def propB (K : Frag) (C : Addr) (f : Str) : Bool := He.eqO (PySem.W.findIn K (.ref C) f) (some (some (.ref (He.ma K C f)))) && (He.eqO (PySem.W.specialIn K (.ref (He.ma K C f)) "__get__") (some (some (.builtin "property.__get__"))) &&
  (decide (PySem.W.takesIn K (.ref (He.ma K C f)) = some true) && (match PySem.W.recIn K (He.ma K C f) "property" with
    | some (.ref _ :: _) => true
    | _ => false)))
theorem rec_at {K : Frag} {C : Addr} {T : String} {f : Str} (h : (match PySem.W.recIn K (He.ma K C f) T with
    | some (.ref _ :: _) => true
    | _ => false) = true) : ∃ rest, PySem.W.recIn K (He.ma K C f) T = some (.ref (He5.wf K C T f) :: rest) := by
  unfold He5.wf
  split at h
  · rename_i g r e
    exact ⟨r, by rw [e]⟩
  · cases h
theorem propB_ok {K : Frag} {C : Addr} {f : Str} (h : propB K C f = true) : PropOf K C f (He.ma K C f) (He5.wf K C "property" f) := by
  obtain ⟨h1, h⟩ := He.ba h
  obtain ⟨h2, h⟩ := He.ba h
  obtain ⟨h3, h4⟩ := He.ba h
  exact ⟨He.eqO_ok h1, He.eqO_ok h2, of_decide_eq_true h3, rec_at h4⟩
def clsmB (K : Frag) (C : Addr) (m : Str) : Bool := He5.wrapB K C "classmethod" "classmethod.__get__" m && (PySem.W.fnIn K (He5.wf K C "classmethod" m) && (PySem.W.readsIn K C (.type "type") && He.eqO (PySem.W.specialIn K (.ref C) "__getattribute__") (some (some (.builtin "type.__getattribute__")))))
theorem clsmB_ok {K : Frag} {C : Addr} {m : Str} (h : clsmB K C m = true) : ClX.CMet K C (.type "type") m (He.ma K C m) (He5.wf K C "classmethod" m) ∧ ClX.CRead K C (.type "type") := by
  obtain ⟨h1, h⟩ := He.ba h
  obtain ⟨h2, h⟩ := He.ba h
  obtain ⟨h3, h4⟩ := He.ba h
  obtain ⟨a, b⟩ := He5.wrapB_ok h1
  exact ⟨⟨a, b, h2⟩, ⟨h3, He.eqO_ok h4⟩⟩
end HP

/-! own exceptions with an own __init__, of any base: fields stored, objects made -/
namespace XE
open PySem PySem.W PySem.Calls PyProof.Rows PySem.Spec Builtin Builtin.ObjectAttr
section
variable {prog : Program} {w : World} {A : Around} {R : Result → Shared → Prop} {hp : Heap} {g : Array GenState} {dr : Drawn} {t : Nat} {os : OsState} {K : Frag} {C : Addr} {B : String} {bmB : List Value}
/-- the first field: the dict is made -/
theorem first_field {x : Addr} {fv : Array Value} {name : Str} {tk : Tok} {v : Value} (SF : StoreFacts B bmB "object.__setattr__" "object") (KI : K.In hp) (ov : excOver K C bmB = true) (tn : takerIn K C name = some none) (hh : hasDictIn K C = true)
    (hx : hp.get? x = some { cls := .ref C, data := .fields fv })
    (fin : ∀ h' tk' dx, (∀ b o, b ≠ x → hp.get? b = some o → h'.get? b = some o) → hp.objs.size ≤ dx → dx ≠ x → h'.get? x = some { cls := .ref C, dict := some dx, data := .fields fv } →
      h'.Ns1 dx (fun y => if y = name then some v else none) → R (.ok (.ret .none)) ⟨h', g, dr, tk', os⟩) :
    codeAny (model prog w) A (.call (.builtin "object.__setattr__") ⟨[.ref x, .str name tk, v], []⟩) R ⟨hp, g, dr, t, os⟩ := by
  have away : x ≠ hp.objs.size := Nat.ne_of_lt (Heap.lt_size hx)
  obtain ⟨cd, hcd, hd1⟩ := any_some hh
  have look : Looks (model prog w) hp (classData C) cd := looks_clsIn KI hcd
  refine osa_openX (s := ⟨hp, g, dr, t, os⟩) (od := none) SF KI ⟨hx, rfl, rfl, trivial⟩ ov tn fun b => ?_
  show wpAny _ _ (storeInOwnDict (.ref x) (.ref C) (.str name tk) name v b) _ _ _
  obtain ⟨nm, bs, mro, ns, qn, hdd, sn, sb, ab, col, del⟩ := cd
  dsimp only at hd1
  subst hd1
  unfold storeInOwnDict ownDictForStores
  repeat (first | with_reducible refine PX.store_in_new ?_ ?_ | with_reducible refine wpAny_loadPart_at hx ?_ | with_reducible refine look.at ?_ | wp_step)
  · exact ⟨_, #[], _, (Heap.get?_update_ne _ _ _ _ away.symm).trans (Heap.get?_push_at rfl rfl), rfl, fun e he => absurd he (by simp), fun _ => rfl⟩
  · intro h' tk' hn' hs
    have hx1 : (hp.push { cls := .type "dict", data := .dict #[] }).get? x = some { cls := .ref C, data := .fields fv } := Heap.get?_push_of_some _ hx
    refine fin h' tk' hp.objs.size (fun b o hb ho => ?_) (Nat.le_refl _) away.symm ?_ hn'
    · exact (hs.2 b (Nat.ne_of_lt (Heap.lt_size ho))).trans ((Heap.get?_update_ne _ _ _ _ hb).trans (Heap.get?_push_of_some _ ho))
    · exact (hs.2 x away).trans (Heap.get?_update_self _ hx1 rfl)
/-- a further field -/
theorem more_field {x dx : Addr} {fv : Array Value} {name : Str} {tk : Tok} {v : Value} {m0 : Str → Option Value} {nl : List Str} (SF : StoreFacts B bmB "object.__setattr__" "object") (KI : K.In hp) (ov : excOver K C bmB = true) (tn : takerIn K C name = some none) (hh : hasDictIn K C = true)
    (hx : hp.get? x = some { cls := .ref C, dict := some dx, data := .fields fv }) (hns : hp.Ns1 dx m0) (hw : Within m0 nl) (hz : nl.length ≤ 1000)
    (fin : ∀ h' tk', (∀ b o, b ≠ dx → hp.get? b = some o → h'.get? b = some o) → h'.Ns1 dx (fun y => if y = name then some v else m0 y) → R (.ok (.ret .none)) ⟨h', g, dr, tk', os⟩) :
    codeAny (model prog w) A (.call (.builtin "object.__setattr__") ⟨[.ref x, .str name tk, v], []⟩) R ⟨hp, g, dr, t, os⟩ := by
  obtain ⟨oD, _, _, hoD, _, _⟩ := hns.count hw
  obtain ⟨cd, hcd, hd1⟩ := any_some hh
  have look : Looks (model prog w) hp (classData C) cd := looks_clsIn KI hcd
  refine osa_openX (s := ⟨hp, g, dr, t, os⟩) (od := some oD) SF KI ⟨hx, rfl, rfl, hoD⟩ ov tn fun b => ?_
  show wpAny _ _ (storeInOwnDict (.ref x) (.ref C) (.str name tk) name v b) _ _ _
  obtain ⟨nm, bs, mro, ns, qn, hdd, sn, sb, ab, col, del⟩ := cd
  dsimp only at hd1
  subst hd1
  unfold storeInOwnDict ownDictForStores
  repeat (first | with_reducible refine PX.store_in_old hns hw hz ?_ | with_reducible refine wpAny_loadPart_at hx ?_ | with_reducible refine look.at ?_ | wp_step)
  intro h' tk' hn' hs
  exact fin h' tk' (fun b o hb ho => (hs.2 b hb).trans ho) hn'
end
end XE

/-! own exceptions with an own __init__, in the layer -/
namespace XE
open PySem PySem.Spec PyProof.Rows L2
open PySem.W (Frag)
/-- what the written part says of an own exception class with its own __init__, of any base -/
structure InitC (K : Frag) (C fI : Addr) : Prop where
  how : ∃ B newId initId bmB, ExcBaseFacts B newId initId bmB ∧ StoreFacts B bmB "object.__setattr__" "object" ∧ PySem.W.excInitIn K C bmB newId = true ∧ PySem.W.excOver K C bmB = true
  sa : PySem.W.findIn K (.ref C) "__setattr__" = some (some (.builtin "object.__setattr__"))
  hd : PySem.W.hasDictIn K C = true
  iC : PySem.W.findIn K (.ref C) "__init__" = some (some (.ref fI))
  fI : PySem.W.isFn K (.ref fI) = true
  kC : PySem.W.keepIn K (.ref C) = true
section
variable {X : Cx} {pins : List (Addr × Obj)} {σ : L2.St} {H : Hp} {s : Shared} {a C fI dx : Addr} {f : Str} {y : V} {u : Value} {fs : List (Str × V)} {Q : Unit → Shared → Prop} {E : Value → Shared → Prop} {A : Around}
theorem put_first (T : InitC X.K C fI) (I : Inv X pins σ H s) (ea : H a = some (exo a C none)) (tn : PySem.W.takerIn X.K C f = some none) (ry : RelV y u)
    (h : ∀ d s', H d = none → d ≠ a → Inv X pins σ (upd (upd H d (exd d [(f, y)])) a (exo a C (some d))) s' → Q () s') : wpAny (model X.prog X.w) A (setAttr (.ref a) f u) Q E s := by
  obtain ⟨B, newId, initId, bmB, FB, SF, -, ov⟩ := T.how
  obtain ⟨tt, there⟩ := exo_at I.hok ea
  obtain ⟨hp, g, dr, t, os⟩ := s
  refine PySem.W.set_plain I.kIn (ox := { cls := .ref C, dict := none, data := .fields #[.ref tt, .none, .none, .none, .bool false, .none] }) (od := none) ⟨there, rfl, rfl, trivial⟩ T.sa ?_
  refine first_field SF I.kIn ov tn T.hd there fun h' tk' d keep dn dne hxa hns => ?_
  have fresh : H d = none := I.hok.fresh dn
  have old : ∀ {b : Addr} {o : Obj}, hp.get? b = some o → b ≠ d := fun {b o} q => Nat.ne_of_lt (Nat.lt_of_lt_of_le (Heap.lt_size q) dn)
  have apart : ∀ {b : Addr}, H b = none → b ≠ a := fun {b} n z => by
    subst z
    rw [ea] at n
    cases n
  refine h d ⟨h', g, dr, tk', os⟩ fresh dne (I.un (t' := tk') ?_ fun b o q => ?_)
  · exact {
      keep := fun b o q n _ _ => keep b o (apart n) q
      slot := fun b o q n _ _ => ⟨o.slots, keep b o (apart n) q⟩
      free := fun b o q n _ => (upd_ne (apart n)).trans ((upd_ne (old q)).trans n)
      there := fun b o q _ => by
        rcases Classical.em (b = a) with e | e
        · subst e
          exact ⟨_, hxa⟩
        · exact ⟨o, keep b o e q⟩
      tups := fun b xs q => (upd_ne (at_ne ea q exo_tup)).trans ((upd_ne (ne_of_none q fresh)).trans q)
      frzs := fun b o v q => (upd_ne (at_ne ea q exo_frz)).trans ((upd_ne (ne_of_none q fresh)).trans q)
      tbls := fun b ps q => ⟨#[], by rw [Array.append_empty]; exact (upd_ne (at_ne ea q exo_tbl)).trans ((upd_ne (ne_of_none q fresh)).trans q)⟩ }
  · rcases Classical.em (b = a) with e | e
    · subst e
      obtain rfl := Option.some.inj (upd_same.symm.trans q)
      exact exo_ok hxa
    · rw [upd_ne e] at q
      rcases Classical.em (b = d) with e2 | e2
      · subst e2
        obtain rfl := Option.some.inj (upd_same.symm.trans q)
        exact exd_ok hns (relO_put (fs := []) ry fun _ => True.intro)
      · rw [upd_ne e2] at q
        refine (I.hok b o q).stay (fun c v hc z => keep c v ?_ z) (fun c hc => (upd_ne (at_ne ea hc exo_own)).trans ((upd_ne (ne_of_none hc fresh)).trans hc)) fun c xs hc => (upd_ne (at_ne ea hc exo_tup)).trans ((upd_ne (ne_of_none hc fresh)).trans hc)
        rcases hc with hc | hc
        · rw [hc]; exact e
        · exact at_ne ea hc exo_own
theorem put_more (T : InitC X.K C fI) (I : Inv X pins σ H s) (ea : H a = some (exo a C (some dx))) (ed : H dx = some (exd dx fs)) (few : fs.length ≤ 900) (tn : PySem.W.takerIn X.K C f = some none) (ry : RelV y u)
    (h : ∀ s', Inv X pins σ (upd H dx (exd dx ((f, y) :: fs))) s' → Q () s') : wpAny (model X.prog X.w) A (setAttr (.ref a) f u) Q E s := by
  obtain ⟨B, newId, initId, bmB, FB, SF, -, ov⟩ := T.how
  obtain ⟨tt, there⟩ := exo_at I.hok ea
  obtain ⟨mA, hns, rel⟩ := exd_at I.hok ed
  have hw := within_of rel
  obtain ⟨hp, g, dr, t, os⟩ := s
  obtain ⟨oD, _, _, hoD, _, _⟩ := hns.count hw
  refine PySem.W.set_plain I.kIn (ox := { cls := .ref C, dict := some dx, data := .fields #[.ref tt, .none, .none, .none, .bool false, .none] }) (od := some oD) ⟨there, rfl, rfl, hoD⟩ T.sa ?_
  refine more_field SF I.kIn ov tn T.hd there hns hw (by rw [List.length_map]; omega) fun h' tk' keep hn => ?_
  have gone : ∃ o, h'.get? dx = some o := ⟨hn.choose, hn.choose_spec.choose_spec.choose_spec.1⟩
  exact h _ (I.write (t' := tk') (x := dx) (e := dx) (o := exd dx ((f, y) :: fs)) (by rw [ed]; exact True.intro) (.inl rfl) keep gone (exd_ok hn (relO_put ry rel)))
end
/-- self.f = e in such an __init__ -/
def tPut (K : Frag) (f : Str) (to te : TE) : TS := fun D σ H => te σ H fun y H1 => to σ H1 fun x H2 => ∃ a C fI : Addr, x = .ref a ∧ InitC K C fI ∧ PySem.W.takerIn K C f = some none ∧
  ((H2 a = some (exo a C none) ∧ ∀ d, H2 d = none → d ≠ a → D.nx σ (upd (upd H2 d (exd d [(f, y)])) a (exo a C (some d)))) ∨
    ∃ (d : Addr) (fs : List (Str × V)), H2 a = some (exo a C (some d)) ∧ H2 d = some (exd d fs) ∧ fs.length ≤ 900 ∧ D.nx σ (upd H2 d (exd d ((f, y) :: fs))))
section
variable {X : Cx} {o e : Expr} {to te : TE} {f : Str} {p' pos : Pos}
theorem ps_put (ho : PE X o to) (he : PE X e te) (hs : swapsWith e (some (.Attribute o f p')) pos.line X.env = pure false := by rfl) : PS X (.Assign [.Attribute o f p'] e pos) (tPut X.K f to te) := by
  refine ⟨fun pins s σ H D I h => ?_⟩
  refine plainObj_wpAny_Assign_Attribute (thn (he.run pins s σ H _ I h) fun v s1 ⟨y, H1, I1, r1, q1⟩ => thn (ho.run pins s1 σ H1 _ I1 q1) fun u s2 ⟨x, H2, I2, r2, hz⟩ => ?_) hs
  obtain ⟨a, C, fI, rfl, T, tn, q⟩ := hz
  cases (show u = Value.ref a from r2)
  rcases q with ⟨ea, q⟩ | ⟨d, fs, ea, ed, few, q⟩
  · exact put_first T I2 ea tn r1 fun d s' n ne J => ⟨σ, _, J, q d n ne⟩
  · exact put_more T I2 ea ed few tn r1 fun s' J => ⟨σ, _, J, q⟩
end
end XE

/-! C(e, ..) for such a class: as a value, and raised -/
namespace XE
open PySem PySem.Spec PyProof.Rows L2
open PySem.W (Frag)
section
variable {X : Cx} {CX : CXT} {pins : List (Addr × Obj)} {σ : L2.St} {H : Hp} {s : Shared} {C fI : Addr} {k : Nat} {fd : FuncData} {ps : List Str} {sp : Sp} {E : XK} {us : List Value} {vs : List V} {Q1 : VK}
/-- the call of the class: what its __init__ leaves -/
theorem run_new {Z : Value → Shared → Prop} (T : InitC X.K C fI) (F1 : FnOk X.prog X.w X.K X.mg X.base CX k fI fd ps sp) (hr : Room (k + 1) X.A) (hb : Binds X.K fd ps []) (hx : Passes CX X E)
    (I : Inv X pins σ H s) (r : Vals vs us) (few : us.length ≤ 1000)
    (h : H (s.heap.objs.size + 1) = none → sp (.ref (s.heap.objs.size + 1) :: vs) (upd H (s.heap.objs.size + 1) (exo (s.heap.objs.size + 1) C none)) Q1 E)
    (fin : ∀ u s' hp2, (∀ b o, s.heap.get? b = some o → hp2.get? b = some o) → CE X.stack X.prog X.w (upd H (s.heap.objs.size + 1) (exo (s.heap.objs.size + 1) C none)) { s with heap := hp2 } Q1 u s' →
      Inv X pins σ (upd H (s.heap.objs.size + 1) (exo (s.heap.objs.size + 1) C none)) { s with heap := hp2 } → u = .none ∧ Z (.ref (s.heap.objs.size + 1)) s') :
    wpAny (model X.prog X.w) X.A (call (.ref C) us) Z X.xe s := by
  obtain ⟨B, newId, initId, bmB, FB, -, ini, -⟩ := T.how
  obtain ⟨nm, N', qn, bs, bm, hdct, sn, sub, ab, col, dd, k0, k1, k2, k3, k5, hC, hT⟩ := PySem.W.excInit_of I.kIn ini
  obtain ⟨hp, g, dr, tk, os⟩ := s
  have next : hp.objs.size ≤ hp.objs.size + 1 := Nat.le_succ _
  have start := h (I.hok.fresh next)
  have grown : ∀ b o, hp.get? b = some o → ((hp.push (PySem.W.kdv_tup us)).push (PX.excO C hp.objs.size)).get? b = some o := fun b o e => Heap.get?_push_of_some _ (Heap.get?_push_of_some _ e)
  have laid : ((hp.push (PySem.W.kdv_tup us)).push (PX.excO C hp.objs.size)).get? (hp.objs.size + 1) = some (PX.excO C hp.objs.size) := by heap_get
  have J : Inv X pins σ (upd H (hp.objs.size + 1) (exo (hp.objs.size + 1) C none)) ⟨(hp.push (PySem.W.kdv_tup us)).push (PX.excO C hp.objs.size), g, dr, tk, os⟩ :=
    I.laid (t' := tk) (a := hp.objs.size + 1) grown next (exo_ok laid)
  have rr : Vals (V.ref (hp.objs.size + 1) :: vs) (Value.ref (hp.objs.size + 1) :: us) := .cons rfl r
  have many : (Value.ref (hp.objs.size + 1) :: us).length = ps.length := (rr.length.symm).trans (F1.len _ _ _ _ start)
  have bound := hb _ (Value.ref (hp.objs.size + 1) :: us) J.kIn (by rw [List.append_nil]; exact many)
  rw [List.append_nil] at bound
  have small : us.length ≤ sizeLine := Nat.le_trans few (by decide)
  have isf : PySem.W.typeIn X.K (.ref fI) = some (.type "function") := beq_iff_eq.mp T.fI
  refine wpAny_call (PX.call_own FB hT hC (PySem.W.looks_findIn I.kIn T.iC) (fun self => PySem.W.bind_fn I.kIn self isf) small
    (codeAny_mono (F1.run _ X.stack _ _ ⟨Value.ref (hp.objs.size + 1) :: us, []⟩ _ _ _ E (hr.make C us []) (J.env0.make C us []) bound rr start) fun r s' done => ?_))
  cases r with
  | error er => exact hx pins σ _ _ er s' J done
  | ok fl =>
    cases fl with
    | ret u => exact fin u s' _ grown done J
    | next => exact False.elim done
    | brk => exact False.elim done
    | cont => exact False.elim done
end
/-- C(e, ..) as a value -/
def tNew (C : Addr) (sp : Sp) (E : XK) (ta : TA) : TE := fun σ H Q => ta σ H fun vs H1 => vs.length ≤ 1000 ∧ ∀ a, H1 a = none → sp (.ref a :: vs) (upd H1 a (exo a C none)) (fun v H2 => v = .non ∧ Q (.ref a) H2) E
/-- C(e, ..) to be raised -/
def tNewX (C : Addr) (sp : Sp) (ta : TA) : L2.St → Hp → XK → Prop := fun σ H Q => ta σ H fun vs H1 => vs.length ≤ 1000 ∧ ∀ a, H1 a = none → sp (.ref a :: vs) (upd H1 a (exo a C none))
  (fun v H2 => v = .non ∧ ∃ (d : Addr) (fs : List (Str × V)), H2 a = some (exo a C (some d)) ∧ H2 d = some (exd d fs) ∧ H1 d = none ∧ Q (.ref C) (some d) (upd (del H2 a) d (.xd fs))) E0
section
variable {X : Cx} {CX : CXT} {C fI : Addr} {k : Nat} {fd : FuncData} {ps : List Str} {sp : Sp} {E : XK} {x : Str} {e : Expr} {es : List Expr} {p pos : Pos} {ta : TA}
theorem pe_new (T : InitC X.K C fI) (F1 : FnOk X.prog X.w X.K X.mg X.base CX k fI fd ps sp) (hr : Room (k + 1) X.A) (hb : Binds X.K fd ps []) (hx : Passes CX X E) (hg : Gl X x) (hm : X.mg x = some (.ref C)) (ha : PA X (e :: es) ta)
    (hdb : (x == ("__debug__" : Str)) = false := by decide) (he : starEach (e :: es) X.env = (false, eval e X.env) :: starEach es X.env := by rfl) (hpl : (backTo pos (starEach es X.env)).any (·.1) = false := by rfl) :
    PE X (.Call (.Name x p) (e :: es) [] pos) (tNew C sp E ta) := by
  refine ⟨fun pins s σ H Q I h => ?_⟩
  refine wpAny_Call_Name_kw (ld_glob I hg hm ?_ hdb)
  refine PySem.W.callWith_K (h₀ := X.base) I.ok.mod.kin T.kC (thn (ha.run pos pins s σ H _ I h) fun us s1 ⟨vs, H1, I1, r1, few, go⟩ => ⟨I1.kIn, ?_⟩) he hpl
  refine run_new T F1 hr hb hx I1 r1 (by rw [List.nil_append, ← r1.length]; exact few) (go _) fun u s' hp2 _ done J => ?_
  obtain ⟨v, H2, J2, rv, rfl, q⟩ := J.after done
  exact ⟨rv, .ref _, H2, J2, rfl, q⟩
theorem pmk_new (T : InitC X.K C fI) (R : Raises X (.ref C)) (F1 : FnOk X.prog X.w X.K X.mg X.base CX0 k fI fd ps sp) (hr : Room (k + 1) X.A) (hb : Binds X.K fd ps []) (hg : Gl X x) (hm : X.mg x = some (.ref C)) (ha : PA X (e :: es) ta)
    (hdb : (x == ("__debug__" : Str)) = false := by decide) (he : starEach (e :: es) X.env = (false, eval e X.env) :: starEach es X.env := by rfl) (hpl : (backTo pos (starEach es X.env)).any (·.1) = false := by rfl) :
    PMk X (.Call (.Name x p) (e :: es) [] pos) (tNewX C sp ta) := by
  intro pins s σ H Q I h
  refine wpAny_Call_Name_kw (ld_glob I hg hm ?_ hdb)
  refine PySem.W.callWith_K (h₀ := X.base) I.ok.mod.kin T.kC (thn (ha.run pos pins s σ H _ I h) fun us s1 ⟨vs, H1, I1, r1, few, go⟩ => ⟨I1.kIn, ?_⟩) he hpl
  refine run_new T F1 hr hb pass0 I1 r1 (by rw [List.nil_append, ← r1.length]; exact few) (go _) fun u s' hp2 grown done J => ?_
  obtain ⟨hp, g, dr, tk, os⟩ := s1
  obtain ⟨h2, g2, d2, t2, o2⟩ := s'
  obtain ⟨v, H2, os2, bare2, un2, hok2, rv, rfl, d, fs, ea, ed, hd1, q⟩ := done
  exact ⟨rv, mk_end R I1 (Nat.le_succ _) grown un2 hok2 os2 bare2 ea ed hd1 q⟩
end
end XE

/-! try: body, then clauses of any kind: one class or a tuple of classes, with a name or without -/
namespace XE
open PySem PySem.Spec PyProof.Rows L2
open PySem.W (Frag)
/-! ### except (C1, C2, ..) -/
theorem loop_pass {M : Model} {A : Around} {E : Value → Shared → Prop} {s : Shared} {f : Value → PUnit → Sem (ForInStep PUnit)} : ∀ (cs : List Value), (∀ c ∈ cs, ∀ Q : ForInStep PUnit → Shared → Prop, Q (.yield PUnit.unit) s → wpAny M A (f c PUnit.unit) Q E s) →
    ∀ {Q : PUnit → Shared → Prop}, Q PUnit.unit s → wpAny M A (forIn cs PUnit.unit f) Q E s
  | [], _, _, q => by
    rw [List.forIn_nil]
    exact wpAny_pure q
  | c :: cs, h, _, q => by
    rw [List.forIn_cons]
    exact wpAny_bind (h c List.mem_cons_self _ (loop_pass cs (fun c' hc => h c' (List.mem_cons_of_mem _ hc)) q))
theorem loop_find {M : Model} {A : Around} {E : Value → Shared → Prop} {s : Shared} {t : Value → Bool} {f : Value → (Option Bool × Unit) → Sem (ForInStep (Option Bool × Unit))} : ∀ (cs : List Value),
    (∀ c ∈ cs, ∀ Q : ForInStep (Option Bool × Unit) → Shared → Prop, Q (if t c = true then .done (some true, ()) else .yield (none, ())) s → wpAny M A (f c (none, ())) Q E s) →
    ∀ {Q : (Option Bool × Unit) → Shared → Prop}, Q (if cs.any t = true then (some true, ()) else (none, ())) s → wpAny M A (forIn cs ((none, ()) : Option Bool × Unit) f) Q E s
  | [], _, _, q => by
    rw [List.forIn_nil]
    exact wpAny_pure q
  | c :: cs, h, _, q => by
    rw [List.forIn_cons]
    refine wpAny_bind (h c List.mem_cons_self _ ?_)
    rw [List.any_cons] at q
    cases e : t c with
    | true =>
      rw [e, Bool.true_or, if_pos rfl] at q
      rw [if_pos rfl]
      exact wpAny_pure q
    | false =>
      rw [e, Bool.false_or] at q
      rw [if_neg Bool.false_ne_true]
      exact loop_find cs (fun c' hc => h c' (List.mem_cons_of_mem _ hc)) q
theorem any_is {K : Frag} {cls : Value} : ∀ (cs : List Value) (b : Bool), PySem.W.exmAny K cls cs = some b → (cs.any fun c => PySem.W.exmOne K cls c == some true) = b ∧ ∀ c ∈ cs, PySem.W.exmOne K cls c = some (PySem.W.exmOne K cls c == some true)
  | [], b, h => ⟨Option.some.inj h, fun _ z => nomatch z⟩
  | c :: cs, b, h => by
    obtain ⟨b1, d1, h1, h2, rfl⟩ := PySem.W.exmAny_cons h
    obtain ⟨i1, i2⟩ := any_is cs d1 h2
    have e1 : (PySem.W.exmOne K cls c == some true) = b1 := by rw [h1]; cases b1 <;> rfl
    refine ⟨by rw [List.any_cons, i1, e1], fun c' hc => ?_⟩
    rcases List.mem_cons.mp hc with rfl | hc
    · rw [e1]; exact h1
    · exact i2 c' hc
theorem tup_matches {M : Model} {K : Frag} {h : Heap} {cls : Value} {e tp : Addr} {n : Nat} (KI : K.In h) (LT : PySem.W.Looks M h (typeOf (.ref e)) cls) :
    ∀ (cs : List Value) (b : Bool), h.get? tp = some { cls := .type "tuple", data := .seq cs.toArray n } → PySem.W.exmAny K cls cs = some b → PySem.W.Looks M h (excMatches (.ref e) (.ref tp)) b := by
  intro cs b htp ok A Q E s k q
  obtain ⟨hh, g, d, tk, os⟩ := s
  obtain ⟨eb, each⟩ := any_is cs b ok
  have isT : PySem.W.Looks M h (isInstance (.ref tp) (.type "tuple")) true := ((PySem.W.Looks.ld htp).andThen .now).andThen (PySem.W.Looks.of_pure isSubtype_tuple_tuple)
  unfold excMatches
  refine wpAny_bind ((isT.keeps k).at ?_)
  dsimp only
  rw [if_pos rfl]
  first
    | refine wpAny_bind (wpAny_seqItems (k _ _ htp) rfl (wpAny_bind (wpAny_pure ?_)))
    | refine wpAny_bind (wpAny_bind (wpAny_seqItems (k _ _ htp) rfl (wpAny_pure ?_)))
  dsimp only [Option.getD_some, Option.getD]
  refine wpAny_bind (loop_pass cs (fun c hc Q1 q1 => ?_) ?_)
  · obtain ⟨x1, _⟩ := PySem.W.exm_cls (M := M) KI (each c hc)
    refine wpAny_bind ((x1.keeps k).at ?_)
    exact wpAny_pure q1
  · refine wpAny_bind ((LT.keeps k).at (wpAny_bind (loop_find (t := fun c => PySem.W.exmOne K cls c == some true) cs (fun c hc Q1 q1 => ?_) ?_)))
    · obtain ⟨_, x2⟩ := PySem.W.exm_cls (M := M) KI (each c hc)
      refine wpAny_bind ((x2.keeps k).at ?_)
      cases e : (PySem.W.exmOne K cls c == some true) with
      | true =>
        simp only [e, if_true] at q1 ⊢
        exact wpAny_pure q1
      | false =>
        simp only [e] at q1 ⊢
        exact wpAny_pure q1
    · rw [eb]
      cases b with
      | true => exact wpAny_pure q
      | false => exact wpAny_pure q
/-! ### the clauses' tests -/
/-- the test of a clause names these classes, whatever exception is handled; it makes nothing but, perhaps, a tuple -/
def Tests (X : Cx) (t : Expr) (cs : List Value) : Prop := ∀ (a : Addr) (oe : Obj) (pn : List (Addr × Obj)) (σ : L2.St) (H : Hp) (s : Shared) (cls : Value) (b : Bool), Inv (X.suite a ((a, oe) :: pn)) [] σ H s → s.heap.get? a = some oe → oe.cls = cls → PySem.W.exmAny X.K cls cs = some b →
  ∀ {Q : Value → Shared → Prop} {E : Value → Shared → Prop}, (∀ h' t' c, (∀ b o, s.heap.get? b = some o → h'.get? b = some o) → PySem.W.Looks (model X.prog X.w) h' (excMatches (.ref a) c) b → Q c { s with heap := h', toks := t' }) →
    wpAny (model X.prog X.w) (X.A.mark (some (.ref a))) (eval t X.env) Q E s
section
variable {X : Cx}
theorem cls_looks {M : Model} {h : Heap} {a : Addr} {oe : Obj} {cls : Value} (he : h.get? a = some oe) (hc : oe.cls = cls) : PySem.W.Looks M h (typeOf (.ref a)) cls := fun A Q E s k q => wpAny_typeOf_ref (k _ _ he) (by rw [hc]; exact q)
/-- a class's name, looked up in an except clause -/
theorem name_eval {x : Str} {c : Value} {np : Pos} {a : Addr} {oe : Obj} {pn : List (Addr × Obj)} {σ : L2.St} {H : Hp} {s : Shared} (hc : Names X x c) (I : Inv (X.suite a ((a, oe) :: pn)) [] σ H s) {Q : Value → Shared → Prop} {E : Value → Shared → Prop} (q : Q c s) :
    wpAny (model X.prog X.w) (X.A.mark (some (.ref a))) (eval (.Name x np) X.env) Q E s := by
  obtain ⟨hg, hdbg, hm | ⟨hm, hv, hnn⟩⟩ := hc
  · exact ld_glob (X := X.suite a ((a, oe) :: pn)) I hg hm q hdbg
  · exact ld_blt (X := X.suite a ((a, oe) :: pn)) I hg hm hv q hnn hdbg
theorem tests_name {x : Str} {c : Value} {np : Pos} (hc : Names X x c) : Tests X (.Name x np) [c] := by
  intro a oe pn σ H s cls b I he hcl ok Q E q
  obtain ⟨b1, d1, h1, h2, rfl⟩ := PySem.W.exmAny_cons ok
  obtain rfl : false = d1 := Option.some.inj h2
  refine name_eval hc I ?_
  rw [Bool.or_false] at q
  exact q s.heap s.toks c (fun _ _ z => z) (PySem.W.exm_one I.kIn (cls_looks he hcl) h1)
/-- the names of a tuple of classes -/
inductive NamesAll (X : Cx) : List Expr → List Value → Prop
  | nil : NamesAll X [] []
  | cons {x : Str} {c : Value} {np : Pos} {es : List Expr} {cs : List Value} (h : Names X x c) (r : NamesAll X es cs) : NamesAll X (.Name x np :: es) (c :: cs)
theorem names_eval {pos : Pos} {a : Addr} {oe : Obj} {pn : List (Addr × Obj)} {σ : L2.St} {H : Hp} {s : Shared} (I : Inv (X.suite a ((a, oe) :: pn)) [] σ H s) {es : List Expr} {cs : List Value} (h : NamesAll X es cs) :
    ∀ {Q : List Value → Shared → Prop} {E : Value → Shared → Prop}, Q cs s → wpAny (model X.prog X.w) (X.A.mark (some (.ref a))) (spliced (backTo pos (starEach es X.env))) Q E s := by
  induction h with
  | nil => exact fun q => wpAny_items_nil q
  | cons h r ih => exact fun q => wpAny_items_cons (name_eval h I (ih q))
theorem tests_tuple {es : List Expr} {cs : List Value} {k : Nat} {np : Pos} (hc : NamesAll X es cs) (few : cs.length ≤ 100) : Tests X (.Tuple es k np) cs := by
  intro a oe pn σ H s cls b I he hcl ok Q E q
  refine wpAny_Tuple (names_eval I hc ⟨Nat.le_trans few (by decide), ?_⟩)
  have grown : ∀ b o, s.heap.get? b = some o → (s.heap.push { cls := .type "tuple", data := .seq cs.toArray }).get? b = some o := fun _ _ z => Heap.get?_push_of_some _ z
  exact q _ s.toks _ grown (tup_matches (PySem.W.Frag.In.keeps I.kIn grown) (cls_looks (grown _ _ he) hcl) cs b (Heap.get?_push_size s.heap rfl) ok)
end
/-! ### the statement -/
/-- a clause: its classes, the slot of its name, its suite -/
structure Cl where
  cs : List Value
  slot : Option Nat
  ts : Addr → Value → Option Addr → TS
/-- the name of a clause is gone behind its suite -/
def wipeE (D : Ends) (i : Nat) : Ends := { nx := fun σ' H' => D.nx (σ'.set i none) H', rt := D.rt, bk := fun σ' H' => D.bk (σ'.set i none) H', ct := fun σ' H' => D.ct (σ'.set i none) H' }
def enters (D : Ends) (c : Cl) (cls : Value) (d : Option Addr) (a : Addr) (σ : L2.St) (H : Hp) : Prop := match c.slot with
  | none => c.ts a cls d D σ H
  | some i => c.ts a cls d (wipeE D i) (σ.set i (some (.ref a))) H
def wAll (K : Frag) (Wout : WX) (D : Ends) : List Cl → WX
  | [] => Wout
  | c :: r => fun cls d σ H => ∃ b, PySem.W.exmAny K cls c.cs = some b ∧ (b = true → ∀ a, H a = none → enters D c cls d a σ H) ∧ (b = false → wAll K Wout D r cls d σ H)
inductive Hds (X : Cx) : List ExceptHandler → List Cl → Prop
  | nil : Hds X [] []
  | plain {t : Expr} {cs : List Value} {ts : Addr → Value → Option Addr → TS} {b₀ : Stmt} {suite : List Stmt} {hp : Pos} {hds : List ExceptHandler} {l : List Cl} (ht : Tests X t cs)
      (hsu : ∀ (a : Addr) (oe : Obj) (cls : Value) (d : Option Addr) (pn : List (Addr × Obj)), Zc cls d oe → (∃ vs, oe.data = .fields vs) → PSs (X.suite a ((a, oe) :: pn)) (b₀ :: suite) (ts a cls d)) (r : Hds X hds l) :
      Hds X (.ExceptHandler (some t) none (b₀ :: suite) hp :: hds) (⟨cs, none, ts⟩ :: l)
  | named {t : Expr} {n : Str} {i : Nat} {cs : List Value} {ts : Addr → Value → Option Addr → TS} {b₀ : Stmt} {suite : List Stmt} {hp : Pos} {hds : List ExceptHandler} {l : List Cl} (ht : Tests X t cs) (hi : X.N[i]? = some n) (hln : X.env.kindOf n = some .local)
      (hsu : ∀ (a : Addr) (oe : Obj) (cls : Value) (d : Option Addr) (pn : List (Addr × Obj)), Zc cls d oe → (∃ vs, oe.data = .fields vs) → PSs (X.suite a ((a, oe) :: pn)) (b₀ :: suite) (ts a cls d)) (r : Hds X hds l) :
      Hds X (.ExceptHandler (some t) (some n) (b₀ :: suite) hp :: hds) (⟨cs, some i, ts⟩ :: l)
theorem flying_grown {base h h' : Heap} {l : List Env} {e : Addr} {Z : Obj → Prop} (fl : PySem.HandSPX.FlyingZ base l e Z h) (k : ∀ b o, h.get? b = some o → h'.get? b = some o) : PySem.HandSPX.FlyingZ base l e Z h' := by
  obtain ⟨k1, k2, k3, oe, vs, T, oT, ts, h1, h2, h3, h4, h5, h6, h7, h8, h9⟩ := fl
  exact ⟨fun b o z => k b o (k1 b o z), k2, k3.of_keeps fun b o z _ => ⟨o, k b o z, rfl⟩, oe, vs, T, oT, ts, k _ _ h1, h2, h3, h4, h5, h6, k _ _ h7, h8, h9⟩
section
variable {X : Cx} {body : List Stmt} {h₀ : ExceptHandler} {hds : List ExceptHandler} {l : List Cl} {pos : Pos} {tb : WX → TS} {Wout : WX}
theorem ps_try_all (hs : X.stack = X.env :: X.outer) (hf : X.env.frame = some X.env.locals) (hN : X.N.Nodup) (tk : Takes X Wout)
    (hb : ∀ (W : WX) (pn : List (Addr × Obj)) (xe : Value → Shared → Prop), Takes (X.tr pn xe) W → PassesOwn (model X.prog X.w) X.A X.env xe → PSs (X.tr pn xe) body (tb W))
    (hh : Hds X (h₀ :: hds) l) : PS X (.Try body (h₀ :: hds) [] [] pos) (fun D σ H => tb (wAll X.K Wout D l) D σ H) := by
  refine ⟨fun pins s σ H D I h => ?_⟩
  have ok := I.ok
  have frames : X.A.frames = some (X.env :: X.outer) := ok.frames.trans (congrArg some hs)
  refine wpAny_Try_except (wpAny_mono ((hb (wAll X.K Wout D l) (X.pn ++ pins) _ (fun u s' xx => ?_) PassesOwn.looking).run [] s σ H D (I.toTry _) h) (fun f s1 out => ?_) fun _ _ z => z)
  · obtain ⟨a, B, sI, pins', σ', H', cls, d, rfl, J', nb, up, sky, na, os, ag, w⟩ := xx
    have J : Inv X pins σ' H' sI := J'.ofTry ok
    rw [hs] at sky
    refine Sky.land Zc.steady frames hf sky fun h3 fl3 up3 => ?_
    obtain ⟨oe3, vs3, he3, hz3, hd3⟩ := fl3.there
    have nofr : a ∉ frs (X.env :: X.outer) := fun hm => by
      obtain ⟨_, o', e', hnf⟩ := fl3.2.2.1.mem hm
      obtain rfl := Option.some.inj (he3.symm.trans e')
      exact hnf _ hd3
    have nL : a ≠ X.env.locals := fun z => nofr (List.mem_filterMap.mpr ⟨X.env, List.mem_cons_self, by rw [hf, z]⟩)
    have nF : a ∉ X.fs := fun hm => by
      obtain ⟨e, he, q⟩ := List.mem_filterMap.mp hm
      exact nofr (List.mem_filterMap.mpr ⟨e, List.mem_cons_of_mem _ he, q⟩)
    have go : ∀ {hds' : List ExceptHandler} {l' : List Cl}, Hds X hds' l' → ∀ (h4 : Heap) (t4 : Nat), PySem.HandSPX.FlyingZ B (X.env :: X.outer) a (Zc cls d) h4 → sI.heap.UpToSlots h4 → wAll X.K Wout D l' cls d σ' H' →
        wpAny (model X.prog X.w) X.A (handleBy (.ref a) X.env hds') (SP X pins D) X.xe { s' with heap := h4, toks := t4 } := by
      intro hds' l' hk
      induction hk with
      | nil =>
        intro h4 t4 fl4 up4 w
        refine wpAny_handleBy_nil ?_
        obtain ⟨k1, k2, k3, oe, vs, T, oT, ts', he, hz, hd, h1, hr⟩ := id fl4
        have J4 : Inv X pins σ' H' { s' with heap := h4, toks := t4 } := J.landed nb fl4.1 up4 os ag
        unfold PySem.passOn
        refine wpAny_bind (wpAny_field he hd h1 ?_)
        rw [if_neg (show ¬ ((Value.ref T == Value.none) = true) from by simp)]
        have last : wpAny (model X.prog X.w) X.A (setFlight (.ref a) X.env.frame) (fun _ s5 => wpAny (model X.prog X.w) X.A (throw (.ref a) : Sem Flow) (SP X pins D) X.xe s5) X.xe { s' with heap := h4, toks := t4 } := by
          rw [hf]
          refine PySem.HandSPX.setFlight_upZ fl4 fun h5 hh5 up5 => wpAny_throw (tk _ _ ?_)
          exact ⟨a, B, sI, pins, σ', H', cls, d, rfl, J, nb, up4.trans up5, .inr (.inr (by rw [hs]; exact hh5)), na, os, ag, w⟩
        first
          | exact wpAny_bind (wpAny_pure (wpAny_bind last))
          | exact wpAny_bind last
      | @plain t cs ts b₀ suite hp hds2 l2 ht hsu r ih =>
        intro h4 t4 fl4 up4 ⟨b, hb1, hyes, hno⟩
        have J4 : Inv X pins σ' H' { s' with heap := h4, toks := t4 } := J.landed nb fl4.1 up4 os ag
        obtain ⟨oe4, vs4, he4, hz4, hd4⟩ := fl4.there
        refine wpAny_handleBy_cons (codeAny_handlers_test ?_) (by intro q; cases q)
        refine ht a oe4 _ σ' H' _ cls b (J4.suite he4 hd4 na nL nF) he4 hz4.1 hb1 fun h5 t5 c k5 LM => LM.here ?_
        have fl5 := flying_grown fl4 k5
        have up5 := up4.trans (Heap.UpToSlots.of_keeps k5)
        cases b with
        | true =>
          refine codeAny_handlers_suite ?_
          refine PySem.HandSPX.lands_againZ fl5 fun h6 fl6 up6 => ?_
          have J6 : Inv X pins σ' H' { s' with heap := h6, toks := t5 } := J.landed nb fl6.1 (up5.trans up6) os ag
          obtain ⟨oe6, vs6, he6, hz6, hd6⟩ := fl6.there
          refine wpAny_mono ((hsu a oe6 cls d (X.pn ++ pins) hz6 ⟨_, hd6⟩).run [] _ _ H' _ (J6.suite he6 hd6 na nL nF) (hyes rfl a na)) (fun f s7 out => ?_) (fun _ _ z => False.elim z)
          cases f with
          | next => exact out.elim fun σ7 z => z.elim fun H7 z => ⟨σ7, H7, z.1.unsuite ok, z.2⟩
          | brk => exact out.elim fun σ7 z => z.elim fun H7 z => ⟨σ7, H7, z.1.unsuite ok, z.2⟩
          | cont => exact out.elim fun σ7 z => z.elim fun H7 z => ⟨σ7, H7, z.1.unsuite ok, z.2⟩
          | ret u =>
            obtain ⟨v7, σ7, H7, S7, r7, q7⟩ := out
            exact ⟨v7, σ7, H7, S7.unsuite ok, r7, q7⟩
        | false => exact ih h5 t5 fl5 up5 (hno rfl)
      | @named t n i cs ts b₀ suite hp hds2 l2 ht hi hln hsu r ih =>
        intro h4 t4 fl4 up4 ⟨b, hb1, hyes, hno⟩
        have J4 : Inv X pins σ' H' { s' with heap := h4, toks := t4 } := J.landed nb fl4.1 up4 os ag
        obtain ⟨oe4, vs4, he4, hz4, hd4⟩ := fl4.there
        refine wpAny_handleBy_cons (codeAny_handlers_test ?_) (by intro q; cases q)
        refine ht a oe4 _ σ' H' _ cls b (J4.suite he4 hd4 na nL nF) he4 hz4.1 hb1 fun h5 t5 c k5 LM => LM.here ?_
        have fl5 := flying_grown fl4 k5
        have up5 := up4.trans (Heap.UpToSlots.of_keeps k5)
        cases b with
        | true =>
          refine codeAny_handlers_suite_as ?_
          refine PySem.HandSPX.lands_againZ fl5 fun h6 fl6 up6 => ?_
          have J6 : Inv X pins σ' H' { s' with heap := h6, toks := t5 } := J.landed nb fl6.1 (up5.trans up6) os ag
          obtain ⟨oe6, vs6, he6, hz6, hd6⟩ := fl6.there
          refine store_ok (X := X.suite a ((a, oe6) :: (X.pn ++ pins))) (v := .ref a) (J6.suite he6 hd6 na nL nF) hN hi (.inl hln) rfl (fun s7 S7 => ?_) (.inr hln)
          refine wpAny_mono ((hsu a oe6 cls d (X.pn ++ pins) hz6 ⟨_, hd6⟩).run [] s7 _ H' _ S7 (hyes rfl a na)) (fun f s8 out => ?_) (fun _ _ z => False.elim z)
          cases f with
          | next => exact out.elim fun σ8 z => z.elim fun H8 z => gone_ok (z.1.unsuite ok) hN hi hln fun s9 J9 => ⟨_, H8, J9, z.2⟩
          | brk => exact out.elim fun σ8 z => z.elim fun H8 z => gone_ok (z.1.unsuite ok) hN hi hln fun s9 J9 => ⟨_, H8, J9, z.2⟩
          | cont => exact out.elim fun σ8 z => z.elim fun H8 z => gone_ok (z.1.unsuite ok) hN hi hln fun s9 J9 => ⟨_, H8, J9, z.2⟩
          | ret u =>
            obtain ⟨v8, σ8, H8, S8, r8, q8⟩ := out
            exact gone_ok (S8.unsuite ok) hN hi hln fun s9 J9 => ⟨v8, _, H8, J9, r8, q8⟩
        | false => exact ih h5 t5 fl5 up5 (hno rfl)
    exact go hh h3 s'.toks fl3 (up.trans up3) w
  · cases f with
    | next => exact out.elim fun σ' z => z.elim fun H' z => wpAny_execs_nil ⟨σ', H', z.1.ofTry ok, z.2⟩
    | brk => exact out.elim fun σ' z => z.elim fun H' z => ⟨σ', H', z.1.ofTry ok, z.2⟩
    | cont => exact out.elim fun σ' z => z.elim fun H' z => ⟨σ', H', z.1.ofTry ok, z.2⟩
    | ret u =>
      obtain ⟨v, σ', H', J', r, q⟩ := out
      exact ⟨v, σ', H', J'.ofTry ok, r, q⟩
end
end XE

/-! defs that may ask for a repr: called where no repr is under way -/
namespace XE
open PySem PySem.Spec PyProof.Rows L2
open PySem.W (Frag)
/-- FnOk, where no repr is under way -/
structure FnG (P : Program) (w : World) (K : Frag) (mg : Str → Option Value) (base : Heap) (CX : CXT) (k : Nat) (f : Addr) (fd : FuncData) (ps : List Str) (sp : Sp) : Prop where
  len : ∀ vs H Q E, sp vs H Q E → vs.length = ps.length
  run : ∀ (A : Around) (outer : List Env) (s : Shared) (H : Hp) (args : Args) (us : List Value) (vs : List V) (Q : VK) (E : XK), A.guards = some [] → Room k A → Env0 P w K mg base A outer s H → BindsTo s fd args (ps.zip us) → Vals vs us → sp vs H Q E →
    codeAny (model P w) A (.call (.ref f) args) (CR CX outer P w H s Q E) s
theorem guards_deeper {A : Around} {env : Env} (h : A.guards = some []) : (A.deeper env).guards = some [] := by
  first
    | exact h
    | (show (pushGuards _ _) = _; rw [h]; rfl)
section
variable {P : Program} {w : World} {K : Frag} {mg : Str → Option Value} {base : Heap} {x qual : Str} {params : Arguments} {body : List Stmt} {scope : Scope} {dvs : List V} {kws : List (Str × V)} {f : Addr} {fd : FuncData}
theorem fnG {CX : CXT} {N ps : List Str} {k : Nat} {sp : Sp} (F : FunD K x qual params body scope dvs kws f fd) (S : FnScope N ps scope) (len : ∀ vs H Q E, sp vs H Q E → vs.length = ps.length)
    (hbody : ∀ (cdv : Value) (A : Around) (outer : List Env) (s : Shared) (H : Hp) (vs : List V) (Q : VK) (E : XK), (A.deeper (envOfC qual scope s.heap.objs.size f cdv)).guards = some [] → Room k (A.deeper (envOfC qual scope s.heap.objs.size f cdv)) → sp vs H Q E →
      ∃ t, PSs (cxOf CX P w K mg base N qual scope f cdv A outer s H E) body t ∧ t { nx := fun _ H' => Q .non H', rt := Q } (start N vs) H) : FnG P w K mg base CX (k + 1) f fd ps sp := by
  obtain ⟨oc, od, dV, kV, doc, pm, an, cdv, ct, osl, rfl, lk, hcd, _, _⟩ := F.ex
  refine ⟨len, fun A outer s H args us vs Q E hg hr e0 hb r hsp => ?_⟩
  have inK : K.In s.heap := PySem.W.Frag.In.keeps e0.mod.kin fun b o e => (e0.bs b o e).1
  have unlim : s.heap.NoLimit := e0.mod.nolimit.keeps fun b o e => (e0.bs b o e).1
  have many := len _ _ _ _ hsp
  refine codeAny_call_function hr.depth (inK _ _ lk) rfl S.co S.gen rfl (PySem.W.codeRec_of inK hcd) (hb _ _ _ _ ?_)
  refine wpAny_newFunctionEnv_cells S.kind (fun y hy => ?_) fun env he s1 into => ?_
  · rcases S.par y.1 (List.of_mem_zip (show (y.1, y.2) ∈ ps.zip us from hy)).1 with q | q
    · exact .inl q
    · exact .inr ⟨q, PySem.W.cellsFrom_some _ _ _ (.inl q)⟩
  · subst he
    obtain ⟨t, body', reads⟩ := hbody cdv A outer s H vs Q E (guards_deeper hg) (hr.deeper _) hsp
    refine ⟨unlim.keeps into.toInCall.keep, codeAny_func (wpAny_mono (body'.run [] s1 (start N vs) H _ (inv_start S hr.hd e0 many r into) reads) (fun fl s' out => ?_) fun _ _ z => z)⟩
    cases fl with
    | ret u => exact out.elim fun v z => z.elim fun σ' z => z.elim fun H' z => ⟨v, H', z.1.os, z.1.bare, z.1.base, z.1.hok, z.2.1, z.2.2⟩
    | next => exact out.elim fun σ' z => z.elim fun H' z => ⟨.non, H', z.1.os, z.1.bare, z.1.base, z.1.hok, rfl, z.2⟩
    | brk => exact out.elim fun _ z => z.elim fun _ z => False.elim z.2
    | cont => exact out.elim fun _ z => z.elim fun _ z => False.elim z.2
end
theorem FnG.mono {P : Program} {w : World} {K : Frag} {mg : Str → Option Value} {base : Heap} {CX : CXT} {j k : Nat} {f : Addr} {fd : FuncData} {ps : List Str} {sp : Sp} (F : FnG P w K mg base CX j f fd ps sp) (h : j ≤ k) : FnG P w K mg base CX k f fd ps sp :=
  ⟨F.len, fun A outer s H args us vs Q E hg hr => F.run A outer s H args us vs Q E hg (hr.mono h)⟩
section
variable {X : Cx} {CX : CXT} {k : Nat} {f : Addr} {fd : FuncData} {ps : List Str} {sp : Sp} {E : XK} {x : Str} {p pos : Pos} {e : Expr} {es : List Expr} {ta : TA}
theorem run_guarded {pins : List (Addr × Obj)} {σ : L2.St} {H : Hp} {s : Shared} {Q : VK} {us : List Value} {vs : List V} (F : FnG X.prog X.w X.K X.mg X.base CX k f fd ps sp) (hg0 : X.A.guards = some []) (hr : Room k X.A) (hb : Binds X.K fd ps []) (hx : Passes CX X E)
    (I : Inv X pins σ H s) (r : Vals vs us) (h : sp vs H Q E) : wpAny (model X.prog X.w) X.A (call (.ref f) us) (EP X pins σ Q) X.xe s := by
  have bound := hb s us I.kIn (by rw [List.append_nil]; exact r.length.symm.trans (F.len _ _ _ _ h))
  rw [List.append_nil] at bound
  refine wpAny_call (codeAny_mono (F.run X.A X.stack s H ⟨us, []⟩ us vs Q E hg0 hr I.env0 bound r h) fun r s' done => ?_)
  cases r with
  | error er => exact hx pins σ H s er s' I done
  | ok fl =>
    cases fl with
    | ret u => exact I.after done
    | next => exact False.elim done
    | brk => exact False.elim done
    | cont => exact False.elim done
theorem pe_callG (F : FnG X.prog X.w X.K X.mg X.base CX k f fd ps sp) (hg0 : X.A.guards = some []) (hr : Room k X.A) (hg : Gl X x) (hm : X.mg x = some (.ref f)) (hk : PySem.W.keepIn X.K (.ref f) = true) (hb : Binds X.K fd ps []) (hx : Passes CX X E) (ha : PA X (e :: es) ta)
    (hdb : (x == ("__debug__" : Str)) = false := by decide) (he : starEach (e :: es) X.env = (false, eval e X.env) :: starEach es X.env := by rfl) (hpl : (backTo pos (starEach es X.env)).any (·.1) = false := by rfl) :
    PE X (.Call (.Name x p) (e :: es) [] pos) (tCall sp [] E ta) := by
  refine ⟨fun pins s σ H Q I h => wpAny_Call_Name_kw (ld_glob I hg hm ?_ hdb)⟩
  refine PySem.W.callWith_K (h₀ := X.base) I.ok.mod.kin hk (thn (ha.run pos pins s σ H _ I h) fun us s1 ⟨vs, H1, I1, r, q⟩ => ⟨I1.kIn, ?_⟩) he hpl
  have q2 : sp (vs ++ []) H1 Q E := q
  rw [List.append_nil] at q2
  exact run_guarded F hg0 hr hb hx I1 r q2
end
/-! ### the end of a law whose def is guarded -/
theorem law_guarded {P : Program} {w : World} {K : Frag} {mg mb : Str → Option Value} {CX : CXT} {k : Nat} {fa a : Addr} {fd : FuncData} {x : Str} {sp : Sp} {s₁ : Shared} {vs : List Value} {ns : List Int}
    (KX : K.In s₁.heap) (hns : s₁.heap.Ns mainGlobals mg) (hb : s₁.heap.Ns builtinsNs mb) (hbb : ∀ x : Str, x ≠ "__name__" → mb x = bootBuiltins x) (hlim : s₁.heap.NoLimit) (hg : s₁.gens = #[])
    (ha : s₁.heap.get? a = some { cls := .type "list", data := .seq vs.toArray }) (hi : IntsAre vs ns) (hl : ns.length ≤ sizeLine) (hr : Room k callerA)
    (F : ∀ base : Heap, K.In base → base.Ns mainGlobals mg → FnG P w K mg base CX k fa fd [x] sp) (hbind : ∀ (s : Shared) (u : Value), BindsTo s fd ⟨[u], []⟩ [(x, u)])
    (hsp : ∀ H : Hp, Only H → SqL K H a (ns.map V.int) → sp [.ref a] H (fun v _ => v = .bl true) fun _ _ _ => False)
    (hCX : ∀ H e s', CX [] H s₁ (fun _ _ _ => False) e s' → False) :
    codeAny (model P w) callerA (.call (.ref fa) ⟨[.ref a], []⟩) (fun r s' => r = .ok (.ret (.bool true)) ∧ OldK s₁.heap s'.heap ∧ s'.os = s₁.os ∧ AllBare s'.gens) s₁ := by
  have values := vals_ints hi
  have howmany := hi.length
  have main : ∀ H : Hp, Only H → SqL K H a (ns.map V.int) → HOk P w H s₁.heap → (∀ b, H b ≠ none → b = a) → (H a ≠ none → K.lookup a = none) →
      codeAny (model P w) callerA (.call (.ref fa) ⟨[.ref a], []⟩) (fun r s' => r = .ok (.ret (.bool true)) ∧ OldK s₁.heap s'.heap ∧ s'.os = s₁.os ∧ AllBare s'.gens) s₁ := by
    intro H hO hS hok hA hK
    have below : ∀ {b : Addr} {o : Obj}, s₁.heap.get? b = some o → H b = none → (hidT s₁.heap H).get? b = some o := fun e n => hidT_get e n
    have nodict : ∀ {b : Addr} {o : Obj} {es : Array DictEntry} {ep : Nat}, s₁.heap.get? b = some o → o.data = .dict es ep → H b = none := by
      intro b o es ep e d
      refine Classical.byContradiction fun z => ?_
      obtain rfl := hA b z
      obtain rfl := Option.some.inj (ha.symm.trans e)
      exact Data.noConfusion d
    have spaces : ∀ {b : Addr} {m : Str → Option Value}, s₁.heap.Ns b m → (hidT s₁.heap H).Ns b m := fun {b m} ⟨o, es, ep, e, d, r⟩ => ⟨o, es, ep, below e (nodict e d), d, r⟩
    have written : K.In (hidT s₁.heap H) := fun b o e => below (KX b o e) (by
      refine Classical.byContradiction fun z => ?_
      obtain rfl := hA b z
      rw [hK z] at e
      cases e)
    have ground : Mod K mg (hidT s₁.heap H) := ⟨written, spaces hns, ⟨mb, spaces hb, hbb⟩, hlim.elim fun mc z => ⟨mc, spaces z.1, z.2⟩⟩
    have entry : Env0 P w K mg (hidT s₁.heap H) callerA [] s₁ H := ⟨rfl, ground, fun b o e => of_hidT e, Nat.le_of_eq (hidT_size _ _), trivial, fun b z => absurd (show b ∈ ([] : List Addr) from z) (by simp), hok, .of_eq hg⟩
    refine codeAny_mono ((F _ written (spaces hns)).run callerA [] s₁ H ⟨[.ref a], []⟩ [.ref a] [.ref a] _ _ rfl hr entry (hbind s₁ (.ref a)) (.cons rfl .nil) (hsp H hO hS)) fun r s' out => ?_
    cases r with
    | error e => exact (hCX H e s' out).elim
    | ok fl =>
      cases fl with
      | next => exact False.elim out
      | brk => exact False.elim out
      | cont => exact False.elim out
      | ret u =>
        obtain ⟨v, H', os, bare, un, hok', rv, rfl⟩ := out
        obtain rfl : u = Value.bool true := rv
        refine ⟨rfl, OldK.of_keep fun b o e => ?_, os, bare⟩
        rcases hO b with z | ⟨ob, xs, z⟩
        · exact un.keep b o e z (fun y => absurd (show b ∈ ([] : List Addr) from y) (by simp)) (by simp)
        · obtain ⟨e1, _⟩ := hok b _ z
          obtain ⟨e2, _⟩ := hok' b _ (un.frzs b ob _ z)
          obtain rfl := Option.some.inj (e1.symm.trans e)
          exact e2
  rcases Option.eq_none_or_eq_some (K.lookup a) with free | ⟨o, own⟩
  · refine main (fun b => if b = a then some (.frz { cls := .type "list", data := .seq vs.toArray } (.lst (ns.map V.int))) else none) (fun b => ?_) (.inl (.inr ⟨{ cls := .type "list", data := .seq vs.toArray }, if_pos rfl⟩)) (fun b u z => ?_) (fun b z => ?_) fun _ => free
    · rcases Classical.em (b = a) with e | e
      · exact .inr ⟨_, _, if_pos e⟩
      · exact .inl (if_neg e)
    · rcases Classical.em (b = a) with e | e
      · subst e
        obtain rfl := Option.some.inj ((if_pos rfl).symm.trans z)
        exact ⟨ha, by rw [List.length_map]; exact hl, vs, _, values, ha⟩
      · have y := (if_neg e).symm.trans z
        cases y
    · exact Classical.byContradiction fun e => z (if_neg e)
  · obtain rfl := Option.some.inj ((KX a o own).symm.trans ha)
    exact main (fun _ => none) (fun _ => .inl rfl) (.inr ⟨_, vs.toArray, _, own, rfl, rfl, rfl, by rw [List.size_toArray, howmany]; exact hl, by simpa using values⟩) (fun b u z => by have y : (none : Option HO) = some u := z; cases y) (fun b z => absurd rfl z) fun z => absurd rfl z
theorem walk_guarded {l : PySem.W.OpenLaw} {n k : Nat} {q : Program} {loose : List Str} {XP : (Str → Option Value) → Heap → Prop} {YP : World → Heap → Prop} {d : DefRec} {CX : CXT} {x : Str}
    (hn : l.most = some n) (hn2 : n ≤ sizeLine) (hdf : d.params.defaults = []) (hr : Room k callerA)
    (F : ∀ (w : World) (mg : Str → Option Value) (fa : Addr) (h : Heap), YP w h → h.Ns mainGlobals mg → mg d.name = some (.ref fa) →
      ∃ (K : Frag) (fd : FuncData) (sp : Sp), K.In h ∧ (∀ (s : Shared) (u : Value), BindsTo s fd ⟨[u], []⟩ [(x, u)]) ∧
        (∀ (H : Hp) (a : Addr) (ns : List Int), ns.length ≤ n → Only H → SqL K H a (ns.map V.int) → sp [.ref a] H (fun v _ => v = .bl true) fun _ _ _ => False) ∧
        ∀ base : Heap, K.In base → base.Ns mainGlobals mg → FnG l.prog w K mg base CX k fa fd [x] sp)
    (hCX : ∀ (H : Hp) (s : Shared) (e : Value) (s' : Shared), CX [] H s (fun _ _ _ => False) e s' → False) :
    PySem.W.WalkO q loose XP YP l.row.toRowW d [] (fun f vs => PySem.call f vs) := by
  refine Att.attach_call hn hdf fun w s₀ s₁ mg mb fa o pm cd doc a vs ns G Y _ _ _ hmg hobj hints hlen hg => ?_
  obtain ⟨K, fd, sp, KX, hb, hsp, hF⟩ := F w mg fa _ Y G.T.g hmg
  exact law_guarded KX G.T.g G.T.b G.T.builtins G.T.nolimit hg hobj hints (Nat.le_trans hlen hn2) hr hF hb (fun H hO hS => hsp H a ns hlen hO hS) fun H e s' => hCX H s₁ e s'
end XE

/-! the end of a law whose def is guarded, where the defs' tables of nested code are told of -/
namespace XE
open PySem PySem.Spec PyProof.Rows L2 LamX
open PySem.W (Frag)
/-- the tables, and at most the script -/
structure OnlyT (tabs : List Addr) (a : Addr) (H : Hp) : Prop where
  tab : ∀ b ∈ tabs, H b = some (.tbl #[])
  own : ∀ b, b ∉ tabs → H b = none ∨ (b = a ∧ ∃ o xs, H b = some (.frz o (.lst xs)))
def hpT (tabs : List Addr) (more : Hp) : Hp := fun b => if b ∈ tabs then some (.tbl #[]) else more b
theorem hpT_in {tabs : List Addr} {more : Hp} {b : Addr} (h : b ∈ tabs) : hpT tabs more b = some (.tbl #[]) := if_pos h
theorem hpT_out {tabs : List Addr} {more : Hp} {b : Addr} (h : b ∉ tabs) : hpT tabs more b = more b := if_neg h
theorem law_guardedT {P : Program} {w : World} {K : Frag} {mg mb : Str → Option Value} {CX : CXT} {k : Nat} {fa a : Addr} {cs : List (Addr × Addr)} {fd : FuncData} {x : Str} {sp : Sp} {s₁ : Shared} {vs : List Value} {ns : List Int}
    (KX : K.In s₁.heap) (hns : s₁.heap.Ns mainGlobals mg) (hb : s₁.heap.Ns builtinsNs mb) (hbb : ∀ x : Str, x ≠ "__name__" → mb x = bootBuiltins x) (hlim : s₁.heap.NoLimit) (hg : s₁.gens = #[])
    (hT : ∀ p ∈ cs, s₁.heap.get? p.2 = some { cls := .none, data := .fields #[] }) (nT : ∀ p ∈ cs, K.lookup p.2 = none) (hd : ∀ p ∈ cs, PySem.W.codeHdIn K p.1 p.2 = true)
    (hbm : ∃ (bm : Addr) (ob : Obj), mg "__builtins__" = some (.ref bm) ∧ bm ≠ builtinsNs ∧ s₁.heap.get? bm = some ob ∧ ob.cls = .type "module" ∧ ob.dict = some builtinsNs ∧ ob.data = .plain)
    (ha : s₁.heap.get? a = some { cls := .type "list", data := .seq vs.toArray }) (hi : IntsAre vs ns) (hl : ns.length ≤ sizeLine) (hr : Room k callerA)
    (F : ∀ base : Heap, K.In base → base.Ns mainGlobals mg → (∀ p ∈ cs, TabB base mg p.1 p.2) → FnG P w K mg base CX k fa fd [x] sp) (hbind : ∀ (s : Shared) (u : Value), BindsTo s fd ⟨[u], []⟩ [(x, u)])
    (hsp : ∀ H : Hp, (∀ p ∈ cs, H p.2 = some (.tbl #[])) → SqL K H a (ns.map V.int) → sp [.ref a] H (fun v _ => v = .bl true) fun _ _ _ => False)
    (hCX : ∀ H e s', CX [] H s₁ (fun _ _ _ => False) e s' → False) :
    codeAny (model P w) callerA (.call (.ref fa) ⟨[.ref a], []⟩) (fun r s' => r = .ok (.ret (.bool true)) ∧ OldK s₁.heap s'.heap ∧ s'.os = s₁.os ∧ AllBare s'.gens) s₁ := by
  have values := vals_ints hi
  have howmany := hi.length
  have tabAt : ∀ b ∈ cs.map (·.2), s₁.heap.get? b = some { cls := .none, data := .fields #[] } := fun b hb => by
    obtain ⟨p, hp, rfl⟩ := List.mem_map.mp hb
    exact hT p hp
  have tabK : ∀ b ∈ cs.map (·.2), K.lookup b = none := fun b hb => by
    obtain ⟨p, hp, rfl⟩ := List.mem_map.mp hb
    exact nT p hp
  have inT : ∀ p ∈ cs, p.2 ∈ cs.map (·.2) := fun p hp => List.mem_map_of_mem hp
  have notT : a ∉ cs.map (·.2) := fun z => by
    have y := congrArg Obj.data (Option.some.inj (ha.symm.trans (tabAt a z)))
    exact Data.noConfusion y
  have main : ∀ H : Hp, OnlyT (cs.map (·.2)) a H → SqL K H a (ns.map V.int) → HOk P w H s₁.heap → (H a ≠ none → K.lookup a = none) →
      codeAny (model P w) callerA (.call (.ref fa) ⟨[.ref a], []⟩) (fun r s' => r = .ok (.ret (.bool true)) ∧ OldK s₁.heap s'.heap ∧ s'.os = s₁.os ∧ AllBare s'.gens) s₁ := by
    intro H hO hS hok hK
    have below : ∀ {b : Addr} {o : Obj}, s₁.heap.get? b = some o → H b = none → (hidT s₁.heap H).get? b = some o := fun e n => hidT_get e n
    have free : ∀ {b : Addr} {o : Obj}, s₁.heap.get? b = some o → (∀ vs n, o.data ≠ .seq vs n) → o.data ≠ .fields #[] → H b = none := by
      intro b o e n1 n2
      rcases Classical.em (b ∈ cs.map (·.2)) with i | i
      · obtain rfl := Option.some.inj (e.symm.trans (tabAt b i))
        exact absurd rfl n2
      · rcases hO.own b i with z | ⟨rfl, _⟩
        · exact z
        · obtain rfl := Option.some.inj (e.symm.trans ha)
          exact absurd rfl (n1 _ _)
    have spaces : ∀ {b : Addr} {m : Str → Option Value}, s₁.heap.Ns b m → (hidT s₁.heap H).Ns b m := fun {b m} ⟨o, es, ep, e, d, r⟩ => ⟨o, es, ep, below e (free e (fun vs n z => by rw [d] at z; cases z) (fun z => by rw [d] at z; cases z)), d, r⟩
    have written : K.In (hidT s₁.heap H) := fun b o e => below (KX b o e) (by
      rcases Classical.em (b ∈ cs.map (·.2)) with i | i
      · rw [tabK b i] at e
        cases e
      · rcases hO.own b i with z | ⟨rfl, o', xs, z⟩
        · exact z
        · rw [hK (by rw [z]; simp)] at e
          cases e)
    have ground : Mod K mg (hidT s₁.heap H) := ⟨written, spaces hns, ⟨mb, spaces hb, hbb⟩, hlim.elim fun mc z => ⟨mc, spaces z.1, z.2⟩⟩
    have tables : ∀ p ∈ cs, TabB (hidT s₁.heap H) mg p.1 p.2 := fun p hp => by
      have nsD := hns
      obtain ⟨o, es, ep, e, d, _⟩ := nsD
      refine NdefX.tabB_of_K written (hd p hp) ?_ fun z => ?_
      · obtain ⟨bm, ob, b1, b2, b3, b4, b5, b6⟩ := hbm
        refine ⟨bm, ob, b1, b2, fun z => ?_, fun z => ?_, below b3 (free b3 (fun vs n z => by rw [b6] at z; cases z) fun z => by rw [b6] at z; cases z), b4, b5, b6⟩
        · rw [z] at b3
          obtain rfl := Option.some.inj (e.symm.trans b3)
          rw [d] at b6
          cases b6
        · rw [z] at b3
          obtain rfl := Option.some.inj ((hT p hp).symm.trans b3)
          cases b6
      · rw [z] at e
        obtain rfl := Option.some.inj ((hT p hp).symm.trans e)
        cases d
    have entry : Env0 P w K mg (hidT s₁.heap H) callerA [] s₁ H := ⟨rfl, ground, fun b o e => of_hidT e, Nat.le_of_eq (hidT_size _ _), trivial, fun b z => absurd (show b ∈ ([] : List Addr) from z) (by simp), hok, .of_eq hg⟩
    refine codeAny_mono ((F _ written (spaces hns) tables).run callerA [] s₁ H ⟨[.ref a], []⟩ [.ref a] [.ref a] _ _ rfl hr entry (hbind s₁ (.ref a)) (.cons rfl .nil) (hsp H (fun p hp => hO.tab _ (inT p hp)) hS)) fun r s' out => ?_
    cases r with
    | error e => exact (hCX H e s' out).elim
    | ok fl =>
      cases fl with
      | next => exact False.elim out
      | brk => exact False.elim out
      | cont => exact False.elim out
      | ret u =>
        obtain ⟨v, H', os, bare, un, hok', rv, rfl⟩ := out
        obtain rfl : u = Value.bool true := rv
        have stays : ∀ b o, b ∉ cs.map (·.2) → s₁.heap.get? b = some o → s'.heap.get? b = some o := fun b o i e => by
          rcases hO.own b i with z | ⟨_, ob, xs, z⟩
          · exact un.keep b o e z (fun y => absurd (show b ∈ ([] : List Addr) from y) (by simp)) (by simp)
          · obtain ⟨e1, _⟩ := hok b _ z
            obtain ⟨e2, _⟩ := hok' b _ (un.frzs b ob _ z)
            obtain rfl := Option.some.inj (e1.symm.trans e)
            exact e2
        have grows : ∀ b ∈ cs.map (·.2), ∃ more : Array Value, s'.heap.get? b = some { cls := .none, data := .fields more } := fun b i => by
          obtain ⟨more, z⟩ := un.tbls b #[] (hO.tab b i)
          exact ⟨_, hok' b _ z⟩
        refine ⟨rfl, ⟨fun b o e => ?_, fun b o e => ?_⟩, os, bare⟩
        · rcases Classical.em (b ∈ cs.map (·.2)) with i | i
          · obtain ⟨more, hm⟩ := grows b i
            obtain rfl := Option.some.inj ((tabAt b i).symm.trans e)
            obtain ⟨p, hp, rfl⟩ := List.mem_map.mp i
            exact .inr (.inl ⟨((PySem.W.codeHd_of_K KX (hd p hp)).tab (hT p hp)).isCodeTable, rfl, #[], more, rfl, by rw [Array.empty_append]; exact hm⟩)
          · exact .inl (stays b o i e)
        · rcases Classical.em (b ∈ cs.map (·.2)) with i | i
          · obtain ⟨more, hm⟩ := grows b i
            exact ⟨_, hm⟩
          · exact ⟨o, stays b o i e⟩
  rcases Option.eq_none_or_eq_some (K.lookup a) with freeK | ⟨o, own⟩
  · refine main (hpT (cs.map (·.2)) fun b => if b = a then some (.frz { cls := .type "list", data := .seq vs.toArray } (.lst (ns.map V.int))) else none) ⟨fun b i => hpT_in i, fun b i => ?_⟩ (.inl (.inr ⟨{ cls := .type "list", data := .seq vs.toArray }, (hpT_out notT).trans (if_pos rfl)⟩)) (fun b u z => ?_) fun _ => freeK
    · rcases Classical.em (b = a) with e | e
      · exact .inr ⟨e, _, _, (hpT_out i).trans (if_pos e)⟩
      · exact .inl ((hpT_out i).trans (if_neg e))
    · rcases Classical.em (b ∈ cs.map (·.2)) with i | i
      · obtain rfl := Option.some.inj ((hpT_in i).symm.trans z)
        exact tabAt b i
      · have z2 := (hpT_out i).symm.trans z
        rcases Classical.em (b = a) with e | e
        · subst e
          obtain rfl := Option.some.inj ((if_pos rfl).symm.trans z2)
          exact ⟨ha, by rw [List.length_map]; exact hl, vs, _, values, ha⟩
        · have y := (if_neg e).symm.trans z2
          cases y
  · obtain rfl := Option.some.inj ((KX a o own).symm.trans ha)
    refine main (hpT (cs.map (·.2)) fun _ => none) ⟨fun b i => hpT_in i, fun b i => .inl (hpT_out i)⟩ (.inr ⟨_, vs.toArray, _, own, rfl, rfl, rfl, by rw [List.size_toArray, howmany]; exact hl, by simpa using values⟩) (fun b u z => ?_) fun z => absurd (hpT_out notT) z
    rcases Classical.em (b ∈ cs.map (·.2)) with i | i
    · obtain rfl := Option.some.inj ((hpT_in i).symm.trans z)
      exact tabAt b i
    · have y := (hpT_out i).symm.trans z
      cases y
theorem walk_guardedT {l : PySem.W.OpenLaw} {n k : Nat} {q : Program} {loose : List Str} {XP : (Str → Option Value) → Heap → Prop} {YP : World → Heap → Prop} {d : DefRec} {CX : CXT} {x : Str}
    (hn : l.most = some n) (hn2 : n ≤ sizeLine) (hdf : d.params.defaults = []) (hr : Room k callerA)
    (F : ∀ (w : World) (mg : Str → Option Value) (fa : Addr) (h : Heap), YP w h → h.Ns mainGlobals mg → mg d.name = some (.ref fa) →
      ∃ (K : Frag) (fd : FuncData) (cs : List (Addr × Addr)) (sp : Sp), K.In h ∧ (∀ p ∈ cs, h.get? p.2 = some { cls := .none, data := .fields #[] }) ∧ (∀ p ∈ cs, K.lookup p.2 = none) ∧ (∀ p ∈ cs, PySem.W.codeHdIn K p.1 p.2 = true) ∧ (∀ (s : Shared) (u : Value), BindsTo s fd ⟨[u], []⟩ [(x, u)]) ∧
        (∀ (H : Hp) (a : Addr) (ns : List Int), ns.length ≤ n → (∀ p ∈ cs, H p.2 = some (.tbl #[])) → SqL K H a (ns.map V.int) → sp [.ref a] H (fun v _ => v = .bl true) fun _ _ _ => False) ∧
        ∀ base : Heap, K.In base → base.Ns mainGlobals mg → (∀ p ∈ cs, TabB base mg p.1 p.2) → FnG l.prog w K mg base CX k fa fd [x] sp)
    (hCX : ∀ (H : Hp) (s : Shared) (e : Value) (s' : Shared), CX [] H s (fun _ _ _ => False) e s' → False) :
    PySem.W.WalkO q loose XP YP l.row.toRowW d [] (fun f vs => PySem.call f vs) := by
  refine Att.attach_callB hn hdf fun w s₀ s₁ mg mb fa o pm cd doc a vs ns G Y _ _ _ hmg hobj hints hlen _ hg => ?_
  obtain ⟨K, fd, cs, sp, KX, hT, nT, hd, hb, hsp, hF⟩ := F w mg fa _ Y G.T.g hmg
  exact law_guardedT KX G.T.g G.T.b G.T.builtins G.T.nolimit hg hT nT hd G.T.bmain hobj hints (Nat.le_trans hlen hn2) hr hF hb (fun H h1 h2 => hsp H a ns hlen h1 h2) fun H e s' => hCX H s₁ e s'
end XE

/-! the head's facts: getters, and defs that make lambdas -/
namespace HP
open PySem PySem.Spec PyProof.Rows L2
open PySem.W (Frag)
structure SaysPX (fa : List He.Fa) (fn : List He.DefD) (gs : List GetD) (tf : List He.Defn) (ex : Frag → Bool) (w : World) (h : Heap) (K : Frag) : Prop where
  x : He.SaysX fa fn [] tf (fun K => (gs.all fun g => g.ok K) && ex K) w h K
  gets : gs.map (fun g => fnA K (g.addr K)) = gs.map GetD.val
abbrev AlPX : Type := He.AlX × List He.FnW
def obsPX (n : Nat) (fa : List He.Fa) (fn : List He.DefD) (gs : List GetD) (tf : List He.Defn) (ex : Frag → Bool) (g : Addr → Option Obj) : AlPX :=
  (He.obsX n fa fn [] tf (fun K => (gs.all fun g => g.ok K) && ex K) g, gs.map (fun d => fnA (He.frT g (He.asD g n)) (d.addr (He.frT g (He.asD g n)))))
def valPX (fn : List He.DefD) (gs : List GetD) (w : World) : AlPX := (He.valX fn [] w, gs.map GetD.val)
theorem saysPX_of {n : Nat} {fa : List He.Fa} {fn : List He.DefD} {gs : List GetD} {tf : List He.Defn} {ex : Frag → Bool} {w : World} {h : Heap} (e : obsPX n fa fn gs tf ex h.get? = valPX fn gs w) : SaysPX fa fn gs tf ex w h (He.frT h.get? (He.asD h.get? n)) := by
  have e1 := congrArg (fun z : AlPX => z.1) e
  have e2 := congrArg (fun z : AlPX => z.2) e
  exact ⟨He.saysX_of e1, e2⟩
def hookPX (n : Nat) (fa : List He.Fa) (fn : List He.DefD) (gs : List GetD) (tf : List He.Defn) (ex : Frag → Bool) : PySem.W.Hook where
  α := AlPX
  obs := fun s => obsPX n fa fn gs tf ex s.heap.get?
  val := fun w => valPX fn gs w
  says := fun w h => ∃ K : Frag, K.In h ∧ SaysPX fa fn gs tf ex w h K
  of := fun _ _ e => ⟨_, He.frT_in, saysPX_of e⟩
  keeps := fun _ _ _ ⟨K, hK, c⟩ k => ⟨K, PySem.W.Frag.In.keeps hK k, ⟨⟨c.x.t, c.x.more, c.x.hd, c.x.out, fun p hp => k _ _ (c.x.empty p hp)⟩, c.gets⟩⟩
theorem obsPX_eq {n : Nat} {fa : List He.Fa} {fn : List He.DefD} {gs : List GetD} {tf : List He.Defn} {ex : Frag → Bool} {g : Addr → Option Obj} {s : Shared} (h : ∀ a, g a = s.heap.get? a) : obsPX n fa fn gs tf ex g = (hookPX n fa fn gs tf ex).obs s := by
  have e : g = s.heap.get? := funext h
  rw [e] <;> rfl
theorem SaysPX.get {fa : List He.Fa} {fn : List He.DefD} {gs : List GetD} {tf : List He.Defn} {ex : Frag → Bool} {w : World} {h : Heap} {K : Frag} (c : SaysPX fa fn gs tf ex w h K) (i : Nat) {d : GetD} (h : gs[i]? = some d := by rfl) : ∃ fd, FunD K d.name d.qual d.params d.body d.scope [] [] (d.addr K) fd := by
  have e : (gs.map fun g => fnA K (g.addr K))[i]? = (gs.map GetD.val)[i]? := by rw [c.gets]
  rw [List.getElem?_map, List.getElem?_map, h] at e
  exact GetD.funD (Option.some.inj e) (List.all_eq_true.mp (He.ba c.x.more).1 d (List.mem_of_getElem? h))
theorem SaysPX.ex {fa : List He.Fa} {fn : List He.DefD} {gs : List GetD} {tf : List He.Defn} {ex : Frag → Bool} {w : World} {h : Heap} {K : Frag} (c : SaysPX fa fn gs tf ex w h K) : ex K = true := (He.ba c.x.more).2
theorem fnG {P : Program} {w : World} {K : Frag} {mg : Str → Option Value} {base : Heap} {CX : CXT} {k : Nat} {f : Addr} {fd : FuncData} {ps : List Str} {sp : Sp} (F : FnOk P w K mg base CX k f fd ps sp) : XE.FnG P w K mg base CX k f fd ps sp :=
  ⟨F.len, fun A outer s H args us vs Q E _ hr e0 hb r hsp => F.run A outer s H args us vs Q E hr e0 hb r hsp⟩
end HP

/-! the head's facts: classes of errors with an own __init__; books; tables -/
namespace HP
open PySem PySem.Spec PyProof.Rows L2 XE
open PySem.W (Frag)
def fieldB (K : Frag) (C : Addr) (f : Str) : Bool := He.eqO (PySem.W.takerIn K C f) (some none) && He.eqO (PySem.W.findIn K (.ref C) f) (some none)
def ownChk (bm : List Value) (nw : String) (fs : List Str) (K : Frag) (C : Addr) : Bool := PySem.W.excInitIn K C bm nw && (PySem.W.excOver K C bm && (He.eqO (PySem.W.findIn K (.ref C) "__setattr__") (some (some (.builtin "object.__setattr__"))) && (PySem.W.hasDictIn K C &&
  (He.eqO (PySem.W.findIn K (.ref C) "__init__") (some (some (.ref (He.ma K C "__init__")))) && (PySem.W.isFn K (.ref (He.ma K C "__init__")) && (decide (PySem.W.subIn K (.ref C) (.type "BaseException") = some true) && (decide (PySem.W.typeIn K (.ref C) = some (.type "type")) && (xfB K C &&
  (PySem.W.keepIn K (.ref C) && fs.all fun f => fieldB K C f)))))))))
structure OwnE (fs : List Str) (K : Frag) (C : Addr) : Prop where
  init : InitC K C (He.ma K C "__init__")
  sub : PySem.W.subIn K (.ref C) (.type "BaseException") = some true
  ty : PySem.W.typeIn K (.ref C) = some (.type "type")
  xf : XfC K C
  tk : ∀ f ∈ fs, PySem.W.takerIn K C f = some none
  fd : ∀ f ∈ fs, PySem.W.findIn K (.ref C) f = some none
theorem ownChk_ok {B : String} {newId initId : String} {bm : List Value} {fs : List Str} {K : Frag} {C : Addr} (fb : ExcBaseFacts B newId initId bm) (sf : StoreFacts B bm "object.__setattr__" "object") (h : ownChk bm newId fs K C = true) : OwnE fs K C := by
  obtain ⟨h1, h⟩ := He.ba h
  obtain ⟨h2, h⟩ := He.ba h
  obtain ⟨h3, h⟩ := He.ba h
  obtain ⟨h4, h⟩ := He.ba h
  obtain ⟨h5, h⟩ := He.ba h
  obtain ⟨h6, h⟩ := He.ba h
  obtain ⟨h7, h⟩ := He.ba h
  obtain ⟨h8, h⟩ := He.ba h
  obtain ⟨h9, h⟩ := He.ba h
  obtain ⟨h10, h11⟩ := He.ba h
  have fl := fun f (m : f ∈ fs) => He.ba (List.all_eq_true.mp h11 f m)
  exact ⟨⟨⟨_, _, _, _, fb, sf, h1, h2⟩, He.eqO_ok h3, h4, He.eqO_ok h5, h6, h10⟩, of_decide_eq_true h7, of_decide_eq_true h8, xfB_ok h9, fun f m => He.eqO_ok (fl f m).1, fun f m => He.eqO_ok (fl f m).2⟩
/-! ### the tables of the defs that make lambdas -/
def lamOf (p : He.Defn) : Str := match p.2 with
  | none => p.1 ++ ".<locals>." ++ "<lambda>"
  | some m => p.1 ++ "." ++ m ++ ".<locals>." ++ "<lambda>"
def tabsOf (tf : List He.Defn) (K : Frag) : List (Addr × Str) := tf.map fun p => ((He.cT K p).2, lamOf p)
def tabsB (tf : List He.Defn) (K : Frag) : Bool := decide ((tf.map fun p => (He.cT K p).2).Nodup)
theorem tab_in {tf : List He.Defn} {K : Frag} {q : He.Defn} (h : q ∈ tf) : ((He.cT K q).2, lamOf q) ∈ tabsOf tf K := List.mem_map.mpr ⟨q, h, rfl⟩
theorem nodup_map_inj {α β : Type} {f : α → β} : ∀ {l : List α}, (l.map f).Nodup → ∀ a ∈ l, ∀ b ∈ l, f a = f b → a = b
  | [], _, a, m, _, _, _ => by cases m
  | x :: l, h, a, ma, b, mb, e => by
    rw [List.map_cons, List.nodup_cons] at h
    rcases List.mem_cons.mp ma with ea | ma'
    · rcases List.mem_cons.mp mb with eb | mb'
      · rw [ea, eb]
      · exact absurd (List.mem_map.mpr ⟨b, mb', by rw [← e, ea]⟩) h.1
    · rcases List.mem_cons.mp mb with eb | mb'
      · exact absurd (List.mem_map.mpr ⟨a, ma', by rw [e, eb]⟩) h.1
      · exact nodup_map_inj h.2 a ma' b mb' e
theorem tab_one {tf : List He.Defn} {K : Frag} (h : tabsB tf K = true) {q : He.Defn} (hq : q ∈ tf) : ∀ p ∈ tabsOf tf K, p.1 = (He.cT K q).2 → p.2 = lamOf q := by
  intro p hp e
  obtain ⟨r, hr, rfl⟩ := List.mem_map.mp hp
  have n := of_decide_eq_true h
  rw [nodup_map_inj n r hr q hq e]
/-! ### the hook that tells of getters, classmethods and tables at once -/
abbrev frS (g : Addr → Option Obj) (n : Nat) : Frag := He.frT g (He5.asA g n)
def obsPA (n : Nat) (fa : List He.Fa) (fn : List He.DefD) (gs : List GetD) (tf : List He.Defn) (ex : Frag → Bool) (g : Addr → Option Obj) : AlPX :=
  ((He.obsT fa fn [] (frS g n), ((gs.all fun d => d.ok (frS g n)) && ex (frS g n)) && He.tabsB g tf (frS g n)), gs.map fun d => fnA (frS g n) (d.addr (frS g n)))
theorem saysPA_of {n : Nat} {fa : List He.Fa} {fn : List He.DefD} {gs : List GetD} {tf : List He.Defn} {ex : Frag → Bool} {w : World} {h : Heap} (e : obsPA n fa fn gs tf ex h.get? = valPX fn gs w) : SaysPX fa fn gs tf ex w h (frS h.get? n) := by
  have e1 := congrArg (fun z : AlPX => z.1.1) e
  have e2 := congrArg (fun z : AlPX => z.1.2) e
  have e3 := congrArg (fun z : AlPX => z.2) e
  obtain ⟨m, tb⟩ := He.ba (show (((gs.all fun d => d.ok (frS h.get? n)) && ex (frS h.get? n)) && He.tabsB h.get? tf (frS h.get? n)) = true from e2)
  have one : ∀ q ∈ tf, PySem.W.codeHdIn (frS h.get? n) (He.cT (frS h.get? n) q).1 (He.cT (frS h.get? n) q).2 = true ∧ ∃ u, h.get? (He.cT (frS h.get? n) q).2 = some u ∧ He.emptyTab u = true := by
    intro q hq
    obtain ⟨a, b⟩ := He.ba (List.all_eq_true.mp tb q hq)
    cases there : h.get? (He.cT (frS h.get? n) q).2 with
    | none => rw [there] at b; cases b
    | some u => rw [there] at b; exact ⟨a, u, rfl, b⟩
  refine ⟨⟨e1, m, fun q hq => (one q hq).1, fun q hq => ?_, fun q hq => ?_⟩, e3⟩
  · obtain ⟨_, u, there, em⟩ := one q hq
    exact He.frT_none there em
  · obtain ⟨_, u, there, em⟩ := one q hq
    rw [there, He.emptyTab_eq em]
def hookPA (n : Nat) (fa : List He.Fa) (fn : List He.DefD) (gs : List GetD) (tf : List He.Defn) (ex : Frag → Bool) : PySem.W.Hook where
  α := AlPX
  obs := fun s => obsPA n fa fn gs tf ex s.heap.get?
  val := fun w => valPX fn gs w
  says := fun w h => ∃ K : Frag, K.In h ∧ SaysPX fa fn gs tf ex w h K
  of := fun _ _ e => ⟨_, He.frT_in, saysPA_of e⟩
  keeps := fun _ _ _ ⟨K, hK, c⟩ k => ⟨K, PySem.W.Frag.In.keeps hK k, ⟨⟨c.x.t, c.x.more, c.x.hd, c.x.out, fun p hp => k _ _ (c.x.empty p hp)⟩, c.gets⟩⟩
theorem obsPA_eq {n : Nat} {fa : List He.Fa} {fn : List He.DefD} {gs : List GetD} {tf : List He.Defn} {ex : Frag → Bool} {g : Addr → Option Obj} {s : Shared} (h : ∀ a, g a = s.heap.get? a) : obsPA n fa fn gs tf ex g = (hookPA n fa fn gs tf ex).obs s := by
  have e : g = s.heap.get? := funext h
  rw [e] <;> rfl
end HP

/-! the head's facts -/
namespace B17
open PySem PySem.Spec PyProof.Rows L2 XE
open PySem.W (Frag)
def dG (x : Str) (st : Stmt) : He.DefD := ⟨(x, none), x, x, defArgs st, defBody st, defScope st, [], []⟩
def dN (x y : Str) (st : Stmt) : He.DefD := ⟨(x, none), y, y, defArgs st, defBody st, defScope st, [], []⟩
def dM (c x : Str) (st : Stmt) : He.DefD := ⟨(c, some x), x, c ++ "." ++ x, defArgs st, defBody st, defScope st, [], []⟩
def gM (c : Str) (t : String) (x : Str) (st : Stmt) : HP.GetD := ⟨fun K => He5.wf K (He.ga K c) t x, x, c ++ "." ++ x, defArgs st, defBody st, defScope st⟩
def fn : List He.DefD := [dG "_law_bit" (top 47), dG "_law_jug" (top 46), dG "_law_dealt" (top 49), dG "is_integer" (top 16), dG "is_letters" (top 17), dG "_is_spelled" (top 20), dG "ordered" (top 21), dG "check_letters" (top 23), dG "is_text" (top 18), dG "check_text" (top 24), dG "_is_word_of" (top 19), dG "ordered_words" (top 22), dG "_some_begins" (top 31), dG "first_clash" (top 30), dG "check_number" (top 25), dG "check_book" (top 29), dG "places_in" (top 35), dG "words_at" (top 34), dG "row_from" (top 37), dG "words_ahead" (top 36), dG "count_ways" (top 39), dG "counts" (top 40), dG "places" (top 42), dG "_law_sorted" (top 52), dG "_law_pick" (top 48), dG "_law_signs" (top 50), dG "_law_line" (top 51), dG "_law_meet" (top 53), dG "_law_lot" (top 54), dG "_law_spots" (top 55), dG "_law_much" (top 56), dG "_law_grown" (top 57), dG "_law_book_by" (top 58), dG "_law_full" (top 59), dG "_law_some_book" (top 60), dG "ways" (top 41), dG "_cuts_from" (top 44), dG "is_way" (top 43), dG "_law_came" (top 61), dG "_law_right" (top 62), dG "law" (top 63), dM "Book" "__init__" (inClass (top 28) 0)]
def gs : List HP.GetD := [gM "Book" "property" "letters" (inClass (top 28) 2), gM "Book" "property" "words" (inClass (top 28) 3), gM "Book" "classmethod" "uniform" (inClass (top 28) 1)]
def fa : List He.Fa := [.glo "_law_bit", .glo "_law_jug", .glo "_law_dealt", .glo "is_integer", .glo "is_letters", .glo "_is_spelled", .glo "ordered", .glo "check_letters", .glo "is_text", .glo "check_text", .glo "_is_word_of", .glo "ordered_words", .glo "_some_begins", .glo "first_clash", .glo "check_number", .glo "check_book", .glo "places_in", .glo "words_at", .glo "row_from", .glo "words_ahead", .glo "count_ways", .glo "counts", .glo "places", .glo "_law_sorted", .glo "_law_pick", .glo "_law_signs", .glo "_law_line", .glo "_law_meet", .glo "_law_lot", .glo "_law_spots", .glo "_law_much", .glo "_law_grown", .glo "_law_book_by", .glo "_law_full", .glo "_law_some_book", .glo "ways", .glo "_cuts_from", .glo "is_way", .glo "_law_came", .glo "_law_right", .glo "law", .glo "InvalidLetters", .glo "InvalidBook", .glo "InvalidText", .glo "Book", .int "_TOO_LONG" ((10 ^ 50) ^ 4), .int "MAX_LETTERS" 3, .int "MAX_WORD" 400, .int "MAX_WORDS" 400, .int "MAX_TEXT" 4000, .free "isinstance", .free "int", .free "bool", .free "str", .free "tuple", .free "abs", .free "len", .free "sorted", .free "set", .free "any", .free "all", .free "zip", .free "range", .free "max", .free "min", .free "list", .free "sum", .free "repr", .cls "Book", .mkr "Book", .noat "Book" "_letters", .noat "Book" "_words", .noat "Book" "_known", .meth "Book" "__init__", .exc "InvalidLetters", .exc "InvalidBook", .exc "InvalidText"]
def tf : List He.Defn := [("_law_right", none), ("law", none)]
def allN : List String := ["NoneType", "int", "bool", "str", "tuple", "list", "dict"]
def clsChk (K : Frag) (C : Addr) : Bool := He.eqO (PySem.W.findIn K (.ref C) "__class__") (some (some (.builtin "object.__class__"))) && (He.eqO (PySem.W.specialIn K (.builtin "object.__class__") "__get__") (some (some (.builtin "getset_descriptor.__get__"))) &&
  (decide (PySem.W.takesIn K (.builtin "object.__class__") = some true) && (decide (PySem.W.mroIn K C (.type "object") = some true) && (decide (PySem.W.kitOne K (.ref C) (.ref C) = some true) && (decide (PySem.W.kitOne K (.ref C) (.type "str") = some false) &&
  (allN.all fun T => decide (PySem.W.kitOne K (.type T) (.ref C) = some false) && PySem.W.notFirst K C (.type T)))))))
def neChk (K : Frag) (C : Addr) : Bool := He.eqO (PySem.W.findIn K (.ref C) "__ne__") (some (some (.builtin "object.__ne__"))) && decide (PySem.W.subIn K (.ref C) (.type "object") = some true)
def nmA : Nat → Str
  | 0 => "InvalidBook"
  | _ => "InvalidText"
def clA (K : Frag) (i : Nat) : Addr := He.ga K (nmA i)
def ex (K : Frag) : Bool := (HP.tabsB tf K) && ((clsChk K (He.ga K "Book")) && ((HP.propB K (He.ga K "Book") "letters") && ((HP.propB K (He.ga K "Book") "words") && ((HP.clsmB K (He.ga K "Book") "uniform") && ((decide (PySem.W.subIn K (.ref (He.ga K "InvalidBook")) (.type "StopIteration") = some false)) && ((decide (PySem.W.subIn K (.ref (He.ga K "InvalidText")) (.type "StopIteration") = some false)) && (((List.range 2).all fun i => (List.range (i + 1)).all fun j => decide (PySem.W.exmOne K (.ref (clA K i)) (.ref (clA K j)) = some (decide (i = j)))))))))))
abbrev R : PySem.W.OpenRow := PySem.W.OpenLaw.row PySem.Challenge.rw_twowaycuts_k17_errors_of_ways
abbrev hk : PySem.W.Hook := HP.hookPA 7 fa fn gs tf ex
def ob (s : PySem.W.SharedT) : HP.AlPX := HP.obsPA 7 fa fn gs tf ex (HandSHeadRun.getT s)
theorem ob_eq (s : PySem.W.SharedT) : ob s = hk.obs s.abs := HP.obsPA_eq (HandSHeadRun.getT_eq s)
def loose : List Str := (["InvalidLetters", "InvalidBook", "InvalidText", "Book", "_wall", "BookError", "InvalidWord", "InvalidOperation", "InvalidNumber", "TooMany", "Clash", "do_clash"] : List Str) ++ (["_TOO_LONG", "MAX_LETTERS", "MAX_WORD", "MAX_WORDS", "MAX_TEXT", "_law_bit", "_law_jug", "_law_dealt", "is_integer", "is_letters", "_is_spelled", "ordered"] : List Str) ++ (["check_letters", "is_text", "check_text", "_is_word_of", "ordered_words", "_some_begins", "first_clash", "check_number", "check_book", "places_in", "words_at", "row_from"] : List Str) ++ (["words_ahead", "count_ways", "counts", "places", "_law_sorted", "_law_pick", "_law_signs", "_law_line", "_law_meet", "_law_lot", "_law_spots", "_law_much"] : List Str) ++ (["_law_grown", "_law_book_by", "_law_full", "_law_some_book", "ways", "_cuts_from", "is_way", "_law_came", "_law_right", "law"] : List Str)
set_option maxHeartbeats 0 in
theorem run (w : World) : HandSHeadRun.RunEq R (PySem.W.view R.prog [63]) hk ob 12000 loose w := by
  intro os
  kernel_rfl
end B17

/-! Sets of any kind of key: made of an iterable, sorted. What a kind must bring is a SetKit. -/
namespace XSt
open PySem PySem.Spec PyProof.Rows L2

/-- the newly made, empty one -/
def bare (w : World) : Obj := { cls := .type "set", dict := none, data := .set #[] 0 (.fresh 0 0 (!w.params.followText "set-order")) }
/-- the second heap has all that the first one has -/
def Sub (h h' : Heap) : Prop := ∀ b o, h.get? b = some o → h'.get? b = some o

theorem Sub.refl (h : Heap) : Sub h h := fun _ _ e => e
theorem Sub.trans {a b c : Heap} (x : Sub a b) (y : Sub b c) : Sub a c := fun q o e => y q o (x q o e)
theorem Sub.push (h : Heap) (o : Obj) : Sub h (h.push o) := fun _ _ e => Heap.get?_push_of_some _ e
theorem beyond {h : Heap} {b : Addr} (k : h.objs.size ≤ b) : h.get? b = none := by
  cases q : h.get? b with
  | none => rfl
  | some o => exact absurd (Heap.lt_size q) (Nat.not_lt.mpr k)

/-- items, each of them shown by a value -/
inductive Show {ι : Type} (Rel : ι → Value → Prop) : List ι → List Value → Prop
  | nil : Show Rel [] []
  | cons {x v xs vs} : Rel x v → Show Rel xs vs → Show Rel (x :: xs) (v :: vs)

structure SetKit (P : Program) (w : World) (ι κ : Type) where
  key : ι → κ
  Is : Heap → Addr → List ι → Prop
  Elt : Heap → ι → Prop
  Rel : ι → Value → Prop
  room : Around → Prop
  most : Nat
  small : most ≤ scanBound
  move : ∀ {h h' : Heap} {S : Addr} {L : List ι}, Is h S L → (∀ o, h.get? S = some o → h'.get? S = some o) → Is h' S L
  new : ∀ {h : Heap} {S : Addr}, h.get? S = some (bare w) → Is h S []
  step : ∀ {A : Around} {E : Value → Shared → Prop} {s : Shared} {h0 : Heap} {S : Addr} {L : List ι} {x : ι} {v : Value} {Q : Bool → Shared → Prop}, room A → Is s.heap S L →
    Sub h0 s.heap → h0.get? S = none → (∀ y ∈ L, Elt h0 y) → Elt h0 x → Rel x v → L.length + 1 < most →
    (∀ b h' tk L', Heap.SameBut S s.heap h' → s.toks ≤ tk → Is h' S L' → (key x ∈ L.map key → L' = L) → (key x ∉ L.map key → L'.Perm (x :: L)) → Q b { s with heap := h', toks := tk }) →
    wpAny (model P w) A (setAdd S v) Q E s
  open_ : ∀ {h : Heap} {S : Addr} {L : List ι}, Is h S L → ∃ es ep t, SetAt h S es ep t ∧ t.fits es.size = true ∧ es.size < scanBound ∧ Ris t.place.toList ∧ (w.params.followText "set-order" = true ∨ t.led = true) ∧
    Show Rel L (es.toList.map (·.2))

/-- L: what the first i of xs leave, one for each key -/
structure Part {ι κ : Type} (key : ι → κ) (xs : List ι) (i : Nat) (L : List ι) : Prop where
  from_ : ∀ y ∈ L, y ∈ xs.take i
  has : ∀ y ∈ xs.take i, key y ∈ L.map key
  once : (L.map key).Nodup
  few : L.length ≤ i

theorem take_more {α : Type} {l : List α} {i : Nat} {x : α} (e : l[i]? = some x) : l.take (i + 1) = l.take i ++ [x] := by
  rw [List.take_add_one, e]
  rfl
theorem Part.zero {ι κ : Type} (key : ι → κ) (xs : List ι) : Part key xs 0 [] :=
  { from_ := fun _ z => (by cases z), has := fun y z => (by rw [List.take_zero] at z; cases z), once := List.nodup_nil, few := Nat.le_refl _ }
theorem Part.next {ι κ : Type} {key : ι → κ} {xs L L' : List ι} {i : Nat} {x : ι} (p : Part key xs i L) (e : xs[i]? = some x)
    (c1 : key x ∈ L.map key → L' = L) (c2 : key x ∉ L.map key → L'.Perm (x :: L)) : Part key xs (i + 1) L' := by
  by_cases c : key x ∈ L.map key
  · rw [c1 c]
    refine ⟨fun y hy => ?_, fun y hy => ?_, p.once, Nat.le_succ_of_le p.few⟩
    · rw [take_more e, List.mem_append]
      exact Or.inl (p.from_ y hy)
    · rw [take_more e, List.mem_append, List.mem_singleton] at hy
      rcases hy with hy | rfl
      · exact p.has y hy
      · exact c
  · have q := c2 c
    refine ⟨fun y hy => ?_, fun y hy => ?_, ?_, ?_⟩
    · rw [take_more e, List.mem_append, List.mem_singleton]
      rcases List.mem_cons.mp (q.mem_iff.mp hy) with r | r
      · exact Or.inr r
      · exact Or.inl (p.from_ y r)
    · rw [(q.map key).mem_iff, List.map_cons, List.mem_cons]
      rw [take_more e, List.mem_append, List.mem_singleton] at hy
      rcases hy with hy | rfl
      · exact Or.inr (p.has y hy)
      · exact Or.inl rfl
    · refine (q.map key).nodup_iff.mpr ?_
      rw [List.map_cons]
      exact List.nodup_cons.mpr ⟨c, p.once⟩
    · have := q.length_eq
      have := p.few
      simp only [List.length_cons] at *
      omega

section
variable {P : Program} {w : World} {ι κ : Type} {A : Around} {E : Value → Shared → Prop} {s : Shared}

/-- the loop that takes one thing after the other into the set -/
theorem grow (Kt : SetKit P w ι κ) {I : Addr} {fp wr : List Addr} {G : Array GenState → Array GenState → Prop} {n : Nat} {Pv : Nat → Value → Prop} {St : Nat → Shared → Prop} {R : Result → Shared → Prop}
    (W : WalksS P w A.in1 I fp wr G n Pv St) {S : Addr} (hSf : S ∉ fp) {xs : List ι} (hn : n = xs.length) (lim : xs.length < Kt.most) {h0 : Heap}
    (hval : ∀ i v, Pv i v → ∃ x, xs[i]? = some x ∧ Kt.Rel x v) (elt : ∀ x ∈ xs, Kt.Elt h0 x) (hS0 : h0.get? S = none) (hw0 : ∀ b ∈ wr, h0.get? b = none) (rm : Kt.room A.in1) :
    ∀ (m i : Nat) (s : Shared), i + m = n → St i s → Sub h0 s.heap → (∃ L, Kt.Is s.heap S L ∧ Part Kt.key xs i L) →
      (∀ s' L, Moved (S :: wr) G s s' → Kt.Is s'.heap S L → Part Kt.key xs n L → Sub h0 s'.heap → R (.ok (.ret .none)) s') →
      codeAny (model P w) A (.builtin "set.update.loop" ⟨[.ref S, .ref I], []⟩) R s := by
  have wide : ∀ b ∈ wr, b ∈ S :: wr := fun b hb => List.mem_cons_of_mem _ hb
  have out : ∀ {p q : Shared}, Moved wr G p q → Sub h0 p.heap → Sub h0 q.heap := fun mv k b o e => mv.heap b o (fun z => by rw [hw0 b z] at e; cases e) (k b o e)
  have own : ∀ {p q : Shared}, Moved wr G p q → ∀ o, p.heap.get? S = some o → q.heap.get? S = some o := fun mv o e => mv.heap S o (fun z => hSf (W.sub _ z)) e
  intro m
  induction m with
  | zero =>
    intro i s him st k ⟨L, is, pt⟩ fin
    obtain rfl : i = n := by omega
    refine codeAny_builtin F.entry_set_update_loop ?_
    rw [Around.under_plainId F.plain_set_update_loop _]
    show wpAny _ A.in1 (pyNext (.ref I) >>= _) _ _ s
    exact wpAny_bind (W.done s _ _ st fun q mv => wpAny_pure (fin q L (mv.mono wide) (Kt.move is (own mv)) pt (out mv k)))
  | succ m ih =>
    intro i s him st k ⟨L, is, pt⟩ fin
    refine codeAny_builtin F.entry_set_update_loop ?_
    rw [Around.under_plainId F.plain_set_update_loop _]
    show wpAny _ A.in1 (pyNext (.ref I) >>= _) _ _ s
    refine wpAny_bind (W.item i s _ _ (by omega) st fun v q pv st' mv => ?_)
    obtain ⟨x, hx, rel⟩ := hval i v pv
    have k' := out mv k
    show wpAny _ A.in1 (holding [v] (setAdd S v) >>= _) _ _ q
    refine wpAny_bind (wpAny_holding (Kt.step rm (Kt.move is (own mv)) k' hS0 (fun y hy => elt y (List.mem_of_mem_take (pt.from_ y hy))) (elt x (List.mem_of_getElem? hx)) rel ?_ fun b h' tk L' sb tks is' c1 c2 => ?_))
    · have := pt.few
      omega
    · have k2 : Sub h0 h' := fun b o e => (sb.2 b (fun z => by rw [z, hS0] at e; cases e)).trans (k' b o e)
      refine wpAny_pure ⟨plainId_quiet F.plain_set_update_loop _, ih (i + 1) _ (by omega) (W.frame _ q _ _ st' tks fun b hb o e => ?_) k2 ⟨L', is', pt.next hx c1 c2⟩ fun r L2 mv2 is2 pt2 k3 => ?_⟩
      · exact (sb.2 b (fun z => hSf (z ▸ hb))).trans e
      · refine fin r L2 (Moved.trans W.gtrans ((mv.mono wide).then_heap tks fun b o hb e => ?_) mv2) is2 pt2 k3
        exact (sb.2 b (fun z => hb (by rw [z]; exact List.mem_cons_self ..))).trans e

/-- what iter(v) gives, once a new object lies behind the heap -/
def Iterable (P : Program) (w : World) (v : Value) (s : Shared) (n : Nat) (Pv : Nat → Value → Prop) : Prop :=
  ∀ (A' : Around) (E' : Value → Shared → Prop) (o : Obj) (Q : Value → Shared → Prop),
    (∀ (o' : Obj) (fp : List Addr) (St : Nat → Heap → Prop), (∀ A'' : Around, A''.handled = none → Walks P w A'' (s.heap.objs.size + 1) fp [s.heap.objs.size + 1] n Pv St) →
      s.heap.objs.size ∉ fp → St 0 ((s.heap.push o).push o') → Q (.ref (s.heap.objs.size + 1)) { s with heap := (s.heap.push o).push o' }) →
    wpAny (model P w) A' (pyIter v) Q E' { s with heap := s.heap.push o }
end
end XSt

/-! set(x), x of any kind that iterates; sorted(set) -/
namespace XSt
open PySem PySem.Spec PyProof.Rows L2

section
variable {P : Program} {w : World} {ι κ : Type} {A : Around} {E : Value → Shared → Prop} {s : Shared}

set_option maxHeartbeats 3200000 in
theorem set_of (Kt : SetKit P w ι κ) {T : String} {v : Value} {xs : List ι} {n : Nat} {Pv : Nat → Value → Prop} {Q : Value → Shared → Prop} (quiet : A.handled = none)
    (ty : ∀ s' : Shared, Sub s.heap s'.heap → s'.TypeIs v T) (nd : (Value.type T == Value.type "dict") = false) (ns : isSubtype (.type T) (.type "set") = pure false) (nf : isSubtype (.type T) (.type "frozenset") = pure false)
    (it : Iterable P w v s n Pv) (hn : n = xs.length) (lim : xs.length < Kt.most) (hval : ∀ i v, Pv i v → ∃ x, xs[i]? = some x ∧ Kt.Rel x v) (elt : ∀ x ∈ xs, Kt.Elt s.heap x)
    (rm : Kt.room A.in1.in1.in1)
    (fin : ∀ (h' : Heap) (tk : Nat) (L : List ι), Kt.Is h' s.heap.objs.size L → Part Kt.key xs n L → Sub s.heap h' → Q (.ref s.heap.objs.size) { s with heap := h', toks := tk }) :
    wpAny (model P w) A (call (.type "set") [v]) Q E s := by
  obtain ⟨c, tl, hmro⟩ := F.called_set.mro
  have a1 := F.called_set.made
  have a2 := F.called_set.sub
  refine wpAny_call (codeAny_of_tree ?_)
  show wpAny _ _ (callAny (.type "set") _) _ _ _
  refine wpAny_pure ⟨Code.quiet_builtin _ (by decide +kernel), codeAny_builtin F.entry_type_call ?_⟩
  rw [Around.under_plain (weight_type_call_type "set" [v] []) rfl]
  have a3 := F.called_set.notType
  have a4 := F.called_set.canCreate
  have a5 := F.typeCall_set_1 v
  repeat (any_goals (first | assumption | wp_step))
  refine codeAny_mono (code_set_led1 v (E := E) (Q₁ := fun x q => x = .ref s.heap.objs.size ∧ q = { s with heap := s.heap.push (bare w) }) ⟨rfl, rfl⟩) fun r q hr => ?_
  match r, hr with
  | .error e, hr => exact hr
  | .ok (.ret x), hr =>
    obtain ⟨rfl, rfl⟩ := hr
    have at_ : (s.heap.push (bare w)).get? s.heap.objs.size = some (bare w) := Heap.get?_push_size _ rfl
    have tS : Shared.TypeIs { s with heap := s.heap.push (bare w) } (.ref s.heap.objs.size) "set" := ⟨_, at_, rfl⟩
    have a6 := F.called_set.init.lookup
    have a7 := F.called_set.init.bind (.ref s.heap.objs.size)
    repeat (any_goals (first | assumption | wp_step))
    refine codeAny_mono (codeAny_call_builtin (R := wants (fun r q => r = .none ∧ ∃ h' tk L, q = { s with heap := h', toks := tk } ∧ Kt.Is h' s.heap.objs.size L ∧ Part Kt.key xs n L ∧ Sub s.heap h') E)
      F.called_set.init.plain F.entry_set_init (check_set_init_1 tS ?_)) fun r q hr => ?_
    · have tv : Shared.TypeIs { s with heap := s.heap.push (bare w) } v T := ty _ (Sub.push _ _)
      unfold Builtin.«set.__init__» noKeywords Builtin.Frozenset.updateFrom
      generalize hPI : pyIter = PI
      wp_walk
      subst hPI
      refine it A.in1.in1 _ (bare w) _ fun o' fp St wk nfp st0 => ?_
      refine wpAny_bind (wpAny_runValue ?_)
      have hid3 : A.in1.in1.in1.handled = none := by simp [quiet]
      have zz : ((s.heap.push (bare w)).push o').get? s.heap.objs.size = some (bare w) := Heap.get?_push_of_some _ at_
      refine grow Kt (A := A.in1.in1) (wk _ hid3).toS nfp hn lim hval elt (beyond (Nat.le_refl _)) (fun b hb => ?_) rm n 0 _ (Nat.zero_add _) st0
        ((Sub.push _ _).trans (Sub.push _ _)) ⟨[], Kt.new zz, Part.zero _ _⟩ fun q L mv is pt sb => ?_
      · rw [List.mem_singleton.mp hb]
        exact beyond (Nat.le_succ _)
      · obtain ⟨h', g2, d', tk', os'⟩ := q
        obtain rfl : g2 = s.gens := mv.gens
        obtain rfl : d' = s.drawn := mv.drawn
        obtain rfl : os' = s.os := mv.os
        show wpAny _ _ _ _ _ _
        refine wpAny_pure ?_
        show wpAny _ _ (ret Value.none) _ _ _
        exact wpAny_pure ⟨rfl, h', tk', L, rfl, is, pt, sb⟩
    · match r, hr with
      | .error e, hr => exact hr
      | .ok (.ret x), hr =>
        obtain ⟨rfl, h', tk, L, rfl, q1, q2, q3⟩ := hr
        repeat (any_goals (first | assumption | wp_step))
        exact fin _ _ _ q1 q2 q3

theorem iterable_str (x : Str) (t : Tok) : Iterable P w (.str x t) s x.cps.size (SignAt x) := by
  intro A' E' o Q h
  refine wpAny_pyIter_str fun o' St wk st0 => ?_
  have z : (s.heap.push o).objs.size = s.heap.objs.size + 1 := size_push' _ _
  rw [z]
  refine h o' [s.heap.objs.size + 1] St (fun A'' q => ?_) (fun m => absurd (List.mem_singleton.mp m) (Nat.ne_of_lt (Nat.lt_succ_self _))) st0
  have r := wk A'' q
  rw [z] at r
  exact r

theorem iterable_list {l : Addr} {items : Array Value} (hl : s.heap.IsList l items) : Iterable P w (.ref l) s items.size (fun i v => items[i]? = some v) := by
  intro A' E' o Q h
  have z : (s.heap.push o).objs.size = s.heap.objs.size + 1 := size_push' _ _
  have low : l < s.heap.objs.size := by
    obtain ⟨q, hq, _⟩ := hl
    exact Heap.lt_size hq
  refine wpAny_pyIter_list (hl.push o) ?_
  show Q (.ref (s.heap.push o).objs.size) _
  rw [z]
  refine h { cls := .type "list_iterator", data := .fields #[.ref l, .int 0 0] } [s.heap.objs.size + 1, l] _ (fun A'' q => Walks.list q (s.heap.objs.size + 1) l (Nat.ne_of_lt (Nat.lt_succ_of_lt low)) items) (fun m => ?_) ⟨⟨{ cls := .type "list_iterator", data := .fields #[.ref l, .int 0 0] }, ?_, rfl, rfl⟩, (hl.push o).push _⟩
  · rcases List.mem_cons.mp m with m | m
    · exact absurd m (Nat.ne_of_lt (Nat.lt_succ_self _))
    · exact absurd (List.mem_singleton.mp m).symm (Nat.ne_of_lt low)
  · rw [← z]
    exact Heap.get?_push_size _ rfl

theorem iterable_tuple {l : Addr} {items : Array Value} (hl : s.heap.IsTuple l items) : Iterable P w (.ref l) s items.size (fun i v => items[i]? = some v) := by
  intro A' E' o Q h
  have z : (s.heap.push o).objs.size = s.heap.objs.size + 1 := size_push' _ _
  have low : l < s.heap.objs.size := by
    obtain ⟨q, hq, _⟩ := hl
    exact Heap.lt_size hq
  refine wpAny_pyIter_tuple (hl.push o) ?_
  show Q (.ref (s.heap.push o).objs.size) _
  rw [z]
  refine h { cls := .type "tuple_iterator", data := .fields #[.ref l, .int 0 0] } [s.heap.objs.size + 1, l] _ (fun A'' q => Walks.tuple q (s.heap.objs.size + 1) l (Nat.ne_of_lt (Nat.lt_succ_of_lt low)) items) (fun m => ?_) ⟨⟨{ cls := .type "tuple_iterator", data := .fields #[.ref l, .int 0 0] }, ?_, rfl, rfl⟩, (hl.push o).push _⟩
  · rcases List.mem_cons.mp m with m | m
    · exact absurd m (Nat.ne_of_lt (Nat.lt_succ_self _))
    · exact absurd (List.mem_singleton.mp m).symm (Nat.ne_of_lt low)
  · rw [← z]
    exact Heap.get?_push_size _ rfl

theorem set_of_str (Kt : SetKit P w ι κ) {x : Str} {t : Tok} {xs : List ι} {Q : Value → Shared → Prop} (quiet : A.handled = none) (hn : x.cps.size = xs.length) (lim : xs.length < Kt.most)
    (hval : ∀ i v, SignAt x i v → ∃ y, xs[i]? = some y ∧ Kt.Rel y v) (elt : ∀ y ∈ xs, Kt.Elt s.heap y) (rm : Kt.room A.in1.in1.in1)
    (fin : ∀ (h' : Heap) (tk : Nat) (L : List ι), Kt.Is h' s.heap.objs.size L → Part Kt.key xs xs.length L → Sub s.heap h' → Q (.ref s.heap.objs.size) { s with heap := h', toks := tk }) :
    wpAny (model P w) A (call (.type "set") [.str x t]) Q E s :=
  set_of Kt (T := "str") quiet (fun _ _ => rfl) (by decide) F.sub_str_set F.sub_str_frozenset (iterable_str x t) hn lim hval elt rm (by rw [hn]; exact fin)

theorem show_at {Rel : ι → Value → Prop} : ∀ {xs : List ι} {vs : List Value}, Show Rel xs vs → ∀ (i : Nat) (v : Value), vs[i]? = some v → ∃ x, xs[i]? = some x ∧ Rel x v
  | _, _, .nil, i, v, e => by simp at e
  | x :: xs, v0 :: vs, .cons r t, 0, v, e => ⟨x, rfl, by simp at e; rw [← e]; exact r⟩
  | x :: xs, v0 :: vs, .cons r t, i + 1, v, e => show_at t i v (by simpa using e)
theorem show_len {Rel : ι → Value → Prop} : ∀ {xs : List ι} {vs : List Value}, Show Rel xs vs → xs.length = vs.length
  | _, _, .nil => rfl
  | _ :: _, _ :: _, .cons _ t => congrArg (· + 1) (show_len t)

theorem set_of_list (Kt : SetKit P w ι κ) {l : Addr} {items : Array Value} {xs : List ι} {Q : Value → Shared → Prop} (quiet : A.handled = none) (hl : s.heap.IsList l items) (sh : Show Kt.Rel xs items.toList) (lim : xs.length < Kt.most)
    (elt : ∀ y ∈ xs, Kt.Elt s.heap y) (rm : Kt.room A.in1.in1.in1)
    (fin : ∀ (h' : Heap) (tk : Nat) (L : List ι), Kt.Is h' s.heap.objs.size L → Part Kt.key xs xs.length L → Sub s.heap h' → Q (.ref s.heap.objs.size) { s with heap := h', toks := tk }) :
    wpAny (model P w) A (call (.type "set") [.ref l]) Q E s := by
  have hn : items.size = xs.length := by rw [show_len sh, Array.length_toList]
  refine set_of Kt (T := "list") quiet (fun s' k => ?_) (by decide) F.sub_list_set F.sub_list_frozenset (iterable_list hl) hn lim (fun i v e => show_at sh i v (by rw [Array.getElem?_toList]; exact e)) elt rm (by rw [hn]; exact fin)
  obtain ⟨o, ho, hc, _⟩ := hl
  exact ⟨o, k _ _ ho, hc⟩
theorem set_of_tuple (Kt : SetKit P w ι κ) {l : Addr} {items : Array Value} {xs : List ι} {Q : Value → Shared → Prop} (quiet : A.handled = none) (hl : s.heap.IsTuple l items) (sh : Show Kt.Rel xs items.toList) (lim : xs.length < Kt.most)
    (elt : ∀ y ∈ xs, Kt.Elt s.heap y) (rm : Kt.room A.in1.in1.in1)
    (fin : ∀ (h' : Heap) (tk : Nat) (L : List ι), Kt.Is h' s.heap.objs.size L → Part Kt.key xs xs.length L → Sub s.heap h' → Q (.ref s.heap.objs.size) { s with heap := h', toks := tk }) :
    wpAny (model P w) A (call (.type "set") [.ref l]) Q E s := by
  have hn : items.size = xs.length := by rw [show_len sh, Array.length_toList]
  refine set_of Kt (T := "tuple") quiet (fun s' k => ?_) (by decide) F.sub_tuple_set F.sub_tuple_frozenset (iterable_tuple hl) hn lim (fun i v e => show_at sh i v (by rw [Array.getElem?_toList]; exact e)) elt rm (by rw [hn]; exact fin)
  obtain ⟨o, ho, hc, _⟩ := hl
  exact ⟨o, k _ _ ho, hc⟩
end
end XSt

/-! sorted(set) -/
namespace XSt
open PySem PySem.Spec PyProof.Rows L2 PySem.W

theorem show_perm {ι : Type} {Rel : ι → Value → Prop} {us vs : List Value} (p : us.Perm vs) : ∀ {xs : List ι}, Show Rel xs vs → ∃ ys, ys.Perm xs ∧ Show Rel ys us := by
  induction p with
  | nil => intro xs h; exact ⟨xs, List.Perm.refl _, h⟩
  | cons v p ih =>
    intro xs h
    cases h with
    | cons r t =>
      obtain ⟨ys, q, z⟩ := ih t
      exact ⟨_ :: ys, q.cons _, .cons r z⟩
  | swap v u l =>
    intro xs h
    cases h with
    | cons r t =>
      cases t with
      | cons r2 t2 => exact ⟨_, List.Perm.swap _ _ _, .cons r2 (.cons r t2)⟩
  | trans p q ih1 ih2 =>
    intro xs h
    obtain ⟨ys, a, b⟩ := ih2 h
    obtain ⟨zs, c, d⟩ := ih1 b
    exact ⟨zs, c.trans a, d⟩

theorem show_each {ι : Type} {Rel : ι → Value → Prop} {C : ι → Prop} : ∀ {xs : List ι} {vs : List Value}, Show Rel xs vs → (∀ x ∈ xs, C x) → EachIs (fun v x => Rel x v ∧ C x) vs xs
  | _, _, .nil, _ => .nil
  | _, _, .cons r t, k => .cons ⟨r, k _ (List.mem_cons_self ..)⟩ (show_each t fun x hx => k x (List.mem_cons_of_mem _ hx))
theorem each_show {ι : Type} {Rel : ι → Value → Prop} {C : ι → Prop} : ∀ {xs : List ι} {vs : List Value}, EachIs (fun v x => Rel x v ∧ C x) vs xs → Show Rel xs vs
  | _, _, .nil => .nil
  | _, _, .cons r t => .cons r.1 (each_show t)

section
variable {P : Program} {w : World} {ι κ : Type} {A : Around} {E : Value → Shared → Prop} {s : Shared}

theorem sorted_of (Kt : SetKit P w ι κ) {S : Addr} {L : List ι} (enc : ι → PyData) {Q : Value → Shared → Prop} (quiet : A.handled = none) (is : Kt.Is s.heap S L)
    (rd : ∀ h' : Heap, Sub s.heap h' → ∀ x ∈ L, ∀ v, Kt.Rel x v → ∃ as, Reads h' v (enc x) as ∧ ∀ b ∈ as, b < s.heap.objs.size) (al : ∀ x y, alike (enc x) (enc y) = true)
    (so : ∀ l : List ι, Sortable (l.map enc)) (dp : ∀ x ∈ L, A.units + 2 + (enc x).depth < cLine)
    (fin : ∀ s' p (out : Array Value) (c : Nat) (L1 : List ι), Sub s.heap s'.heap → s'.gens = s.gens → s'.os = s.os → s.heap.objs.size ≤ p → s'.heap.get? p = some (seqObj "list" out c) →
      L1.Perm L → Show Kt.Rel (L1.mergeSort (dataLe false enc)) out.toList → Q (.ref p) s') :
    wpAny (model P w) A (call (.builtin "sorted") [.ref S]) Q E s := by
  obtain ⟨es, ep, t, sat, fit, small, ris, led, sh⟩ := Kt.open_ is
  refine Calls.call_function_entry kind_sorted plain_sorted entry_sorted (args_sorted1 _) ?_
  unfold Builtin.«sorted»
  refine wpAny_bind (m := checkCount "sorted" 1 1 _) (wpAny_pure ?_)
  refine wpAny_bind (collect_set (A := A.in1) quiet sat fit small ris led fun q vs sb sz g1 o1 pm => ?_)
  obtain ⟨L1, pL, sh1⟩ := show_perm pm sh
  have len : vs.length = L1.length := (show_len sh1).symm
  have few : L1.length ≤ sizeLine := by
    rw [pL.length_eq, show_len sh, List.length_map, Array.length_toList]
    exact fits_of_scanBound small
  refine wpAny_bind (wpAny_newList ?_ (by rw [len]; exact few))
  have hl : (q.heap.push (seqObj "list" vs.toArray 0)).get? q.heap.objs.size = some (seqObj "list" vs.toArray 0) := Heap.get?_push_size _ rfl
  have all : Sub s.heap (q.heap.push (seqObj "list" vs.toArray 0)) := Sub.trans sb (Sub.push _ _)
  have ea : EachIs (fun v x => Kt.Rel x v ∧ x ∈ L) vs L1 := show_each sh1 fun x hx => pL.mem_iff.mp hx
  have er : EachIs (fun v x => ∃ as, Reads (q.heap.push (seqObj "list" vs.toArray 0)) v (enc x) as ∧ q.heap.objs.size ∉ as) vs L1 := ea.mono fun v x ⟨r, m⟩ => by
    obtain ⟨as, r1, r2⟩ := rd _ all x m v r
    exact ⟨as, r1, fun z => absurd (r2 _ z) (Nat.not_lt.mpr sz)⟩
  have deep : ∀ x, x ∈ L1 → A.in1.units + 1 + (enc x).depth < cLine := fun x hx => by
    have h1 := dp x (pL.mem_iff.mp hx)
    have h2 : A.in1.units ≤ A.units + 1 := by simp [Around.in1]
    omega
  refine wpAny_bind (wpAny_holding (list_sort_data (s := { q with heap := q.heap.push (seqObj "list" vs.toArray 0) }) (enc := enc) hl ea er (AllAlike.of al) (so L1) few deep fun out lo eo => ?_))
  · obtain ⟨c, hc⟩ := sortedHeap_at (vs := vs) (out := out.toArray) hl
    refine wpAny_pure ⟨_, rfl, fin _ q.heap.objs.size out.toArray c L1 (fun b o e => ?_) g1 o1 sz hc pL (by simpa using each_show eo)⟩
    have k1 := sb b o e
    have lt := Heap.lt_size k1
    show (sortedHeap (q.heap.push (seqObj "list" vs.toArray 0)) q.heap.objs.size vs out.toArray).get? b = some o
    rw [sortedHeap_old (Nat.ne_of_lt lt) (by rw [size_push']; exact Nat.lt_succ_of_lt lt)]
    exact Heap.get?_push_of_some _ k1
end
end XSt

/-! the kit of sets of texts -/
namespace XSt
open PySem PySem.Spec PyProof.Rows L2 PySem.W PySem.Froz

section
variable {P : Program} {w : World} {A : Around} {E : Value → Shared → Prop} {s : Shared}

def TxRel (k : Str) (v : Value) : Prop := ∃ u, v = .str k u

structure TxIs (P : Program) (w : World) (h : Heap) (S : Addr) (L : List Str) (D : SD) : Prop where
  ob : h.get? S = some (sObj "set" D)
  el : ElemsOf (strKind P w) D.1.toList
  sh : Show TxRel L (D.1.toList.map (·.2))
  fit : D.2.2.fits D.1.size = true
  ris : Ris D.2.2.place.toList
  led : w.params.followText "set-order" = true ∨ D.2.2.led = true
  lim : L.length < scanBound

theorem is_txt {k : Str} {v : Value} : (strKind P w).is k v = true ↔ TxRel k v := by
  constructor
  · intro q
    have q' : Value.isStrOf k v = true := q
    cases v <;> simp [Value.isStrOf] at q'
    exact ⟨_, by rw [q']⟩
  · rintro ⟨u, rfl⟩
    exact is_str k u

theorem show_mem {ι : Type} {Rel : ι → Value → Prop} : ∀ {xs : List ι} {vs : List Value}, Show Rel xs vs → (∀ x ∈ xs, ∃ v ∈ vs, Rel x v) ∧ ∀ v ∈ vs, ∃ x ∈ xs, Rel x v
  | _, _, .nil => ⟨fun _ z => (by cases z), fun _ z => (by cases z)⟩
  | x :: xs, v :: vs, .cons r t => by
    obtain ⟨a, b⟩ := show_mem t
    refine ⟨fun y hy => ?_, fun u hu => ?_⟩
    · rcases List.mem_cons.mp hy with rfl | hy
      · exact ⟨v, List.mem_cons_self .., r⟩
      · obtain ⟨u, hu, z⟩ := a y hy
        exact ⟨u, List.mem_cons_of_mem _ hu, z⟩
    · rcases List.mem_cons.mp hu with rfl | hu
      · exact ⟨x, List.mem_cons_self .., r⟩
      · obtain ⟨y, hy, z⟩ := b u hu
        exact ⟨y, List.mem_cons_of_mem _ hy, z⟩

theorem TxRel.one {a b : Str} {v : Value} (x : TxRel a v) (y : TxRel b v) : a = b := by
  obtain ⟨u, rfl⟩ := x
  obtain ⟨u', e⟩ := y
  injection e

theorem TxIs.size {h : Heap} {S : Addr} {L : List Str} {D : SD} (T : TxIs P w h S L D) : D.1.size = L.length := by
  rw [show_len T.sh, List.length_map, Array.length_toList]

theorem TxIs.ok {h : Heap} {S : Addr} {L : List Str} {D : SD} (T : TxIs P w h S L D) : TxOk P w D L where
  el := T.el
  mem := fun k => by
    obtain ⟨a, b⟩ := show_mem T.sh
    constructor
    · intro hk
      obtain ⟨v, hv, r⟩ := a k hk
      obtain ⟨e, he, rfl⟩ := List.mem_map.mp hv
      exact ⟨e, he, is_txt.mpr r⟩
    · rintro ⟨e, he, q⟩
      obtain ⟨y, hy, r⟩ := b e.2 (List.mem_map.mpr ⟨e, he, rfl⟩)
      rw [TxRel.one (is_txt.mp q) r]
      exact hy
  sz := T.size
  fit := T.fit

/-- what a new text does to the table beside its order -/
theorem addTx_laid {es : Array (Int × Value)} {ep : Nat} {t : SetTable} {h : Int} {v : Value} (r : Ris t.place.toList) :
    Ris (addTx h v (es, ep, t)).2.2.place.toList ∧ (addTx h v (es, ep, t)).2.2.led = t.led ∧ (addTx h v (es, ep, t)).1.toList.Perm (es.toList ++ [(h, v)]) := by
  have p1 := layNew_ris t es h v r
  have p2 := layNew_led t es h v
  have p3 := layNew_perm t es h v
  rw [Array.toList_push] at p3
  unfold addTx
  dsimp only
  generalize layNew t es h v = N at p1 p2 p3 ⊢
  have q1 : Ris (if N.2.1.plain = true then { N.2.1 with plain := false } else N.2.1).place.toList := by
    split
    · exact p1
    · exact p1
  have q2 : (if N.2.1.plain = true then { N.2.1 with plain := false } else N.2.1).led = t.led := by
    split
    · exact p2
    · exact p2
  generalize (if N.2.1.plain = true then { N.2.1 with plain := false } else N.2.1) = t2 at q1 q2 ⊢
  unfold tailTx
  split
  · exact ⟨relayAll_ris t2 N.1 _, (relayAll_led t2 N.1 _).trans q2, (relayAll_perm t2 N.1 _).trans p3⟩
  · exact ⟨q1, q2, p3⟩

theorem txt_there {S : Addr} {L : List Str} {D : SD} {k : Str} {u : Tok} {Q : Bool → Shared → Prop} (T : TxIs P w s.heap S L D) (hk : k ∈ L) (h : Q false s) :
    wpAny (model P w) A (setAddHashed S (.str k u) (hashStr w k)) Q E s := by
  have ok := T.ok
  obtain ⟨es, ep, t⟩ := D
  have dd : (sObj "set" (es, ep, t)).data = .set es ep t := rfl
  have few : es.size < scanBound := by
    have h1 := T.size
    have h2 := T.lim
    simp only at h1
    omega
  have iself : (strKind P w).is k (.str k u) = true := is_str k u
  unfold setAddHashed setAddHashedIn
  refine wpAny_holding (wpAny_bind (wpAny_setState_of T.ob dd T.fit ?_))
  dsimp only
  rw [byScan_of rfl few T.el]
  simp only [↓reduceIte]
  unfold setAddByScan
  refine wpAny_bind (wpAny_bind (wpAny_rule (wpAny_bind (wpAny_setScan_of (knd := strKind P w) (k := k) iself T.ob dd T.fit T.el ?_))))
  obtain ⟨e, he, q⟩ := (ok.mem k).mp hk
  cases found : List.findIdx? (fun e => (strKind P w).is k e.2) es.toList with
  | none =>
    have bad := List.findIdx?_eq_none_iff.mp found e he
    rw [q] at bad
    exact absurd bad (by decide)
  | some j =>
    dsimp only
    exact wpAny_pure (wpAny_pure h)

def txKit (P : Program) (w : World) : SetKit P w Str Str where
  key := fun k => k
  Is := fun h S L => ∃ D, TxIs P w h S L D
  Elt := fun _ _ => True
  Rel := TxRel
  room := fun _ => True
  most := scanBound
  small := Nat.le_refl _
  move := fun ⟨D, T⟩ k => ⟨D, { T with ob := k _ T.ob }⟩
  new := fun {h S} e => ⟨(#[], 0, .fresh 0 0 (!w.params.followText "set-order")), {
    ob := e
    el := fun e he => by simp at he
    sh := .nil
    fit := rfl
    ris := List.Pairwise.nil
    led := by
      show _ ∨ (!w.params.followText "set-order") = true
      cases w.params.followText "set-order"
      · exact Or.inr rfl
      · exact Or.inl rfl
    lim := by decide }⟩
  step := by
    rintro A E s h0 S L x v Q _ ⟨D, T⟩ _ _ _ _ ⟨u, rfl⟩ lim fin
    unfold setAdd
    refine wpAny_holding (wpAny_bind ((strKind P w).pyHash (k := x) (is_str _ _) ?_))
    by_cases c : x ∈ L
    · refine txt_there (s := { s with toks := s.toks + 1 }) T c ?_
      exact fin false s.heap (s.toks + 1) L (Heap.SameBut.refl _ _) (Nat.le_succ _) ⟨D, T⟩ (fun _ => rfl) fun z => absurd (by rw [List.map_id']; exact c) z
    · refine add_x (s := { s with toks := s.toks + 1 }) T.ob T.ok c lim ?_
      obtain ⟨es, ep, t⟩ := D
      obtain ⟨z1, z2, z3⟩ := addTx_laid (es := es) (ep := ep) (t := t) (h := hashStr w x) (v := .str x u) T.ris
      have z4 := add_ok (k := x) u T.ok
      have z5 : ((addTx (hashStr w x) (.str x u) (es, ep, t)).1.toList.map (·.2)).Perm (.str x u :: es.toList.map (·.2)) := by
        refine (z3.map (·.2)).trans ?_
        rw [List.map_append]
        exact List.perm_append_comm
      obtain ⟨L', pL, sh⟩ := show_perm z5 (.cons ⟨u, rfl⟩ T.sh)
      refine fin true _ (s.toks + 1) L' (Heap.SameBut.update ..) (Nat.le_succ _) ⟨_, ⟨get_upd _ T.ob rfl, z4.el, sh, z4.fit, z1, ?_, ?_⟩⟩ (fun z => absurd (by rw [List.map_id'] at z; exact z) c) fun _ => pL
      · rw [z2]
        exact T.led
      · rw [pL.length_eq]
        exact lim
  open_ := fun ⟨D, T⟩ => ⟨D.1, D.2.1, D.2.2, ⟨_, T.ob, rfl, rfl⟩, T.fit, by rw [T.size]; exact T.lim, T.ris, T.led, T.sh⟩
end
end XSt

/-! the kit of sets of tuples of whole numbers and texts: the questions and the search -/
namespace XSt
open PySem PySem.Spec PyProof.Rows L2 PySem.W

section
variable {P : Program} {w : World} {A : Around} {E : Value → Shared → Prop} {s : Shared}

abbrev Tup (P : Program) (w : World) (h : Heap) (k : List Key) (b : Addr) : Prop := IsTupleKey (mixKind P w) h k b
abbrev tHash (P : Program) (w : World) (k : List Key) : Int := tupleKeyHash (mixKind P w) k

theorem Tup.sub {h h' : Heap} {k : List Key} {b : Addr} (x : Tup P w h k b) (q : Sub h h') : Tup P w h' k b := by
  obtain ⟨o, its, n, e, r⟩ := x
  exact ⟨o, its, n, q b o e, r⟩

/-- a whole number or a text -/
def Plainly (v : Value) : Prop := (∃ i t, v = .int i t) ∨ ∃ x t, v = .str x t
theorem plainly_of {k : List Key} {vs : List Value} (x : ItemsAre (mixKind P w) k vs) : ∀ v ∈ vs, Plainly v := by
  induction x with
  | nil => intro v z; cases z
  | cons q _ ih =>
    intro v z
    rcases List.mem_cons.mp z with rfl | z
    · rcases keyIs_shape q with ⟨i, t, _, e⟩ | ⟨y, t, _, e⟩
      · exact Or.inl ⟨i, t, e⟩
      · exact Or.inr ⟨y, t, e⟩
    · exact ih v z
theorem Plainly.cls {v : Value} (x : Plainly v) (n : Nat) : ofAClassStatement n v = pure false := by
  rcases x with ⟨i, t, rfl⟩ | ⟨y, t, rfl⟩ <;> cases n <;> rfl
theorem Plainly.scan {v : Value} (x : Plainly v) : v.scannable = true := by
  rcases x with ⟨i, t, rfl⟩ | ⟨y, t, rfl⟩ <;> rfl

theorem no_class {k : List Key} {b : Addr} {Q : Bool → Shared → Prop} (x : Tup P w s.heap k b) (fin : Q false s) : wpAny (model P w) A (ofAClassStatement 8 (.ref b)) Q E s := by
  have ty := x.typeIs
  obtain ⟨o, its, n, at_, _, da, all⟩ := x
  unfold ofAClassStatement
  refine wpAny_bind (wpAny_typeOf ty ?_)
  dsimp only
  simp only [show (("tuple" : String) == "tuple") = true from by decide, if_true, Bool.not_true, Bool.false_eq_true, if_false]
  try refine wpAny_bind (wpAny_pure ?_)
  try simp only [Bool.not_true, Bool.false_eq_true, if_false]
  show wpAny _ _ (seqItems? (.ref b) >>= _) _ _ s
  refine wpAny_bind (wpAny_seqItems at_ da ?_)
  dsimp only
  refine wpAny_bind ?_
  show wpAny _ _ (forIn its _ _) _ _ s
  rw [← Array.forIn_toList]
  refine wpAny_forIn_list _ (fun left r q => (r.1 = none ∧ q = s) ∧ ∀ v ∈ left, Plainly v) _ ?_ ?_ _ _ ⟨⟨rfl, rfl⟩, plainly_of all⟩
  · rintro v left r q ⟨⟨e1, rfl⟩, good⟩
    rw [(good v (List.mem_cons_self ..)).cls]
    refine wpAny_bind (wpAny_pure ?_)
    simp only [Bool.false_eq_true, if_false]
    exact wpAny_pure ⟨⟨rfl, rfl⟩, fun u z => good u (List.mem_cons_of_mem _ z)⟩
  · rintro ⟨r1, r2⟩ q ⟨⟨e1, rfl⟩, _⟩
    obtain rfl : r1 = none := e1
    exact wpAny_pure fin

theorem by_value {k : List Key} {b : Addr} {Q : Bool → Shared → Prop} (x : Tup P w s.heap k b) (fin : ∀ c, Q c s) : wpAny (model P w) A (hashByValue 8 (.ref b)) Q E s := by
  have ty := x.typeIs
  obtain ⟨o, its, n, at_, _, da, all⟩ := x
  unfold hashByValue
  refine wpAny_bind (wpAny_specialOf ty F.slot_tuple_hash.lookup ?_)
  show wpAny _ _ (seqItems? (.ref b) >>= _) _ _ s
  refine wpAny_bind (wpAny_seqItems at_ da ?_)
  refine wpAny_bind ?_
  show wpAny _ _ (forIn its _ _) _ _ s
  rw [← Array.forIn_toList]
  refine wpAny_forIn_list _ (fun left r q => (r.1 = none ∧ q = s) ∧ ∀ v ∈ left, Plainly v) _ ?_ ?_ _ _ ⟨⟨rfl, rfl⟩, plainly_of all⟩
  · rintro v left r q ⟨⟨e1, rfl⟩, good⟩
    rw [hashByValue_scannable _ (good v (List.mem_cons_self ..)).scan]
    refine wpAny_bind (wpAny_pure ?_)
    cases plainKind v with
    | true =>
      simp only [Bool.not_true, Bool.false_eq_true, if_false]
      exact wpAny_pure ⟨⟨rfl, rfl⟩, fun u z => good u (List.mem_cons_of_mem _ z)⟩
    | false =>
      simp only [Bool.not_false, if_true]
      exact wpAny_pure (wpAny_pure (fin false))
  · rintro ⟨r1, r2⟩ q ⟨⟨e1, rfl⟩, _⟩
    obtain rfl : r1 = none := e1
    exact wpAny_pure (fin true)

theorem unseen {k : List Key} {b : Addr} {Q : Bool → Shared → Prop} (x : Tup P w s.heap k b) {ys : List Value} (all : ∀ y ∈ ys, ∃ k' c, y = Value.ref c ∧ Tup P w s.heap k' c) (fin : Q false s) :
    wpAny (model P w) A (searchCouldBeSeen (.ref b) ys) Q E s := by
  unfold searchCouldBeSeen
  refine wpAny_bind (wpAny_forIn_list _ (fun left r q => (r.1 = none ∧ q = s) ∧ ∀ y ∈ left, ∃ k' c, y = Value.ref c ∧ Tup P w s.heap k' c) _ ?_ ?_ _ _ ⟨⟨rfl, rfl⟩, all⟩)
  · rintro v left r q ⟨⟨e1, rfl⟩, good⟩
    obtain ⟨k', c, rfl, tc⟩ := good v (List.mem_cons_self ..)
    have tl := fun u (z : u ∈ left) => good u (List.mem_cons_of_mem _ z)
    dsimp only
    by_cases same : (b == c || (carriedByValue (.ref b) && carriedByValue (.ref c))) = true
    · exact wp_if_pos same (wpAny_pure ⟨⟨rfl, rfl⟩, tl⟩)
    · refine wp_if_neg same (wpAny_bind (wpAny_eqIsQuiet_tuple x ?_))
      simp only [Bool.not_true, Bool.false_eq_true, if_false]
      refine wpAny_bind (wpAny_eqIsQuiet_tuple tc ?_)
      simp only [Bool.not_true, Bool.false_eq_true, if_false]
      refine wpAny_bind (no_class x ?_)
      simp only [Bool.false_eq_true, if_false]
      refine wpAny_bind (no_class tc ?_)
      simp only [Bool.false_eq_true, if_false]
      exact wpAny_pure ⟨⟨rfl, rfl⟩, tl⟩
  · rintro ⟨r1, r2⟩ q ⟨⟨e1, rfl⟩, _⟩
    obtain rfl : r1 = none := e1
    exact wpAny_pure fin

/-! the set -/
variable {κ : Type} (f : κ → List Key)
def lined (P : Program) (w : World) (L : List (Addr × κ)) : List (Int × Value) := L.map fun p => (tHash P w (f p.2), Value.ref p.1)
def hashes (P : Program) (w : World) (L : List (Addr × κ)) : List Int := L.map fun p => tHash P w (f p.2)

structure TuIs (P : Program) (w : World) (h : Heap) (S : Addr) (L : List (Addr × κ)) (es : Array (Int × Value)) (ep : Nat) (t : SetTable) : Prop where
  ob : ∃ o, h.get? S = some o ∧ o.ExactSet ∧ o.data = .set es ep t
  line : es.toList = lined f P w L
  tab : TabOk t (hashes f P w L)
  led : w.params.followText "set-order" = true ∨ t.led = true
  room : L.length * 5 < t.mask * 3
  lim : L.length < 64

variable {f} {S : Addr} {L : List (Addr × κ)} {es : Array (Int × Value)} {ep : Nat} {t : SetTable} {h : Heap}
theorem TuIs.len (T : TuIs f P w h S L es ep t) : es.size = L.length := by
  have q := congrArg List.length T.line
  rw [Array.length_toList, lined, List.length_map] at q
  exact q
theorem TuIs.places (T : TuIs f P w h S L es ep t) : t.place.size = L.length := by
  have q := T.tab.sz
  rw [hashes, List.length_map] at q
  exact q
theorem fits_by {t : SetTable} {n : Nat} (a : t.place.size = n) (b : t.dummies = #[]) (c : n ≤ t.mask) : t.fits n = true := by
  unfold SetTable.fits SetTable.fill
  rw [b, Bool.and_eq_true, beq_iff_eq, decide_eq_true_eq]
  refine ⟨a, ?_⟩
  show t.place.size + 0 ≤ t.mask
  omega
theorem TuIs.fit (T : TuIs f P w h S L es ep t) : t.fits es.size = true := by
  rw [T.len]
  refine fits_by T.places T.tab.dm ?_
  have := T.room
  omega
theorem TuIs.entry (T : TuIs f P w h S L es ep t) {i : Nat} {p : Addr × κ} (e : L[i]? = some p) : es[i]? = some (tHash P w (f p.2), Value.ref p.1) := by
  rw [← Array.getElem?_toList, T.line, lined, List.getElem?_map, e]
  rfl
end
end XSt

/-! the search among tuples -/
namespace XSt
open PySem PySem.Spec PyProof.Rows L2 PySem.W

section
variable {P : Program} {w : World} {A : Around} {E : Value → Shared → Prop} {s : Shared} {κ : Type} {f : κ → List Key} {S : Addr} {L : List (Addr × κ)} {es : Array (Int × Value)} {ep : Nat} {t : SetTable} {h : Heap}

/-- the c-th place that a search of the hash g stands at -/
abbrev stand (m : Nat) (g : Int) (c : Nat) : SetTable.Probe := nth m (runAt m (SetTable.bits g % (m + 1)) (SetTable.bits g)) c
theorem stand_plain (m : Nat) (g : Int) : ∀ c, (stand m g c).dummy = none := by
  have all : ∀ (c : Nat) (p : SetTable.Probe), p.dummy = none → (nth m p c).dummy = none := by
    intro c
    induction c with
    | zero => exact fun _ e => e
    | succ c ih =>
      intro p e
      apply ih (adv m p)
      unfold adv
      split <;> exact e
  exact fun c => all c _ rfl
theorem stand_on (m : Nat) (g : Int) (c q : Nat) : nth m (stand m g c) q = stand m g (c + q) := (nth_add m c _ q).symm

theorem seek (T : TuIs f P w s.heap S L es ep t) (here : ∀ p ∈ L, Tup P w s.heap (f p.2) p.1) {x : Addr} {k : κ} (tx : Tup P w s.heap (f k) x) (hu : A.units < cLine) {g : Int} (hg : tHash P w (f k) = g) {K : Nat}
    (kf : K < 10 * SetTable.turns t.mask) (free : (stand t.mask g K).j ∉ t.place.toList) (full : ∀ c, c < K → (stand t.mask g c).j ∈ t.place.toList) {Q : SetFound → Shared → Prop}
    (found : (∃ p ∈ L, f p.2 = f k) → Q (.there none) s) (miss : (∀ p ∈ L, f p.2 ≠ f k) → Q (.free (stand t.mask g K).j false) s) :
    ∀ (fuel c : Nat) (st : Option SetTable.Probe), st.getD (t.probeStart g) = stand t.mask g c → c ≤ K → K < c + fuel →
      (∀ (i : Nat) p, L[i]? = some p → f p.2 = f k → ∃ d, c ≤ d ∧ d < K ∧ t.place.toList[i]? = some (stand t.mask g d).j) →
      wpAny (model P w) A (setSearchFrom S (.ref x) g true fuel st) Q E s := by
  intro fuel
  induction fuel with
  | zero =>
    intro c st _ a b
    exact absurd b (by omega)
  | succ fuel ih =>
    intro c st start ck room ahead
    obtain ⟨o, ho, ex, dat⟩ := T.ob
    rw [setSearchFrom_succ]
    refine wpAny_bind (wpAny_setState_of ho dat T.fit ?_)
    dsimp only
    have even : ¬ t.gaveWay = true := by
      unfold SetTable.gaveWay
      rw [mask_odd T.tab.mok]
      decide
    refine wp_if_neg even ?_
    try refine wpAny_bind (wpAny_pure ?_)
    have hashOf : ∀ (i : Nat) p, L[i]? = some p → (es[i]?.map (·.1)).getD 0 = tHash P w (f p.2) := fun i p e => by
      rw [T.entry e]
      rfl
    have told := go_spec t T.tab.ris T.tab.dm (fun i => (es[i]?.map (·.1)).getD 0) g (10 * SetTable.turns t.mask) (K - c) (stand t.mask g c) (stand_plain _ _ _) (by omega)
      (fun q z => by rw [stand_on]; exact full _ (by omega)) (by rw [stand_on, show c + (K - c) = K from by omega]; exact free)
    have begin_ : t.probe (fun i => (es[i]?.map (·.1)).getD 0) g (st.getD (t.probeStart g)) = SetTable.probe.go t (fun i => (es[i]?.map (·.1)).getD 0) g (10 * SetTable.turns t.mask) (stand t.mask g c) := by
      rw [start]
      rfl
    rw [begin_]
    simp only [stand_on] at told
    rw [show c + (K - c) = K from by omega] at told
    rcases told with ⟨q, i, qk, at_, same, before, ans⟩ | ⟨before, ans⟩
    · rw [ans]
      dsimp only
      have il : i < L.length := by
        have z := (List.getElem?_eq_some_iff.mp at_).1
        rw [Array.length_toList, T.places] at z
        exact z
      obtain ⟨p, hp⟩ : ∃ p, L[i]? = some p := ⟨_, List.getElem?_eq_getElem il⟩
      have mp : p ∈ L := List.mem_of_getElem? hp
      have rest : wpAny (model P w) A (searchRest S (.ref x) g true fuel es t (stand t.mask g (c + q)).j i (stand t.mask g (c + (q + 1)))) Q E s := by
        unfold searchRest
        rw [T.entry hp]
        dsimp only
        refine wpAny_bind (wpAny_holding (wpAny_eqBool_tuple hu (here p mp) tx ?_))
        refine wpAny_bind (wpAny_setState_of ho dat T.fit ?_)
        dsimp only
        by_cases eq : f p.2 = f k
        · exact wp_if_pos (by simp [eq]) (wpAny_pure (found ⟨p, mp, eq⟩))
        · refine wp_if_neg (by simp [eq]) ?_
          try refine wpAny_bind (wpAny_pure ?_)
          rw [sameMem]
          dsimp only
          have live : t.slot (stand t.mask g (c + q)).j = .live i := slot_live T.tab.ris at_
          simp only [if_true, live, T.entry hp]
          refine wpAny_bind (wpAny_isSame_ref_self (wpAny_bind (wpAny_pure ?_)))
          simp only [if_true]
          refine wp_if_neg (by simp [eq]) (ih (c + (q + 1)) _ rfl (by omega) (by omega) fun i' p' e' k' => ?_)
          obtain ⟨d, d1, d2, d3⟩ := ahead i' p' e' k'
          refine ⟨d, ?_, d2, d3⟩
          -- the place of an equal one lies further on: it is neither passed nor this one
          apply Decidable.byContradiction
          intro bad
          by_cases lt : d < c + q
          · refine before (d - c) i' (by omega) (by rw [show c + (d - c) = d from by omega]; exact d3) ?_
            rw [← hg, ← k']
            exact hashOf i' p' e'
          · obtain rfl : d = c + q := by omega
            have z := slot_live T.tab.ris d3
            rw [live] at z
            injection z with z
            rw [← z, hp] at e'
            injection e' with e'
            rw [e'] at eq
            exact eq k'
      by_cases led : t.led = true
      · refine wp_if_neg (by simp [led]) ?_
        try refine wpAny_bind (wpAny_pure ?_)
        exact rest
      · refine wp_if_pos (by simp [led]) (wpAny_bind (unseen tx (fun y hy => ?_) ?_))
        · obtain ⟨e, he, rfl⟩ := List.mem_map.mp hy
          have he' : e ∈ es.toList := (by simpa using he : e ∈ es ∧ e.1 = g).1 |> fun z => by simpa using z
          rw [T.line, lined] at he'
          obtain ⟨p', m', rfl⟩ := List.mem_map.mp he'
          exact ⟨_, p'.1, rfl, here p' m'⟩
        · refine wp_if_neg (by decide) ?_
          try refine wpAny_bind (wpAny_pure ?_)
          exact rest
    · rw [ans]
      dsimp only
      refine wpAny_pure (miss fun p m eq => ?_)
      obtain ⟨i, il, rfl⟩ := List.getElem_of_mem m
      have e : L[i]? = some L[i] := List.getElem?_eq_getElem il
      obtain ⟨d, d1, d2, d3⟩ := ahead i _ e eq
      refine before (d - c) i (by omega) (by rw [show c + (d - c) = d from by omega]; exact d3) ?_
      rw [← hg, ← eq]
      exact hashOf i _ e

theorem seek_all (T : TuIs f P w s.heap S L es ep t) (here : ∀ p ∈ L, Tup P w s.heap (f p.2) p.1) {x : Addr} {k : κ} (tx : Tup P w s.heap (f k) x) (hu : A.units < cLine) {Q : SetFound → Shared → Prop}
    (found : (∃ p ∈ L, f p.2 = f k) → Q (.there none) s)
    (miss : ∀ K, (∀ p ∈ L, f p.2 ≠ f k) → way t.mask (tHash P w (f k)) K ∉ t.place.toList → (∀ c, c < K → way t.mask (tHash P w (f k)) c ∈ t.place.toList) → Q (.free (way t.mask (tHash P w (f k)) K) false) s) :
    wpAny (model P w) A (setSearch S (.ref x) (tHash P w (f k)) true) Q E s := by
  have hl : (hashes f P w L).length = L.length := by rw [hashes, List.length_map]
  obtain ⟨K, k1, k2, k3⟩ := T.tab.first (by have := T.room; omega) (tHash P w (f k))
  have big : K < 100000 := by
    have z : 10 * SetTable.turns t.mask ≤ 2000 := by
      unfold SetTable.turns
      rcases T.tab.mok with e | e | e <;> omega
    omega
  unfold setSearch
  refine seek T here tx hu rfl k1 k2 k3 found (fun n => miss K n k2 k3) 100000 0 none rfl (Nat.zero_le _) (by omega) fun i p e eq => ?_
  have e2 : (hashes f P w L)[i]? = some (tHash P w (f k)) := by
    rw [hashes, List.getElem?_map, e, ← eq]
    rfl
  have il : i < t.place.toList.length := by
    rw [Array.length_toList, T.places]
    exact (List.getElem?_eq_some_iff.mp e).1
  have e3 := List.getElem?_eq_getElem il
  obtain ⟨d, d1, d2⟩ := T.tab.before k2 e2 e3
  exact ⟨d, Nat.zero_le _, d1, by rw [e3]; exact congrArg some d2.symm⟩
end
end XSt

/-! a tuple put into the set; the kit -/
namespace XSt
open PySem PySem.Spec PyProof.Rows L2 PySem.W

section
variable {P : Program} {w : World} {A : Around} {E : Value → Shared → Prop} {s : Shared} {κ : Type} {f : κ → List Key} {S : Addr} {L : List (Addr × κ)} {es : Array (Int × Value)} {ep : Nat} {t : SetTable} {h : Heap}

theorem shuffled (line : es.toList = lined f P w L) {order : Array Nat} (pm : order.toList.Perm (List.range L.length)) :
    ∃ L2, (order.filterMap (es[·]?)).toList = lined f P w L2 ∧ L2.Perm L ∧ hashes f P w L2 = order.toList.map fun i => (es.map (·.1)).getD i 0 := by
  have ent : ∀ i : Nat, es[i]? = (L[i]?).map fun p => (tHash P w (f p.2), Value.ref p.1) := fun i => by
    rw [← Array.getElem?_toList, line, lined, List.getElem?_map]
  refine ⟨order.toList.filterMap (fun i => L[i]?), ?_, ?_, ?_⟩
  · rw [Array.toList_filterMap, lined, List.map_filterMap]
    exact congrArg (fun z => List.filterMap z order.toList) (funext ent)
  · have z := pm.filterMap (fun i => L[i]?)
    rw [List.filterMap_getElem?_range_length] at z
    exact z
  · have all : ∀ l : List Nat, (∀ i ∈ l, i < L.length) → hashes f P w (l.filterMap fun i => L[i]?) = l.map fun i => (es.map (·.1)).getD i 0 := by
      intro l
      induction l with
      | nil => intro _; rfl
      | cons i l ih =>
        intro k
        have il := k i (List.mem_cons_self ..)
        have e := List.getElem?_eq_getElem il
        have e2 : (es.map (·.1)).getD i 0 = tHash P w (f (L[i]).2) := by
          rw [Array.getD_eq_getD_getElem?, Array.getElem?_map, ent i, e]
          rfl
        rw [List.filterMap_cons_some e, List.map_cons, ← ih fun j z => k j (List.mem_cons_of_mem _ z), e2]
        rfl
    exact all _ fun i z => List.mem_range.mp (pm.mem_iff.mp z)

theorem relaid_in {o : Obj} (ho : s.heap.get? S = some o) (ex : o.ExactSet) (dat : o.data = .set es ep t) (line : es.toList = lined f P w L) (pl : t.place.size = L.length) (dm : t.dummies = #[]) (ml : L.length ≤ t.mask)
    (led : w.params.followText "set-order" = true ∨ t.led = true) (lim : L.length < 64) {wanted M : Nat} (size : SetTable.sizeAbove wanted - 1 = M) (ok : MaskOk M) (size2 : SetTable.sizeAbove wanted ≤ 128) (room : L.length * 5 < M * 3)
    {Q : Unit → Shared → Prop} (fin : ∀ h' L' es' ep' t', Heap.SameBut S s.heap h' → TuIs f P w h' S L' es' ep' t' → L'.Perm L → Q () { s with heap := h' }) : wpAny (model P w) A (setRelay S wanted) Q E s := by
  have len : es.size = L.length := by
    have q := congrArg List.length line
    rw [Array.length_toList, lined, List.length_map] at q
    exact q
  have len2 : (es.map (·.1)).size = L.length := by rw [Array.size_map, len]
  have fit : t.fits es.size = true := by
    rw [len]
    exact fits_by pl dm ml
  obtain ⟨t', order, e, pm, tab, e1, e2, e3, e4⟩ := relaid_ok t (hs := es.map (·.1)) (wanted := wanted) size ok (by omega)
  rw [len2] at pm
  obtain ⟨L2, l1, l2, l3⟩ := shuffled (f := f) (P := P) (w := w) line pm
  rw [← l3] at tab
  have len3 : (order.filterMap (es[·]?)).size = L.length := by
    have q := congrArg List.length l1
    rw [Array.length_toList, lined, List.length_map, l2.length_eq] at q
    exact q
  have sl : (64 : Nat) ≤ sizeLine := by rw [sizeLine_eq]; decide
  rw [setRelay_eq]
  refine wpAny_bind (wpAny_setState_of ho dat fit ?_)
  dsimp only
  refine wp_if_neg (by rw [sizeLine_eq]; omega) ?_
  try refine wpAny_bind (wpAny_pure ?_)
  rw [e]
  dsimp only
  refine wpAny_bind (wp_if_neg (by rw [len3, len]; simp) ?_)
  try refine wpAny_bind (wpAny_pure ?_)
  refine wpAny_pure ?_
  dsimp only
  refine wpAny_storeSet_of ho dat (fin _ L2 _ (ep + 1) t' (Heap.SameBut.update ..) ⟨⟨_, store_at ho dat, ex, rfl⟩, l1, tab, by rw [e2]; exact led, ?_, by rw [l2.length_eq]; exact lim⟩ l2) (by omega)
  rw [l2.length_eq, e1]
  exact room

theorem put_in (T : TuIs f P w s.heap S L es ep t) (here : ∀ p ∈ L, Tup P w s.heap (f p.2) p.1) {x : Addr} {k : κ} (tx : Tup P w s.heap (f k) x) (hu : A.units < cLine) (lim : L.length + 1 < 64) {Q : Bool → Shared → Prop}
    (fin : ∀ b h' L' es' ep' t', Heap.SameBut S s.heap h' → TuIs f P w h' S L' es' ep' t' → ((∃ p ∈ L, f p.2 = f k) → L' = L) → ((∀ p ∈ L, f p.2 ≠ f k) → L'.Perm ((x, k) :: L)) → Q b { s with heap := h' }) :
    wpAny (model P w) A (setAddHashed S (.ref x) (tHash P w (f k))) Q E s := by
  obtain ⟨o, ho, ex, dat⟩ := T.ob
  have room := T.room
  have sl : (64 : Nat) ≤ sizeLine := by rw [sizeLine_eq]; decide
  unfold setAddHashed
  refine wpAny_holding ?_
  rw [show (100000 : Nat) = 99999 + 1 from rfl, setAddHashedIn_succ]
  refine wpAny_bind (wpAny_setState_of ho dat T.fit ?_)
  dsimp only
  refine wp_if_neg (by simp [byScan, Value.scannable]) ?_
  try refine wpAny_bind (wpAny_pure ?_)
  refine wpAny_bind (seek_all T here tx hu (fun old => ?_) fun K new k2 k3 => ?_)
  · dsimp only
    refine wpAny_pure (fin false s.heap L es ep t (Heap.SameBut.refl _ _) T (fun _ => rfl) fun z => ?_)
    obtain ⟨p, m, e⟩ := old
    exact absurd e (z p m)
  · dsimp only
    refine wpAny_bind (wpAny_setState_of ho dat T.fit ?_)
    dsimp only
    obtain ⟨b1, b2, b3, b4, b5, b6, b7, b8, b9⟩ := T.tab.put k2 k3
    generalize t.put (way t.mask (tHash P w (f k)) K) = pt at b1 b3 b4 b5 b6 b7 b8 b9 ⊢
    obtain ⟨t1, at_⟩ := pt
    dsimp only at b1 b3 b4 b5 b6 b7 b8 b9 ⊢
    rw [← b1] at b2 b3
    have grown : (SetTable.insertAt es at_ (tHash P w (f k), Value.ref x)).toList = lined f P w (L.take at_ ++ (x, k) :: L.drop at_) := by
      rw [SetTable.toList_insertAt, T.line]
      simp only [lined, List.map_append, List.map_cons, List.map_take, List.map_drop]
    have hs1 : hashes f P w (L.take at_ ++ (x, k) :: L.drop at_) = (hashes f P w L).take at_ ++ tHash P w (f k) :: (hashes f P w L).drop at_ := by
      simp only [hashes, List.map_append, List.map_cons, List.map_take, List.map_drop]
    have pm : (L.take at_ ++ (x, k) :: L.drop at_).Perm ((x, k) :: L) := by
      have z : (L.take at_ ++ (x, k) :: L.drop at_).Perm ((x, k) :: (L.take at_ ++ L.drop at_)) := List.perm_middle
      rw [List.take_append_drop] at z
      exact z
    rw [← hs1] at b3
    have hl : (hashes f P w L).length = L.length := by rw [hashes, List.length_map]
    rw [hl] at b9
    have inner : ∀ t2 : SetTable, t2.place = t1.place → t2.dummies = t1.dummies → t2.mask = t1.mask → t2.led = t1.led →
        wpAny (model P w) A (do
          storeSet S (SetTable.insertAt es at_ (tHash P w (f k), Value.ref x)) t2
          if !false && t2.tooFull then setRelay S (SetTable.grown (es.size + 1))
          return true) Q E s := fun t2 c1 c2 c3 c4 => by
      have tab2 : TabOk t2 (hashes f P w (L.take at_ ++ (x, k) :: L.drop at_)) := by
        obtain ⟨d1, d2, d3, d4, d5, d6⟩ := b3
        exact ⟨by rw [c1]; exact d1, by rw [c2]; exact d2, by rw [c1]; exact d3, by rw [c3]; exact d4, by rw [c1, c3]; exact d5, by rw [c1, c3]; exact d6⟩
      have fill2 : t2.fill = L.length + 1 := by
        rw [← b9]
        show t2.place.size + t2.dummies.size = t1.place.size + t1.dummies.size
        rw [c1, c2]
      have mask2 : t2.mask = t.mask := c3.trans b4
      generalize L.take at_ ++ (x, k) :: L.drop at_ = L1 at grown hs1 pm b3 tab2
      generalize SetTable.insertAt es at_ (tHash P w (f k), Value.ref x) = es1 at grown ⊢
      have n1 : L1.length = L.length + 1 := pm.length_eq
      have n2 : es1.size = L.length + 1 := by
        have q := congrArg List.length grown
        rw [Array.length_toList, lined, List.length_map, n1] at q
        exact q
      refine wpAny_bind (wpAny_storeSet_of ho dat ?_ (by omega))
      have led2 : w.params.followText "set-order" = true ∨ t2.led = true := by
        rw [c4, b5]
        exact T.led
      have sb : Heap.SameBut S s.heap (s.heap.update S (Obj.putSet es1 t2)) := Heap.SameBut.update ..
      have ho1 := store_at (es' := es1) (t' := t2) ho dat
      by_cases full : t2.tooFull = true
      · have f1 := full
        unfold SetTable.tooFull at f1
        rw [decide_eq_true_eq, fill2, mask2] at f1
        have two : (t.mask = 7 ∧ L.length = 4) ∨ (t.mask = 31 ∧ L.length = 18) := by
          rcases T.tab.mok with e | e | e
          · exact Or.inl ⟨e, by omega⟩
          · exact Or.inr ⟨e, by omega⟩
          · omega
        have pl2 : t2.place.size = L1.length := by
          have q := tab2.sz
          rw [hashes, List.length_map] at q
          exact q
        have go : ∀ M, SetTable.sizeAbove (SetTable.grown (es.size + 1)) - 1 = M → MaskOk M → SetTable.sizeAbove (SetTable.grown (es.size + 1)) ≤ 128 → L1.length * 5 < M * 3 →
            wpAny (model P w) A (setRelay S (SetTable.grown (es.size + 1))) (fun _ q => wpAny (model P w) A (pure true) Q E q) E { s with heap := s.heap.update S (Obj.putSet es1 t2) } := fun M m1 m2 m3 m4 => by
          refine relaid_in (s := { s with heap := s.heap.update S (Obj.putSet es1 t2) }) ho1 ex rfl grown pl2 tab2.dm (by rw [n1, mask2]; omega) led2 (by omega) m1 m2 m3 m4 fun h2 L2 es2 ep2 u2 sb2 T2 pm2 => ?_
          refine wpAny_pure (fin true h2 L2 es2 ep2 u2 (sb.trans sb2) T2 (fun z => ?_) fun _ => pm2.trans pm)
          obtain ⟨p, m, e⟩ := z
          exact absurd e (new p m)
        refine wp_if_pos (by simp [full]) (wpAny_bind ?_)
        rw [T.len] at go ⊢
        rcases two with ⟨_, e⟩ | ⟨_, e⟩
        · rw [e] at go ⊢
          exact go 31 (by rw [size_20]) (Or.inr (Or.inl rfl)) (by rw [size_20]; decide) (by omega)
        · rw [e] at go ⊢
          exact go 127 (by rw [size_76]) (Or.inr (Or.inr rfl)) (by rw [size_76]; decide) (by omega)
      · have f1 := full
        unfold SetTable.tooFull at f1
        rw [decide_eq_true_eq, fill2] at f1
        refine wp_if_neg (by simp [full]) ?_
        try refine wpAny_bind (wpAny_pure ?_)
        refine wpAny_pure (fin true _ L1 es1 (ep + 1) t2 sb ⟨⟨_, ho1, ex, rfl⟩, grown, tab2, led2, by omega, by omega⟩ (fun z => ?_) fun _ => pm)
        obtain ⟨p, m, e⟩ := z
        exact absurd e (new p m)
    have tail : ∀ c : Bool, wpAny (model P w) A (do
          storeSet S (SetTable.insertAt es at_ (tHash P w (f k), Value.ref x)) (if c = true then t1 else { t1 with plain := false })
          if !false && (if c = true then t1 else { t1 with plain := false }).tooFull then setRelay S (SetTable.grown (es.size + 1))
          return true) Q E s := fun c => by
      cases c with
      | true => exact inner t1 rfl rfl rfl rfl
      | false => exact inner { t1 with plain := false } rfl rfl rfl rfl
    by_cases pln : t1.plain = true
    · first
        | exact wp_if_pos pln (wpAny_bind (by_value tx tail))
        | exact wpAny_bind (wp_if_pos pln (by_value tx tail))
    · first
        | exact wp_if_neg pln (wpAny_bind (wpAny_pure (tail true)))
        | exact wpAny_bind (wp_if_neg pln (wpAny_pure (tail true)))
end
end XSt

/-! the kit of sets of tuples -/
namespace XSt
open PySem PySem.Spec PyProof.Rows L2 PySem.W

theorem show_map {ι : Type} {Rel : ι → Value → Prop} (g : ι → Value) (k : ∀ x, Rel x (g x)) : ∀ xs : List ι, Show Rel xs (xs.map g)
  | [] => .nil
  | x :: xs => .cons (k x) (show_map g k xs)

def tuKit (P : Program) (w : World) {κ : Type} (f : κ → List Key) (inj : ∀ a b, f a = f b → a = b) : SetKit P w (Addr × κ) κ where
  key := fun p => p.2
  Is := fun h S L => ∃ es ep t, TuIs f P w h S L es ep t
  Elt := fun h p => Tup P w h (f p.2) p.1
  Rel := fun p v => v = .ref p.1
  room := fun A => A.units < cLine
  most := 64
  small := by decide
  move := fun ⟨es, ep, t, T⟩ k => ⟨es, ep, t, { T with ob := let ⟨o, ho, r⟩ := T.ob; ⟨o, k o ho, r⟩ }⟩
  new := fun {h S} e => ⟨#[], 0, .fresh 0 0 (!w.params.followText "set-order"), {
    ob := ⟨_, e, ⟨rfl, rfl, rfl⟩, rfl⟩
    line := rfl
    tab := ⟨List.Pairwise.nil, rfl, rfl, Or.inl rfl, fun x hx => (by cases hx), fun i h j hi => (by simp [hashes] at hi)⟩
    led := by
      show _ ∨ (!w.params.followText "set-order") = true
      cases w.params.followText "set-order"
      · exact Or.inr rfl
      · exact Or.inl rfl
    room := by
      show 0 * 5 < 7 * 3
      decide
    lim := by
      show 0 < 64
      decide }⟩
  step := by
    rintro A E s h0 S L ⟨a, k⟩ v Q hu ⟨es, ep, t, T⟩ sub _ elts elt rfl lim fin
    have tx : Tup P w s.heap (f k) a := Tup.sub elt sub
    unfold setAdd
    refine wpAny_holding (wpAny_bind (wpAny_pyHash_tuple hu tx ?_))
    refine put_in (s := { s with toks := s.toks + ((f k).length + 1) }) T (fun p m => Tup.sub (elts p m) sub) tx hu lim fun b h' L' es' ep' t' sb T' c1 c2 => ?_
    refine fin b h' _ L' sb (Nat.le_add_right _ _) ⟨es', ep', t', T'⟩ (fun z => c1 ?_) fun z => c2 fun p m e => z ?_
    · obtain ⟨p, m, e⟩ := List.mem_map.mp z
      exact ⟨p, m, congrArg f e⟩
    · exact List.mem_map.mpr ⟨p, m, inj _ _ e⟩
  open_ := fun {h S L} ⟨es, ep, t, T⟩ => by
    obtain ⟨o, ho, ex, dat⟩ := T.ob
    refine ⟨es, ep, t, ⟨o, ho, ex.1, dat⟩, T.fit, ?_, T.tab.ris, T.led, ?_⟩
    · rw [T.len]
      exact Nat.lt_trans T.lim (by decide)
    · rw [T.line, lined, List.map_map]
      exact show_map (Rel := fun p v => v = Value.ref p.1) (fun p => Value.ref p.1) (fun _ => rfl) L
end XSt

/-! the orders; set(..) and sorted(..) of texts and of pairs, over the objects -/
namespace XSt
open PySem PySem.Spec PyProof.Rows L2 PySem.W

/-! lists without doubles -/
section
variable {α : Type} [DecidableEq α]
def once : List α → List α
  | [] => []
  | x :: l => if x ∈ l then once l else x :: once l
theorem mem_once {x : α} : ∀ {l : List α}, x ∈ once l ↔ x ∈ l
  | [] => Iff.rfl
  | y :: l => by
    unfold once
    split
    · rename_i c
      rw [mem_once, List.mem_cons]
      exact ⟨Or.inr, fun z => z.elim (fun e => e ▸ c) id⟩
    · rw [List.mem_cons, List.mem_cons, mem_once]
theorem nodup_once : ∀ l : List α, (once l).Nodup
  | [] => List.nodup_nil
  | y :: l => by
    unfold once
    split
    · exact nodup_once l
    · rename_i c
      exact List.nodup_cons.mpr ⟨fun z => c (mem_once.mp z), nodup_once l⟩
theorem once_len : ∀ l : List α, (once l).length ≤ l.length
  | [] => Nat.le_refl _
  | y :: l => by
    have := once_len l
    unfold once
    split <;> simp <;> omega
theorem perm_once {l m : List α} (nd : m.Nodup) (e : ∀ x, x ∈ m ↔ x ∈ l) : m.Perm (once l) :=
  (List.perm_ext_iff_of_nodup nd (nodup_once l)).mpr fun x => (e x).trans mem_once.symm
theorem once_same {l m : List α} (e : ∀ x, x ∈ m ↔ x ∈ l) : (once m).Perm (once l) := perm_once (nodup_once m) fun x => mem_once.trans (e x)
end

/-! one order for each -/
structure Ordly {α : Type} (le : α → α → Bool) : Prop where
  tr : ∀ a b c, le a b = true → le b c = true → le a c = true
  tot : ∀ a b, (le a b || le b a) = true
  anti : ∀ a b, le a b = true → le b a = true → a = b
theorem Ordly.one {α : Type} {le : α → α → Bool} (o : Ordly le) {l m : List α} (p : m.Perm l) (s : m.Pairwise (fun a b => le a b = true)) : m = l.mergeSort le :=
  List.Perm.eq_of_pairwise (fun a b _ _ x y => o.anti a b x y) s (List.pairwise_mergeSort o.tr o.tot l) (p.trans (List.mergeSort_perm l le).symm)
theorem Ordly.same {α : Type} {le : α → α → Bool} (o : Ordly le) {l m : List α} (p : m.Perm l) : m.mergeSort le = l.mergeSort le :=
  o.one ((List.mergeSort_perm m le).trans p) (List.pairwise_mergeSort o.tr o.tot m)

def sLe (a b : Str) : Bool := decide (a.cps.toList ≤ b.cps.toList)
theorem str_by {a b : Str} (e : a.cps.toList = b.cps.toList) : a = b := by
  obtain ⟨⟨a⟩⟩ := a
  obtain ⟨⟨b⟩⟩ := b
  have e' : a = b := e
  rw [e']
theorem sLe_ord : Ordly sLe where
  tr := fun a b c x y => decide_eq_true (List.le_trans (of_decide_eq_true x) (of_decide_eq_true y))
  tot := fun a b => by
    rcases List.le_total a.cps.toList b.cps.toList with z | z
    · exact Bool.or_eq_true_iff.mpr (Or.inl (decide_eq_true z))
    · exact Bool.or_eq_true_iff.mpr (Or.inr (decide_eq_true z))
  anti := fun a b x y => str_by (List.le_antisymm (of_decide_eq_true x) (of_decide_eq_true y))

def pLe (a b : Int × Str) : Bool := decide (a.1 < b.1) || (decide (a.1 = b.1) && sLe a.2 b.2)
theorem pLe_iff {a b : Int × Str} : pLe a b = true ↔ a.1 < b.1 ∨ (a.1 = b.1 ∧ sLe a.2 b.2 = true) := by
  unfold pLe
  rw [Bool.or_eq_true, Bool.and_eq_true, decide_eq_true_eq, decide_eq_true_eq]
theorem pLe_ord : Ordly pLe where
  tr := fun a b c x y => by
    rw [pLe_iff] at *
    rcases x with x | ⟨x, x'⟩ <;> rcases y with y | ⟨y, y'⟩
    · left; omega
    · left; omega
    · left; omega
    · exact Or.inr ⟨x.trans y, sLe_ord.tr _ _ _ x' y'⟩
  tot := fun a b => by
    rw [Bool.or_eq_true, pLe_iff, pLe_iff]
    rcases Int.lt_trichotomy a.1 b.1 with z | z | z
    · exact Or.inl (Or.inl z)
    · rcases Bool.or_eq_true_iff.mp (sLe_ord.tot a.2 b.2) with q | q
      · exact Or.inl (Or.inr ⟨z, q⟩)
      · exact Or.inr (Or.inr ⟨z.symm, q⟩)
    · exact Or.inr (Or.inl z)
  anti := fun a b x y => by
    rw [pLe_iff] at *
    obtain ⟨a1, a2⟩ := a
    obtain ⟨b1, b2⟩ := b
    rcases x with x | ⟨x, x'⟩ <;> rcases y with y | ⟨y, y'⟩ <;> simp only at *
    · omega
    · omega
    · omega
    · rw [x, sLe_ord.anti _ _ x' y']

theorem dataLe_tx : dataLe false (fun k : Str => PyData.str k) = sLe := by
  rw [dataLe_str]
  rfl
theorem dataLt_is (x x' : Int) (y y' : Str) : dataLt (.tuple [.int x, .str y]) (.tuple [.int x', .str y']) = decide (x < x' ∨ (x = x' ∧ y.cps.toList < y'.cps.toList)) := by
  rw [dataLt_pair (by simp [alike]) (by simp [alike]), dataLt_int, W.dataLt_str]
  simp only [PyData.eqv, beq_iff_eq]
  by_cases h1 : x = x' <;> by_cases h2 : y = y'
  · subst h1; subst h2; simp
  · simp [h1, h2]
  · simp [h1, h2]
  · simp [h1, h2]
theorem dataLe_pr : dataLe false (fun p : Addr × Int × Str => PyData.tuple [.int p.2.1, .str p.2.2]) = fun p q => pLe p.2 q.2 := by
  funext p q
  show (!dataLt (.tuple [.int q.2.1, .str q.2.2]) (.tuple [.int p.2.1, .str p.2.2])) = _
  rw [dataLt_is]
  unfold pLe sLe
  by_cases h1 : p.2.1 < q.2.1
  · have : ¬ q.2.1 < p.2.1 := by omega
    have : ¬ q.2.1 = p.2.1 := by omega
    simp [*]
  · by_cases h2 : p.2.1 = q.2.1
    · by_cases h3 : p.2.2.cps.toList ≤ q.2.2.cps.toList
      · simp [h1, h2, h3, List.not_lt.mpr h3]
      · have h4 : q.2.2.cps.toList < p.2.2.cps.toList := List.not_le.mp h3
        simp [h1, h2, h3, h4]
    · have : q.2.1 < p.2.1 := by omega
      simp [*]

/-! the objects -/
def SO {P : Program} {w : World} {ι κ : Type} (Kt : SetKit P w ι κ) (a : Addr) (L : List ι) : HO := .ext fun h => Kt.Is h a L
theorem so_new {P : Program} {w : World} {ι κ : Type} {Kt : SetKit P w ι κ} {H : Hp} {h : Heap} {a : Addr} {L : List ι} (is : Kt.Is h a L) : ObjOk P w H h a (SO Kt a L) := by
  obtain ⟨es, ep, t, ⟨o, ho, _⟩, _⟩ := Kt.open_ is
  exact ⟨is, ⟨o, ho⟩, fun h1 h2 p k => Kt.move p k⟩

def prKit (P : Program) (w : World) : SetKit P w (Addr × Int × Str) (Int × Str) :=
  tuKit P w (fun k => [Sum.inl k.1, Sum.inr k.2]) fun a b e => by
    injection e with e1 e2
    injection e1 with e1
    injection e2 with e2 _
    injection e2 with e2
    exact Prod.ext e1 e2

/-- the signs of a text, each a text -/
def signs (x : Str) : List Str := x.cps.toList.map fun c => ⟨#[c]⟩
/-- what is walked: the signs of a text, the items of a tuple or list -/
def Feeds (K : PySem.W.Frag) (H : Hp) (v : V) (xs : List Str) : Prop := (∃ x, v = .str x ∧ xs = signs x) ∨ ∃ l, v = .ref l ∧ (SqT K H l (xs.map V.str) ∨ SqL K H l (xs.map V.str))
theorem show_txt : ∀ {xs : List Str} {us : List Value}, Vals (xs.map V.str) us → Show TxRel xs us
  | [], _, .nil => .nil
  | _ :: _, _, .cons r t => .cons r (show_txt t)

section
variable {X : Cx}
def rSetS (K : PySem.W.Frag) (P : Program) (w : World) : List V → Hp → VK → Prop := fun vs H Q => ∃ v xs, vs = [v] ∧ Feeds K H v xs ∧ xs.length < scanBound ∧
  ∀ a L, H a = none → L.Perm (once xs) → Q (.ref a) (upd H a (SO (txKit P w) a L))
theorem part_perm {L xs : List Str} (p : Part (fun k : Str => k) xs xs.length L) : L.Perm (once xs) := by
  have nd := p.once
  rw [List.map_id'] at nd
  refine perm_once nd fun k => ⟨fun z => List.mem_of_mem_take (p.from_ k z), fun z => ?_⟩
  have q := p.has k (by rw [List.take_length]; exact z)
  rw [List.map_id'] at q
  exact q

theorem cr_setS (hc : X.calm = true) : CallR X (.type "set") (rSetS X.K X.prog X.w) := by
  intro pins s σ H vs us Q I r h
  obtain ⟨v, xs, rfl, fd, lim, q⟩ := h
  have hn : H s.heap.objs.size = none := I.hok.fresh (Nat.le_refl _)
  have fin : ∀ (h' : Heap) (tk : Nat) (L : List Str), (txKit X.prog X.w).Is h' s.heap.objs.size L → Part (txKit X.prog X.w).key xs xs.length L → Sub s.heap h' →
      EP X pins σ Q (.ref s.heap.objs.size) { s with heap := h', toks := tk } := fun h' tk L is pt k =>
    ⟨.ref s.heap.objs.size, upd H s.heap.objs.size (SO (txKit X.prog X.w) s.heap.objs.size L), I.laid (t' := tk) k (Nat.le_refl _) (so_new is), rfl, q _ L hn (part_perm pt)⟩
  cases r with
  | cons r0 rt =>
    cases rt
    rcases fd with ⟨x, rfl, rfl⟩ | ⟨l, rfl, sq⟩
    · obtain ⟨t, rfl⟩ := r0
      refine set_of_str (txKit X.prog X.w) (I.ok.hd hc) (by rw [signs, List.length_map, Array.length_toList]) lim (fun i v sg => ?_) (fun _ _ => trivial) trivial fin
      obtain ⟨c, u, e, rfl⟩ := sg
      refine ⟨⟨#[c]⟩, ?_, u, rfl⟩
      rw [signs, List.getElem?_map, Array.getElem?_toList, e]
      rfl
    · cases r0
      rcases sq with sq | sq
      · obtain ⟨its, rv, tp, _⟩ := I.tuple sq
        exact set_of_tuple (txKit X.prog X.w) (I.ok.hd hc) tp (show (Show TxRel xs its.toArray.toList) by simpa using show_txt rv) lim (fun _ _ => trivial) trivial fin
      · obtain ⟨its, rv, tp, _⟩ := I.list sq
        exact set_of_list (txKit X.prog X.w) (I.ok.hd hc) tp.isList (show (Show TxRel xs its.toArray.toList) by simpa using show_txt rv) lim (fun _ _ => trivial) trivial fin

/-! sorted(set) -/
theorem vals_txt : ∀ {xs : List Str} {us : List Value}, Show TxRel xs us → Vals (xs.map V.str) us
  | _, _, .nil => .nil
  | _, _, .cons r t => .cons r (vals_txt t)
theorem kept {pins : List (Addr × Obj)} {σ : L2.St} {H : Hp} {s s' : Shared} {p : Addr} {xs : List V} {out : Array Value} {c : Nat} (I : Inv X pins σ H s) (k : Sub s.heap s'.heap) (g : s'.gens = s.gens) (o : s'.os = s.os)
    (hp : s.heap.objs.size ≤ p) (at_ : s'.heap.get? p = some (seqObj "list" out c)) (rv : Vals xs out.toList) (few : xs.length ≤ sizeLine) : Inv X pins σ (upd H p (.lst xs)) s' := by
  have hn : H p = none := I.hok.fresh hp
  have J : Inv X pins σ (upd H p (.lst xs)) { s with heap := s'.heap, gens := s'.gens, drawn := s'.drawn, toks := s'.toks } :=
    I.call (ch := []) (Un.laid k hp hn) (I.hok.laid k hp ⟨few, out.toList, c, rv, at_⟩) (by rw [g]; exact I.bare) (fun _ z => nomatch z)
  obtain ⟨h1, h2, h3, h4, h5⟩ := s'
  obtain rfl : h5 = s.os := o
  exact J

def rSortedS (P : Program) (w : World) : List V → Hp → VK → Prop := fun vs H Q => ∃ a L, vs = [.ref a] ∧ H a = some (SO (txKit P w) a L) ∧ ∀ p, H p = none → Q (.ref p) (upd H p (.lst ((L.mergeSort sLe).map V.str)))
theorem cr_sortedS (hc : X.calm = true) (hu : X.A.units + 64 < cLine) : CallR X (.builtin "sorted") (rSortedS X.prog X.w) := by
  intro pins s σ H vs us Q I r h
  obtain ⟨a, L, rfl, ha, q⟩ := h
  have is : (txKit X.prog X.w).Is s.heap a L := (I.hok a _ ha).1
  have few : L.length < scanBound := let ⟨_, T⟩ := is; T.lim
  rw [Vals.ref1 r]
  refine sorted_of (txKit X.prog X.w) (fun k : Str => PyData.str k) (I.ok.hd hc) is (fun h' _ x _ v rel => ?_) (fun _ _ => by simp [alike]) (fun l => Sortable.others fun b => ⟨fun z => (by cases z), fun xs z => (by cases z)⟩) (fun x _ => ?_)
    fun s' p out c L1 k g o hp at_ pL sh => ?_
  · obtain ⟨u, rfl⟩ := rel
    exact ⟨[], .str x u, fun b z => (by cases z)⟩
  · simp only [PyData.depth]
    omega
  · rw [dataLe_tx, sLe_ord.same pL] at sh
    have few2 : ((L.mergeSort sLe).map V.str).length ≤ sizeLine := by
      rw [List.length_map, List.length_mergeSort]
      exact fits_of_scanBound few
    exact ⟨.ref p, _, kept I k g o hp at_ (vals_txt sh) few2, rfl, q p (I.hok.fresh hp)⟩

/-! pairs of a whole number and a text -/
def rSetP (K : PySem.W.Frag) (P : Program) (w : World) : List V → Hp → VK → Prop := fun vs H Q => ∃ (l : Addr) (ks : List (Addr × Int × Str)), vs = [.ref l] ∧ SqL K H l (ks.map fun p => V.ref p.1) ∧ (∀ p ∈ ks, SqT K H p.1 [.int p.2.1, .str p.2.2]) ∧ ks.length < 64 ∧
  ∀ a L, H a = none → (∀ p ∈ L, p ∈ ks) → (L.map (·.2)).Perm (once (ks.map (·.2))) → Q (.ref a) (upd H a (SO (prKit P w) a L))
theorem show_prs : ∀ {ks : List (Addr × Int × Str)} {us : List Value}, Vals (ks.map fun p => V.ref p.1) us → Show (fun (p : Addr × Int × Str) v => v = .ref p.1) ks us
  | [], _, .nil => .nil
  | _ :: _, _, .cons r t => .cons r (show_prs t)
theorem vals_prs : ∀ {ks : List (Addr × Int × Str)} {us : List Value}, Show (fun (p : Addr × Int × Str) v => v = .ref p.1) ks us → Vals (ks.map fun p => V.ref p.1) us
  | _, _, .nil => .nil
  | _, _, .cons r t => .cons r (vals_prs t)
theorem pair_at {pins : List (Addr × Obj)} {σ : L2.St} {H : Hp} {s : Shared} {b : Addr} {k : Int × Str} (I : Inv X pins σ H s) (h : SqT X.K H b [.int k.1, .str k.2]) : Tup X.prog X.w s.heap [Sum.inl k.1, Sum.inr k.2] b := by
  obtain ⟨its, r, ⟨o, ho, hc, n, hd⟩, _⟩ := I.tuple h
  refine ⟨o, its.toArray, n, ho, hc, hd, ?_⟩
  cases r with
  | cons r1 t =>
    cases t with
    | cons r2 t2 =>
      cases t2
      obtain ⟨u1, rfl⟩ := r1
      obtain ⟨u2, rfl⟩ := r2
      exact .cons (keyIs_int k.1 u1) (.cons (keyIs_str k.2 u2) .nil)
theorem cr_setP (hc : X.calm = true) (hu : X.A.units + 64 < cLine) : CallR X (.type "set") (rSetP X.K X.prog X.w) := by
  intro pins s σ H vs us Q I r h
  obtain ⟨l, ks, rfl, sq, el, lim, q⟩ := h
  have hn : H s.heap.objs.size = none := I.hok.fresh (Nat.le_refl _)
  rw [Vals.ref1 r]
  obtain ⟨its, rv, tp, _⟩ := I.list sq
  refine set_of_list (prKit X.prog X.w) (I.ok.hd hc) tp.isList (show (Show (fun (p : Addr × Int × Str) v => v = .ref p.1) ks its.toArray.toList) by simpa using show_prs rv) lim (fun p m => pair_at I (el p m)) ?_ fun h' tk L is pt k => ?_
  · show X.A.in1.in1.in1.units < cLine
    simp only [Around.in1]
    omega
  · refine ⟨.ref s.heap.objs.size, upd H s.heap.objs.size (SO (prKit X.prog X.w) s.heap.objs.size L), I.laid (t' := tk) k (Nat.le_refl _) (so_new is), rfl, q _ L hn (fun p m => List.mem_of_mem_take (pt.from_ p m)) (perm_once pt.once fun x => ⟨fun z => ?_, fun z => ?_⟩)⟩
    · obtain ⟨p, m, rfl⟩ := List.mem_map.mp z
      exact List.mem_map.mpr ⟨p, List.mem_of_mem_take (pt.from_ p m), rfl⟩
    · obtain ⟨p, m, rfl⟩ := List.mem_map.mp z
      exact pt.has p (by rw [List.take_length]; exact m)

def rSortedP (K : PySem.W.Frag) (P : Program) (w : World) : List V → Hp → VK → Prop := fun vs H Q => ∃ a L, vs = [.ref a] ∧ H a = some (SO (prKit P w) a L) ∧ (∀ p ∈ L, SqT K H p.1 [.int p.2.1, .str p.2.2]) ∧
  ∀ p (L' : List (Addr × Int × Str)), H p = none → L'.Perm L → L'.map (·.2) = (L.map (·.2)).mergeSort pLe → Q (.ref p) (upd H p (.lst (L'.map fun q => V.ref q.1)))
theorem cr_sortedP (hc : X.calm = true) (hu : X.A.units + 64 < cLine) : CallR X (.builtin "sorted") (rSortedP X.K X.prog X.w) := by
  intro pins s σ H vs us Q I r h
  obtain ⟨a, L, rfl, ha, el, q⟩ := h
  have is : (prKit X.prog X.w).Is s.heap a L := (I.hok a _ ha).1
  have few : L.length < 64 := let ⟨_, _, _, T⟩ := is; T.lim
  rw [Vals.ref1 r]
  refine sorted_of (prKit X.prog X.w) (fun p : Addr × Int × Str => PyData.tuple [.int p.2.1, .str p.2.2]) (I.ok.hd hc) is (fun h' k x m v rel => ?_) (fun _ _ => by simp [alike, alikeAll]) (fun l => Sortable.tuples fun b => ⟨_, _, rfl⟩) (fun x _ => ?_)
    fun s' p out c L1 k g o hp at_ pL sh => ?_
  · obtain rfl : v = .ref x.1 := rel
    obtain ⟨o, its, n, e1, e2, e3, all⟩ := Tup.sub (pair_at I (el x m)) k
    refine ⟨[], .tuple e1 e2 e3 ?_, fun b z => (by cases z)⟩
    generalize its.toList = l at all
    cases all with
    | cons k1 t =>
      cases t with
      | cons k2 t2 =>
        cases t2
        rcases keyIs_shape (k := Sum.inl x.2.1) k1 with ⟨i, u, e, rfl⟩ | ⟨y, u, e, rfl⟩
        · rcases keyIs_shape (k := Sum.inr x.2.2) k2 with ⟨i', u', e', rfl⟩ | ⟨y', u', e', rfl⟩
          · cases e'
          · injection e with e
            injection e' with e'
            rw [e, e']
            exact .cons (.int _ _) (.cons (.str _ _) .nil)
        · cases e
  · simp only [PyData.depth, PyData.depthAll]
    omega
  · rw [dataLe_pr] at sh
    have few2 : ((L1.mergeSort fun p q => pLe p.2 q.2).map fun q => V.ref q.1).length ≤ sizeLine := by
      have := sizeLine_eq
      rw [List.length_map, List.length_mergeSort, pL.length_eq]
      omega
    refine ⟨.ref p, _, kept I k g o hp at_ (vals_prs sh) few2, rfl, q p _ (I.hok.fresh hp) ((List.mergeSort_perm _ _).trans pL) ?_⟩
    refine pLe_ord.one (((List.mergeSort_perm _ _).trans pL).map _) ?_
    rw [List.pairwise_map]
    exact List.pairwise_mergeSort (le := fun p q : Addr × Int × Str => pLe p.2 q.2) (fun a b c => pLe_ord.tr _ _ _) (fun a b => pLe_ord.tot _ _) L1
end
end XSt

/-! sorted(xs, key=len), and the order of texts: by length, then as texts -/
namespace XSt
open PySem PySem.Spec PyProof.Rows L2 PySem.W

def lLe (a b : Str) : Bool := decide ((a.length : Int) ≤ (b.length : Int))
theorem dataLe_len : dataLe false (fun k : Str => PyData.int (k.length : Int)) = lLe := by
  rw [dataLe_int]
  rfl

section
variable {X : Cx} {p p2 pos kpos : Pos} {e : Expr} {te : TE}
def tSortLen (K : PySem.W.Frag) (te : TE) : TE := fun σ H Q => te σ H fun x H1 => ∃ (l : Addr) (xs : List Str), x = .ref l ∧ SqL K H1 l (xs.map V.str) ∧ (∀ k ∈ xs, k.length ≤ sizeLine) ∧ ∀ q, H1 q = none → Q (.ref q) (upd H1 q (.lst ((xs.mergeSort lLe).map V.str)))

theorem each_txt : ∀ {xs : List Str} {us : List Value}, Vals (xs.map V.str) us → EachIs (fun v (k : Str) => TxRel k v) us xs
  | [], _, .nil => .nil
  | _ :: _, _, .cons r t => .cons r (each_txt t)
theorem vals_each : ∀ {xs : List Str} {us : List Value}, EachIs (fun v (k : Str) => TxRel k v) us xs → Vals (xs.map V.str) us
  | _, _, .nil => .nil
  | _, _, .cons r t => .cons r (vals_each t)

theorem call_sortLen (hu : X.A.units + 64 < cLine) {pins : List (Addr × Obj)} {s : Shared} {σ : L2.St} {H : Hp} {l : Addr} {xs : List Str} {Q : VK} (I : Inv X pins σ H s) (sq : SqL X.K H l (xs.map V.str)) (few : ∀ k ∈ xs, k.length ≤ sizeLine)
    (h : ∀ q, H q = none → Q (.ref q) (upd H q (.lst ((xs.mergeSort lLe).map V.str)))) : wpAny (model X.prog X.w) X.A (call (.builtin "sorted") [.ref l] [(Str.ofString "key", .builtin "len")]) (EP X pins σ Q) X.xe s := by
  obtain ⟨its, rv, pl, hz⟩ := I.list sq
  have lz : xs.length ≤ sizeLine := by simpa using hz
  refine sorted_key_data (k := fun k : Str => PyData.int (k.length : Int)) (b := false) pl.isList (each_txt rv) (AllAlike.of fun _ _ => by simp [alike]) (Sortable.others fun b => ⟨fun z => (by cases z), fun xs z => (by cases z)⟩) lz (fun x _ => ?_)
    (ksk_s1 _ _) (fun _ => ksk_l1 _ _) (fun a => ksk_t4 "len" a) (fun v k rel m h' tk k1 => ?_) fun out c h' tk k1 z0 at_ lo eo => ?_
  · simp only [PyData.depth]
    omega
  · obtain ⟨u, rfl⟩ := rel
    have z := few k m
    have hl := line63
    have hs : sizeLine = 16777216 := sizeLine_eq
    refine len_str (by omega) ?_
    exact ⟨h', _, rfl, fun _ _ e => e, .int _ _⟩
  · rw [dataLe_len] at eo
    have rv2 : Vals ((xs.mergeSort lLe).map V.str) out := vals_each eo
    have few2 : ((xs.mergeSort lLe).map V.str).length ≤ sizeLine := by
      rw [List.length_map, List.length_mergeSort]
      exact lz
    exact ⟨.ref (s.heap.objs.size + 1), upd H (s.heap.objs.size + 1) (.lst ((xs.mergeSort lLe).map V.str)), I.laid (t' := tk) k1 (Nat.le_succ _) ⟨few2, out, c, rv2, at_⟩, rfl, h _ (I.hok.fresh (Nat.le_succ _))⟩

theorem pe_sortLen (hu : X.A.units + 64 < cLine) (hg : Gl X (Str.ofString "sorted")) (hm : X.mg (Str.ofString "sorted") = none) (hg2 : Gl X (Str.ofString "len")) (hm2 : X.mg (Str.ofString "len") = none) (he : PE X e te)
    (hs : backTo pos (starEach [e] X.env) = (false, eval e X.env) :: backTo pos (starEach [] X.env) := by rfl) (hpl : (backTo pos (starEach [e] X.env)).any (·.1) = false := by rfl) :
    PE X (.Call (.Name (Str.ofString "sorted") p) [e] [⟨some (Str.ofString "key"), .Name (Str.ofString "len") p2, kpos⟩] pos) (tSortLen X.K te) := by
  refine ⟨fun pins s σ H Q I h => ?_⟩
  refine wpAny_Call_Name_kw (ld_blt I hg hm (u := .builtin "sorted") (by kernel_rfl) ?_)
  refine PyProof.Rows.callWith_kw (e := e) (rest := []) (id := "sorted") ?_ hs hpl rfl rfl
  rw [hs]
  refine Calls.spliced_cons (thn (he.run pins s σ H _ I h) fun u s1 ⟨x, H1, I1, r1, l, xs, ex, sq, few, q⟩ => Calls.spliced_nil ?_)
  subst ex
  obtain rfl : u = Value.ref l := r1
  show wpAny _ _ (evalAll ((do let v ← eval (.Name (Str.ofString "len") p2) X.env; standAt pos; pure v) :: [])) _ _ s1
  refine wpAny_evalAll_cons (wpAny_bind (ld_blt I1 hg2 hm2 (u := .builtin "len") (by kernel_rfl) (wpAny_bind (wpAny_standAt (wpAny_pure (wpAny_evalAll_nil ?_))))))
  exact call_sortLen hu I1 sq few q
end
end XSt

/-! texts by length, then as texts: two ways -/
namespace XSt
open PySem PySem.Spec PyProof.Rows L2 PySem.W

def lenOf (k : Str) : Int × Str := ((k.length : Int), k)
def tLe (a b : Str) : Bool := pLe (lenOf a) (lenOf b)
theorem tLe_ord : Ordly tLe where
  tr := fun a b c => pLe_ord.tr _ _ _
  tot := fun a b => pLe_ord.tot _ _
  anti := fun a b x y => congrArg Prod.snd (pLe_ord.anti _ _ x y)
/-- the different ones, shorter ones first -/
def ordT (l : List Str) : List Str := (once l).mergeSort tLe
theorem ordT_mem {l : List Str} {x : Str} : x ∈ ordT l ↔ x ∈ l := by
  unfold ordT
  rw [(List.mergeSort_perm _ _).mem_iff]
  exact mem_once
theorem ordT_same {l m : List Str} (e : ∀ x, x ∈ m ↔ x ∈ l) : ordT m = ordT l := tLe_ord.same (once_same e)

theorem lLe_total : TotalLe lLe where
  trans := fun a b c => by
    unfold lLe
    simp only [decide_eq_true_eq]
    omega
  total := fun a b => by
    unfold lLe
    simp only [decide_eq_true_eq]
    omega

/-- as texts first, then by length: the same -/
theorem twice_sorted (l : List Str) : ((once l).mergeSort sLe).mergeSort lLe = ordT l := by
  symm
  have s1 : (ordT l).Pairwise (fun a b => tLe a b = true) := List.pairwise_mergeSort tLe_ord.tr tLe_ord.tot _
  have s2 : ((once l).mergeSort sLe).Pairwise (fun a b => sLe a b = true) := List.pairwise_mergeSort sLe_ord.tr sLe_ord.tot _
  have pm : (ordT l).Perm ((once l).mergeSort sLe) := (List.mergeSort_perm _ _).trans (List.mergeSort_perm _ _).symm
  refine sort_unique lLe_total (s1.imp fun {a b} q => ?_) fun c => ?_
  · have q' := pLe_iff.mp (show pLe (lenOf a) (lenOf b) = true from q)
    unfold lLe
    rw [decide_eq_true_eq]
    simp only [lenOf] at q'
    rcases q' with q' | ⟨q', _⟩ <;> omega
  · refine List.Perm.eq_of_pairwise (le := fun a b => sLe a b = true) (fun a b _ _ => sLe_ord.anti a b) ?_ (s2.filter _) (pm.filter _)
    refine (s1.filter _).imp_of_mem fun {a b} ma mb q => ?_
    have ka := (List.mem_filter.mp ma).2
    have kb := (List.mem_filter.mp mb).2
    unfold sameRank at ka kb
    simp only [lLe, Bool.and_eq_true, decide_eq_true_eq] at ka kb
    have q' := pLe_iff.mp (show pLe (lenOf a) (lenOf b) = true from q)
    simp only [lenOf] at q'
    rcases q' with q' | ⟨_, q'⟩
    · omega
    · exact q'

/-- by pairs -/
theorem pairs_sorted {l : List Str} {ps : List (Int × Str)} (h : ps.Perm (once (l.map lenOf))) : (ps.mergeSort pLe).map (·.2) = ordT l := by
  have back : ∀ p ∈ ps, p = lenOf p.2 := fun p m => by
    obtain ⟨k, _, rfl⟩ := List.mem_map.mp (mem_once.mp (h.mem_iff.mp m))
    rfl
  have nd : (ps.map (·.2)).Nodup := by
    have n1 : ps.Nodup := h.nodup_iff.mpr (nodup_once _)
    refine List.pairwise_map.mpr (n1.imp_of_mem fun {p q} mp mq ne e => ne ?_)
    rw [back p mp, back q mq, e]
  have mem : ∀ x, x ∈ ps.map (·.2) ↔ x ∈ l := fun x => by
    rw [List.mem_map]
    constructor
    · rintro ⟨p, m, rfl⟩
      obtain ⟨k, mk, rfl⟩ := List.mem_map.mp (mem_once.mp (h.mem_iff.mp m))
      exact mk
    · intro m
      exact ⟨lenOf x, h.mem_iff.mpr (mem_once.mpr (List.mem_map.mpr ⟨x, m, rfl⟩)), rfl⟩
  refine tLe_ord.one (((List.mergeSort_perm _ _).map _).trans (perm_once nd mem)) ?_
  rw [List.pairwise_map]
  refine List.Pairwise.imp_of_mem (fun {p q} mp mq z => ?_) (List.pairwise_mergeSort pLe_ord.tr pLe_ord.tot ps)
  rw [back p ((List.mergeSort_perm _ _).mem_iff.mp mp), back q ((List.mergeSort_perm _ _).mem_iff.mp mq)] at z
  exact z
end XSt

/-! values that are asked; texts as their letters -/
namespace NX
open PySem PySem.Spec PyProof.Rows L2 XSt
open PySem.W (Frag)

/-! isinstance of any value -/
/-- an object of a kind that is no number, no truth value, no text; tup: whether it is a tuple -/
def Thing (K : Frag) (H : Hp) (a : Addr) (tup : Bool) : Prop := ∃ t, TyX K H (.ref a) t ∧ PySem.W.kitOne K t (.type "int") = some false ∧ PySem.W.kitOne K t (.type "bool") = some false ∧ PySem.W.kitOne K t (.type "str") = some false ∧ PySem.W.kitOne K t (.type "tuple") = some tup
def Asked (K : Frag) (H : Hp) : V → Prop
  | .int _ => True
  | .bl _ => True
  | .non => True
  | .str x => x.length ≤ 8000 ∧ PyData.strOk x = true
  | .ref a => ∃ b, Thing K H a b
  | _ => False
def isIntV : V → Bool
  | .int _ => true
  | .bl _ => true
  | _ => false
def isBoolV : V → Bool
  | .bl _ => true
  | _ => false
def isStrV : V → Bool
  | .str _ => true
  | _ => false
section
variable {K : Frag} {H : Hp} {v : V} {Q : VK}
theorem isi_int (h : Asked K H v) : ∃ t, TyX K H v t ∧ PySem.W.kitOne K t (.type "int") = some (isIntV v) := by
  cases v with
  | int i => exact ⟨_, .base (.int i), rfl⟩
  | bl i => exact ⟨_, .base (.bl i), rfl⟩
  | non => exact ⟨_, .base .non, rfl⟩
  | str i => exact ⟨_, .base (.str i), rfl⟩
  | ref a =>
    obtain ⟨b, t, h1, h2, h3, h4, h5⟩ := h
    exact ⟨_, h1, h2⟩
  | _ => exact h.elim
theorem isi_bool (h : Asked K H v) : ∃ t, TyX K H v t ∧ PySem.W.kitOne K t (.type "bool") = some (isBoolV v) := by
  cases v with
  | int i => exact ⟨_, .base (.int i), rfl⟩
  | bl i => exact ⟨_, .base (.bl i), rfl⟩
  | non => exact ⟨_, .base .non, rfl⟩
  | str i => exact ⟨_, .base (.str i), rfl⟩
  | ref a =>
    obtain ⟨b, t, h1, h2, h3, h4, h5⟩ := h
    exact ⟨_, h1, h3⟩
  | _ => exact h.elim
theorem isi_str (h : Asked K H v) : ∃ t, TyX K H v t ∧ PySem.W.kitOne K t (.type "str") = some (isStrV v) := by
  cases v with
  | int i => exact ⟨_, .base (.int i), rfl⟩
  | bl i => exact ⟨_, .base (.bl i), rfl⟩
  | non => exact ⟨_, .base .non, rfl⟩
  | str i => exact ⟨_, .base (.str i), rfl⟩
  | ref a =>
    obtain ⟨b, t, h1, h2, h3, h4, h5⟩ := h
    exact ⟨_, h1, h4⟩
  | _ => exact h.elim
end

/-! what the judges tell -/
def longV : V → Bool
  | .int i => decide ((if i < 0 then -i else i) < (10 ^ 50) ^ 4)
  | _ => false
/-- one to three, ascending, a to z: by the whole and the ends -/
def lettersV : V → Bool
  | .str x => decide (1 ≤ x.length ∧ x.length ≤ 3) && (decide (x = Txt.join ⟨#[]⟩ ((once (XSt.signs x)).mergeSort sLe)) && (decide (97 ≤ x.cps.toList.headD 0) && decide (x.cps.toList.getLastD 0 ≤ 122)))
  | _ => false
def spelledV (s : Str) : V → Bool
  | .str x => decide (Txt.stripChars x s = ⟨#[]⟩)
  | _ => false
end NX

/-! sorted(x), x a list or a tuple of texts, of any length; z[::-1] -/
namespace XSt
open PySem PySem.Spec PyProof.Rows L2 PySem.W

/-! ### sorted -/
section
variable {P : Program} {w : World} {A : Around} {E : Value → Shared → Prop} {s : Shared}
/-- the items of a list or a tuple, laid out; the heap only grows -/
theorem laid_out {T : String} {l : Addr} {o : Obj} {its : Array Value} {n : Nat} {Q : List Value → Shared → Prop} (hT : T = "list" ∨ T = "tuple") (ho : s.heap.get? l = some o) (hc : o.cls = .type T) (hd : o.data = .seq its n) (few : its.size ≤ sizeLine)
    (hQ : ∀ g : Heap, (∀ b u, s.heap.get? b = some u → g.get? b = some u) → s.heap.objs.size ≤ g.objs.size → Q its.toList { s with heap := g }) : wpAny (model P w) A (collect (.ref l)) Q E s := by
  let e0 : Obj := { cls := .type "list", data := .seq ([] : List Value).toArray }
  have at0 : (s.heap.push e0).get? s.heap.objs.size = some { cls := .type "list", data := .seq #[] 0 } := Heap.get?_push_size _ rfl
  let g1 : Heap := (s.heap.push e0).update s.heap.objs.size (Obj.mapSeq (· ++ its))
  have at1 := Heap.get?_update_self (Obj.mapSeq (· ++ its)) at0 rfl
  have size1 : s.heap.objs.size ≤ g1.objs.size := Nat.le_of_lt (Heap.lt_size at1)
  have keep1 : ∀ b u, s.heap.get? b = some u → g1.get? b = some u := fun b u hb => by
    have y : (s.heap.push e0).get? b = some u := Heap.get?_push_of_some _ hb
    exact (Heap.get?_update_other _ _ (Nat.ne_of_gt (Heap.lt_size hb))).trans y
  have told : ((#[] : Array Value) ++ its).toList = its.toList := by simp
  have last : wpAny (model P w) A (do
      match (← load s.heap.objs.size).data with
      | Data.seq xs _ => pure xs.toList
      | _ => unsupported "internal:collect") Q E { s with heap := g1 } := wpAny_bind (wpAny_load at1 (wpAny_pure (by
        show Q ((#[] : Array Value) ++ its).toList _
        rw [told]
        exact hQ g1 keep1 size1)))
  have grow := wpAny_extend_seq (hsz := few) (A := A) (prog := P) (w := w) (R := fun r t => r = .ok (.ret (.ref s.heap.objs.size)) ∧ t = { s with heap := g1 }) (s := { s with heap := s.heap.push e0 }) _ l (.ref s.heap.objs.size) 0 hT at0 (Heap.get?_push_of_some _ ho) hc hd ⟨rfl, rfl⟩
  have entry := F.entry_proto_collect
  have again_ := F.entry_list_iadd
  have quiet1 := F.plain_proto_collect
  have quiet2 := F.plain_list_iadd
  unfold collect
  exact wpAny_bind (wpAny_runValue (codeAny_builtin entry (by
    rw [Around.under_plainId quiet1 _]
    exact wpAny_bind (m := newList []) (wpAny_newObj_type (wpAny_pure ⟨plainId_quiet quiet2 _, codeAny_builtin again_ (by
      rw [Around.under_plainId quiet2 _]
      refine wpAny_mono grow (fun fin t h => ?_) (fun er t h => absurd h.1 (by simp))
      cases fin with
      | done f =>
        obtain ⟨e1, rfl⟩ := h
        cases e1
        exact last
      | again c => exact ⟨h.1, codeAny_mono h.2 fun r t2 hr => by
          obtain ⟨rfl, rfl⟩ := hr
          exact last⟩)⟩)))))
theorem sorted_seq {T : String} {l : Addr} {o : Obj} {vs : List Value} {n : Nat} {xs : List Str} {Q : Value → Shared → Prop} (hT : T = "list" ∨ T = "tuple") (ho : s.heap.get? l = some o) (hc : o.cls = .type T) (hd : o.data = .seq vs.toArray n)
    (e : EachIs (fun v (k : Str) => TxRel k v) vs xs) (few : xs.length ≤ sizeLine) (room : A.units + 64 < cLine)
    (fin : ∀ h' p (out : Array Value) (c : Nat), Sub s.heap h' → s.heap.objs.size ≤ p → h'.get? p = some (seqObj "list" out c) →
      EachIs (fun v (k : Str) => TxRel k v) out.toList (xs.mergeSort sLe) → Q (.ref p) { s with heap := h' }) :
    wpAny (model P w) A (call (.builtin "sorted") [.ref l]) Q E s := by
  refine Calls.call_function_entry kind_sorted plain_sorted entry_sorted (args_sorted1 _) ?_
  unfold Builtin.«sorted»
  refine wpAny_bind (m := checkCount "sorted" 1 1 _) (wpAny_pure ?_)
  refine wpAny_bind (laid_out (A := A.in1) hT ho hc hd (by rw [List.size_toArray, e.length]; exact few) fun h' k sz => ?_)
  have len : vs.length = xs.length := e.length
  rw [List.toList_toArray]
  refine wpAny_bind (wpAny_newList ?_ (by rw [len]; exact few))
  have hl : (h'.push (seqObj "list" vs.toArray 0)).get? h'.objs.size = some (seqObj "list" vs.toArray 0) := Heap.get?_push_size _ rfl
  have er : EachIs (fun v (x : Str) => ∃ as, Reads (h'.push (seqObj "list" vs.toArray 0)) v (PyData.str x) as ∧ h'.objs.size ∉ as) vs xs := e.mono fun v x r => by
    obtain ⟨u, rfl⟩ := r
    exact ⟨[], .str _ _, by simp⟩
  refine wpAny_bind (wpAny_holding (list_sort_data (s := { s with heap := h'.push (seqObj "list" vs.toArray 0) }) (enc := fun k : Str => PyData.str k) hl e er (AllAlike.of fun _ _ => by simp [alike]) (Sortable.others fun b => ⟨fun z => (by cases z), fun xs z => (by cases z)⟩) few (fun x _ => ?_) fun out lo eo => ?_))
  · simp only [PyData.depth]
    have : A.in1.units ≤ A.units + 1 := by simp [Around.in1]
    omega
  · obtain ⟨c, hc⟩ := sortedHeap_at (vs := vs) (out := out.toArray) hl
    rw [dataLe_tx] at eo
    refine wpAny_pure ⟨_, rfl, fin _ h'.objs.size out.toArray c (fun b o e => ?_) sz hc (by simpa using eo)⟩
    have k1 := k b o e
    have lt := Heap.lt_size k1
    show (sortedHeap (h'.push (seqObj "list" vs.toArray 0)) h'.objs.size vs out.toArray).get? b = some o
    rw [sortedHeap_old (Nat.ne_of_lt lt) (by rw [size_push']; exact Nat.lt_succ_of_lt lt)]
    exact Heap.get?_push_of_some _ k1
end

section
variable {X : Cx}
def rSortT (K : PySem.W.Frag) : List V → Hp → VK → Prop := fun vs H Q => ∃ (l : Addr) (xs : List Str), vs = [.ref l] ∧ (SqL K H l (xs.map V.str) ∨ SqT K H l (xs.map V.str)) ∧ xs.length ≤ sizeLine ∧
  ∀ q, H q = none → Q (.ref q) (upd H q (.lst ((xs.mergeSort sLe).map V.str)))
theorem cr_sortT (hu : X.A.units + 64 < cLine) : CallR X (.builtin "sorted") (rSortT X.K) := by
  intro pins s σ H xs us Q I r h
  obtain ⟨l, xs, rfl, sq, few, q⟩ := h
  obtain ⟨u, rfl, rx⟩ := vals1 r
  obtain rfl : u = Value.ref l := rx
  have main : ∀ (T : String) (o : Obj) (vs : List Value) (n : Nat), (T = "list" ∨ T = "tuple") → s.heap.get? l = some o → o.cls = .type T → o.data = .seq vs.toArray n → Vals (xs.map V.str) vs →
      wpAny (model X.prog X.w) X.A (call (.builtin "sorted") [.ref l]) (EP X pins σ Q) X.xe s := fun T o vs n hT ho hc hd rv => by
    refine sorted_seq hT ho hc hd (each_txt rv) few hu fun h' p out c sb sz at_ eo => ?_
    have rv2 : Vals ((xs.mergeSort sLe).map V.str) out.toList := vals_each eo
    have few2 : ((xs.mergeSort sLe).map V.str).length ≤ sizeLine := by
      rw [List.length_map, List.length_mergeSort]
      exact few
    exact ⟨.ref p, upd H p (.lst ((xs.mergeSort sLe).map V.str)), I.laid (t' := s.toks) sb sz ⟨few2, out.toList, c, rv2, at_⟩, rfl, q p (I.hok.fresh sz)⟩
  rcases sq with sq | sq
  · obtain ⟨its, rv, pl, hz⟩ := I.list sq
    obtain ⟨o, ho, hc, n, hd⟩ := id pl.isList
    exact main "list" o its n (.inl rfl) ho hc hd rv
  · obtain ⟨its, rv, pl, hz⟩ := I.tuple sq
    obtain ⟨o, ho, hc, n, hd⟩ := id pl
    exact main "tuple" o its n (.inr rfl) ho hc hd rv
end

/-! ### z[::-1] -/
def revS (z : Str) : Str := ⟨z.cps.reverse⟩
section
variable {X : Cx}
theorem pick_rev (z : Str) : (Builtin.Str.strSliceIndices none none (-1) z.length).filterMap (z.cps[·]?) = z.cps.toList.reverse := by
  have e : Builtin.Str.strSliceIndices none none (-1) z.length = (List.range z.cps.size).reverse := by
    have y := krv_sliceRange z.length
    rw [krv_range] at y
    show _ = (List.range z.length).reverse
    rw [← y]
    rfl
  rw [e, List.filterMap_reverse]
  congr 1
  have a : ∀ (xs : Array Nat), (List.range xs.size).filterMap (xs[·]?) = xs.toList := fun xs => krv_all xs
  exact a _
def tRevS (te : TE) : TE := fun σ H Q => te σ H fun x H1 => ∃ z, x = .str z ∧ z.length ≤ sizeLine ∧ Q (.str (revS z)) H1
theorem pe_revS {e : Expr} {te : TE} {k : Nat} {p1 p2 p3 pos : Pos} (he : PE X e te) : PE X (.Subscript e (.Slice none none (some (.UnaryOp .USub (.Constant (.int 1) k p1) p2)) p3) pos) (tRevS te) := by
  refine ⟨fun pins s σ H Q I h => ?_⟩
  refine Subscript_ (thn (he.run pins s σ H _ I h) fun v s1 ⟨x, H1, I1, r1, q1⟩ => ?_)
  obtain ⟨z, ex, hz, q⟩ := q1
  subst ex
  obtain ⟨t, rfl⟩ := r1
  have hst : PO X (some (.UnaryOp .USub (.Constant (.int 1) k p1) p2)) (tPart (tUn (rU fun i => .int (-i)) (tC (.int 1)))) := po_some (pe_un un_neg pe_int)
  refine wpAny_Slice (thn (po_none.run pins s1 σ H1 (fun o H2 => o = none ∧ H2 = H1) I1 ⟨rfl, rfl⟩) fun vl s2 ⟨l, H2, I2, pl, el, e2⟩ => ?_)
  subst el e2
  refine thn (po_none.run pins s2 σ H2 (fun o H3 => o = none ∧ H3 = H2) I2 ⟨rfl, rfl⟩) fun vu s3 ⟨u, H3, I3, pu, eu, e3⟩ => ?_
  subst eu e3
  refine thn (hst.run pins s3 σ H3 (fun o H4 => o = some (-1) ∧ H4 = H3) I3 ⟨1, rfl, -1, rfl, rfl, rfl⟩) fun vs s4 ⟨o, H4, I4, ps, eo, e4⟩ => ?_
  subst eo e4
  have I5 : Inv X pins σ H4 { s4 with heap := s4.heap.push { cls := .type "slice", data := .fields #[vl, vu, vs] } } := I4.kept (t' := s4.toks) fun b ob q => Heap.get?_push_of_some _ q
  obtain ⟨l', rfl, el⟩ := IsPart.raw pl
  obtain ⟨u', rfl, eu⟩ := IsPart.raw pu
  obtain ⟨st', rfl, es⟩ := IsPart.raw ps
  have el' : l' = none := by
    cases l' with
    | none => rfl
    | some y => cases el
  have eu' : u' = none := by
    cases u' with
    | none => rfl
    | some y => cases eu
  subst el' eu'
  cases st' with
  | none => cases es
  | some y =>
    obtain ⟨m, tm⟩ := y
    obtain rfl : m = -1 := Option.some.inj es
    show wpAny (model X.prog X.w) X.A (subscriptTail e (.Slice none none (some (.UnaryOp .USub (.Constant (.int 1) k p1) p2)) p3) (.str z t) (.ref s4.heap.objs.size)) (EP X pins σ Q) X.xe { s4 with heap := s4.heap.push { cls := .type "slice", data := .fields #[partValue none, partValue none, partValue (some (-1, tm))] } }
    refine tail_any (ops := [.str z t, .ref s4.heap.objs.size]) (typeIs_str _ z t) slot_str_getitem.lookup ?_ (by with_unfolding_all rfl)
    refine wpAny_getItem_str_slice (l := none) (u := none) (st := some (-1, tm)) ⟨_, Heap.get?_push_size _ rfl, rfl, rfl⟩ rfl ?_
    show Made.post (if ((-1 : Int) == 1 && _) = true then _ else Made.str ⟨((Builtin.Str.strSliceIndices none none (-1) z.length).filterMap (z.cps[·]?)).toArray⟩) (EP X pins σ Q) _
    rw [if_neg (by simp), pick_rev]
    have er : (⟨z.cps.toList.reverse.toArray⟩ : Str) = revS z := by
      unfold revS
      congr 1
      apply Array.toList_inj.mp
      simp
    rw [er]
    refine ⟨?_, .str _, H4, I5.tok _, ⟨_, rfl⟩, q⟩
    show z.cps.reverse.size ≤ sizeLine
    rw [Array.size_reverse]
    exact hz
end
end XSt

/-! the judges of the names -/
namespace B17
open PySem PySem.Spec PyProof.Rows L2 XSt NX
open PySem.W (Frag)
abbrev sIsInteger : Stmt := top 16
abbrev sIsLetters : Stmt := top 17
abbrev sIsSpelled : Stmt := top 20
abbrev sOrdered : Stmt := top 21
/-- the second tells all that the first tells -/
def Ext (H H' : Hp) : Prop := ∀ b o, H b = some o → H' b = some o
theorem Ext.refl (H : Hp) : Ext H H := fun _ _ e => e
theorem Ext.trans {a b c : Hp} (x : Ext a b) (y : Ext b c) : Ext a c := fun q o e => y q o (x q o e)
theorem Ext.new {H H' : Hp} {p : Addr} {o : HO} (k : Ext H H') (h : H' p = none) : Ext H (upd H' p o) := fun b u e => by rw [upd_ne (ne_of_none (k b u e) h)]; exact k b u e

def spIsInteger (K : Frag) : Sp := fun vs H Q _ => ∃ v, vs = [v] ∧ Asked K H v ∧ Q (.bl (longV v)) H
def spIsLetters (K : Frag) : Sp := fun vs H Q _ => ∃ v, vs = [v] ∧ Asked K H v ∧ ∀ H', Ext H H' → Q (.bl (lettersV v)) H'
def spIsSpelled (K : Frag) : Sp := fun vs H Q _ => ∃ x v, vs = [.str x, v] ∧ Asked K H v ∧ Q (.bl (spelledV x v)) H
def spOrdered (K : Frag) : Sp := fun vs H Q _ => ∃ v xs, vs = [v] ∧ Feeds K H v xs ∧ xs.length < 4096 ∧ (∀ k ∈ xs, k.length ≤ 16777216) ∧ ∀ p H', H p = none → Ext H H' → H' p = some (.tup ((ordT xs).map V.str)) → Q (.ref p) H'
/-- the module's numbers -/
structure Sizes (mg : Str → Option Value) : Prop where
  long : ∃ t, mg "_TOO_LONG" = some (.int ((10 ^ 50) ^ 4) t)
  letters : ∃ t, mg "MAX_LETTERS" = some (.int 3 t)
  word : ∃ t, mg "MAX_WORD" = some (.int 400 t)
structure Free (mg : Str → Option Value) : Prop where
  isi : mg "isinstance" = none
  int : mg "int" = none
  bool : mg "bool" = none
  str : mg "str" = none
  tuple : mg "tuple" = none
  abs : mg "abs" = none
  len : mg "len" = none
  sorted : mg "sorted" = none
  set : mg "set" = none
section
variable {P : Program} {w : World} {K : Frag} {mg : Str → Option Value} {base : Heap} {f : Addr} {fd : FuncData}
theorem scIsInteger : FnScope ["value"] ["value"] (defScope sIsInteger) := ⟨rfl, rfl, rfl, by decide +kernel, rfl, by decide +kernel, by decide +kernel⟩
theorem scIsLetters : FnScope ["value"] ["value"] (defScope sIsLetters) := ⟨rfl, rfl, rfl, by decide +kernel, rfl, by decide +kernel, by decide +kernel⟩
theorem scIsSpelled : FnScope ["letters", "value"] ["letters", "value"] (defScope sIsSpelled) := ⟨rfl, rfl, rfl, by decide +kernel, rfl, by decide +kernel, by decide +kernel⟩
theorem scOrdered : FnScope ["texts"] ["texts"] (defScope sOrdered) := ⟨rfl, rfl, rfl, by decide +kernel, rfl, by decide +kernel, by decide +kernel⟩

theorem ok_is_integer (F : FnP K "is_integer" sIsInteger f fd) (Z : Sizes mg) (M : Free mg) : FnOk P w K mg base CX0 1 f fd ["value"] (spIsInteger K) := by
  obtain ⟨tk, gL⟩ := Z.long
  refine F.ok scIsInteger (fun vs H Q E h => ?_) (fun cdv A outer s H vs Q E hr h => ?_)
  · obtain ⟨v, rfl, _⟩ := h
    rfl
  · obtain ⟨v, rfl, ask, q⟩ := h
    refine ⟨_, PSs.nox (pss_one (ps_ret (pe_and (pe_callB call_isi (by rfl) M.isi (by decide +kernel) (pa_cons (pv 0) (pa_cons (pe_bltn (v := .ty "int") (by rfl) M.int (by decide +kernel) rfl) pa_nil)))
      (pe_and (pe_not (pe_callB call_isi (by rfl) M.isi (by decide +kernel) (pa_cons (pv 0) (pa_cons (pe_bltn (v := .ty "bool") (by rfl) M.bool (by decide +kernel) rfl) pa_nil))))
      (pe_one (pe_cmpR op_lt (pe_callB call_abs (by rfl) M.abs (by decide +kernel) (pa_cons (pv 0) pa_nil)) (pe_glob (v := .int ((10 ^ 50) ^ 4)) (by rfl) gL ⟨tk, rfl⟩) (nomark _))))))), ?_⟩
    obtain ⟨t1, k1, k2⟩ := isi_int ask
    refine ⟨v, rfl, _, _, t1, _, _, rfl, .ty "int", k1, k2, _, rfl, ?_⟩
    cases v with
    | int i =>
      obtain ⟨t2, k3, k4⟩ := isi_bool ask
      exact ⟨_, rfl, _, _, t2, _, _, rfl, .ty "bool", k3, k4, _, rfl, _, rfl, _, rfl, _, rfl, _, _, rfl, rfl, q⟩
    | bl b =>
      obtain ⟨t2, k3, k4⟩ := isi_bool ask
      exact ⟨_, rfl, _, _, t2, _, _, rfl, .ty "bool", k3, k4, _, rfl, _, rfl, q⟩
    | non => exact q
    | str x => exact q
    | ref a => exact q
    | _ => exact ask.elim

theorem ok_is_spelled (F : FnP K "_is_spelled" sIsSpelled f fd) (M : Free mg) : FnOk P w K mg base CX0 1 f fd ["letters", "value"] (spIsSpelled K) := by
  refine F.ok scIsSpelled (fun vs H Q E h => ?_) (fun cdv A outer s H vs Q E hr h => ?_)
  · obtain ⟨x, v, rfl, _⟩ := h
    rfl
  · obtain ⟨x, v, rfl, ask, q⟩ := h
    refine ⟨_, PSs.nox (pss_one (ps_ret (pe_and (pe_callB call_isi (by rfl) M.isi (by decide +kernel) (pa_cons (pv 1) (pa_cons (pe_bltn (v := .ty "str") (by rfl) M.str (by decide +kernel) rfl) pa_nil)))
      (pe_one (pe_cmpR op_eq (pe_bm PySem.F.plainAttrs_str PySem.F.slot_str_strip PySem.F.type_str_strip mt_stripChars (pv 1) (pa_cons (pv 0) pa_nil)) pe_str (nomark _)))))), ?_⟩
    obtain ⟨t1, k1, k2⟩ := isi_str ask
    refine ⟨v, rfl, _, _, t1, _, _, rfl, .ty "str", k1, k2, _, rfl, ?_⟩
    cases v with
    | str y =>
      have hy : y.length ≤ 8000 := ask.1
      have hs : sizeLine = 16777216 := sizeLine_eq
      refine ⟨.str y, rfl, rfl, _, rfl, y, x, rfl, rfl, by omega, rfl, ?_⟩
      have e : decide ((V.str (Txt.stripChars y x)) = V.str (Str.ofString "")) = spelledV x (.str y) := by
        show decide (V.str (Txt.stripChars y x) = V.str ⟨#[]⟩) = decide (Txt.stripChars y x = ⟨#[]⟩)
        simp
      rw [e]
      exact q
    | int i => exact q
    | bl b => exact q
    | non => exact q
    | ref a => exact q
    | _ => exact ask.elim

theorem sum_ones : ∀ l : List Str, (∀ y ∈ l, y.length ≤ 1) → (l.map (·.length)).sum ≤ l.length
  | [], _ => Nat.le_refl _
  | y :: l, h => by
    have a := h y (List.mem_cons_self ..)
    have b := sum_ones l fun z m => h z (List.mem_cons_of_mem _ m)
    simp only [List.map_cons, List.sum_cons, List.length_cons]
    omega
theorem sign_len {x y : Str} (h : y ∈ XSt.signs x) : y.length ≤ 1 := by
  obtain ⟨c, _, rfl⟩ := List.mem_map.mp h
  exact Nat.le_refl _
theorem signs_len (x : Str) : (XSt.signs x).length = x.length := by
  rw [XSt.signs, List.length_map, Array.length_toList]
  rfl
/-- what comes of sorted(set(x)): the sum for join -/
theorem joined_fits {x : Str} {L : List Str} (h : x.length ≤ 8000) (p : L.Perm (once (XSt.signs x))) : ((L.mergeSort sLe).map (·.length)).sum + (L.mergeSort sLe).length * (Str.ofString "").length ≤ 16777216 := by
  have a := once_len (XSt.signs x)
  rw [signs_len] at a
  have b := sum_ones (L.mergeSort sLe) fun y m => sign_len (mem_once.mp (p.mem_iff.mp ((List.mergeSort_perm _ _).mem_iff.mp m)))
  have c : (L.mergeSort sLe).length = (once (XSt.signs x)).length := by rw [List.length_mergeSort, p.length_eq]
  have d : (Str.ofString "").length = 0 := rfl
  rw [d, Nat.mul_zero]
  omega
theorem head_at {x : Str} (h : 1 ≤ x.length) : atI x.cps.toList 0 = some (x.cps.toList.headD 0) := by
  have e : x.cps.toList.length = x.length := by rw [Array.length_toList]; rfl
  cases q : x.cps.toList with
  | nil =>
    rw [q] at e
    simp at e
    omega
  | cons c r => exact atI_nat (j := 0) rfl
theorem last_at {x : Str} (h : 1 ≤ x.length) : atI x.cps.toList (-1) = some (x.cps.toList.getLastD 0) := by
  have e : x.cps.toList.length = x.length := by rw [Array.length_toList]; rfl
  generalize x.cps.toList = l at e ⊢
  have z : ixN l.length (-1) = some (l.length - 1) := by
    unfold ixN
    rw [if_neg (by decide), if_pos (by omega)]
    congr 1
    omega
  unfold atI
  rw [z]
  show l[l.length - 1]? = _
  rw [List.getLastD_eq_getLast?, List.getLast?_eq_getElem?]
  cases q : l[l.length - 1]? with
  | none =>
    have := List.getElem?_eq_none_iff.mp q
    omega
  | some c => rfl
theorem not_below (c d : Nat) : (!decide ([c] < [d])) = decide (d ≤ c) := by
  by_cases h : d ≤ c
  · have : ¬ [c] < [d] := by
      rw [List.cons_lt_cons_iff]
      rintro (z | ⟨_, z⟩)
      · omega
      · exact List.not_lt_nil _ z
    simp [h, this]
  · have : [c] < [d] := List.cons_lt_cons_iff.mpr (Or.inl (by omega))
    simp [h, this]

theorem ok_is_letters (F : FnP K "is_letters" sIsLetters f fd) (Z : Sizes mg) (M : Free mg) : FnOk P w K mg base CX0 1 f fd ["value"] (spIsLetters K) := by
  obtain ⟨tk, gL⟩ := Z.letters
  refine F.ok scIsLetters (fun vs H Q E h => ?_) (fun cdv A outer s H vs Q E hr h => ?_)
  · obtain ⟨v, rfl, _⟩ := h
    rfl
  · obtain ⟨v, rfl, ask, q⟩ := h
    refine ⟨_, PSs.nox (pss_cons (ps_if (PW.pt (pw_or (pt_not (pt_val (pe_callB call_isi (by rfl) M.isi (by decide +kernel) (pa_cons (pv 0) (pa_cons (pe_bltn (v := .ty "str") (by rfl) M.str (by decide +kernel) rfl) pa_nil)))))
        (pw_or1 (pt_not (pt_chain op_le op_le pe_int (pe_callB call_len (by rfl) M.len PySem.boot_len (pa_cons (pv 0) pa_nil)) (pe_glob (v := .int 3) (by rfl) gL ⟨tk, rfl⟩)))))) (pss_one (ps_ret pe_bl)) pss_nil)
      (pss_one (ps_ret (pe_and (pe_cmpR op_eq (pv 0) (pe_bm PySem.F.plainAttrs_str PySem.F.slot_str_join PySem.F.type_str_join mt_join pe_str
          (pa_cons (pe_callB (cr_sortedS rfl hr.units) (by rfl) M.sorted (by decide +kernel) (pa_cons (pe_callTy (cr_setS rfl) (by rfl) M.set (by decide +kernel) (pa_cons (pv 0) pa_nil)) pa_nil)) pa_nil)) (nomark _))
        (pe_and (pe_cmpR op_le_str pe_str (pe_ix ix_str (pv 0) pe_int (fun _ _ => rfl)) (nomark _)) (pe_one (pe_cmpR op_le_str (pe_ix ix_str (pv 0) (pe_un un_neg pe_int) (fun _ _ => rfl)) pe_str (nomark _)))))))), ?_⟩
    obtain ⟨t1, k1, k2⟩ := isi_str ask
    refine ⟨v, rfl, _, _, t1, _, _, rfl, .ty "str", k1, k2, _, rfl, ?_⟩
    cases v with
    | str y =>
      have hy : y.length ≤ 8000 := ask.1
      have hs : sizeLine = 16777216 := sizeLine_eq
      refine ⟨_, rfl, _, y.length, rfl, ⟨by omega, rfl⟩, _, _, rfl, rfl, _, rfl, ?_⟩
      by_cases c1 : 1 ≤ y.length
      · have d1 : decide ((1 : Int) ≤ (y.length : Int)) = true := decide_eq_true (by omega)
        rw [d1]
        refine iteT ⟨_, _, rfl, rfl, _, rfl, ?_⟩
        by_cases c2 : y.length ≤ 3
        · have d2 : decide ((y.length : Int) ≤ 3) = true := decide_eq_true (by omega)
          rw [d2]
          refine iteF ⟨.str y, rfl, rfl, .str y, rfl, .str y, XSt.signs y, rfl, Or.inl ⟨y, rfl, rfl⟩, by rw [signs_len]; show y.length < 4096; omega, fun a L ha pL => ?_⟩
          refine ⟨a, L, rfl, upd_same, fun p hp => ⟨_, p, _, rfl, rfl, Or.inl (SqL.of upd_same), joined_fits hy pL, rfl, _, rfl, ?_⟩⟩
          have same : L.mergeSort sLe = (once (XSt.signs y)).mergeSort sLe := sLe_ord.same pL
          rw [same]
          have ext : Ext H (upd (upd H a (SO (txKit P w) a L)) p (.lst ((L.mergeSort sLe).map V.str))) := ((Ext.refl H).new ha).new hp
          rw [same] at ext
          have d3 : decide (1 ≤ y.length ∧ y.length ≤ 3) = true := decide_eq_true ⟨c1, c2⟩
          have tell : lettersV (.str y) = (decide (y = Txt.join ⟨#[]⟩ ((once (XSt.signs y)).mergeSort sLe)) && (decide (97 ≤ y.cps.toList.headD 0) && decide (y.cps.toList.getLastD 0 ≤ 122))) := by
            show (decide (1 ≤ y.length ∧ y.length ≤ 3) && _) = _
            rw [d3, Bool.true_and]
          have q' := q _ ext
          rw [tell] at q'
          have e1 : decide (V.str y = V.str (Txt.join (Str.ofString "") ((once (XSt.signs y)).mergeSort sLe))) = decide (y = Txt.join ⟨#[]⟩ ((once (XSt.signs y)).mergeSort sLe)) := by
            show decide (V.str y = V.str (Txt.join ⟨#[]⟩ ((once (XSt.signs y)).mergeSort sLe))) = _
            simp
          rw [e1]
          generalize decide (y = Txt.join ⟨#[]⟩ ((once (XSt.signs y)).mergeSort sLe)) = g at q' ⊢
          cases g with
          | false => exact iteF q'
          | true =>
            refine iteT ⟨.str y, rfl, y, 0, _, rfl, rfl, by omega, head_at c1, _, _, rfl, rfl, _, rfl, ?_⟩
            have e2 : (!decide ((⟨#[y.cps.toList.headD 0]⟩ : Str).cps.toList < (Str.ofString "a").cps.toList)) = decide (97 ≤ y.cps.toList.headD 0) := not_below _ 97
            rw [e2]
            generalize decide (97 ≤ y.cps.toList.headD 0) = g2 at q' ⊢
            cases g2 with
            | false => exact iteF q'
            | true =>
              refine iteT ⟨.str y, rfl, 1, rfl, y, -1, _, rfl, rfl, by omega, last_at c1, _, _, rfl, rfl, ?_⟩
              have e3 : (!decide ((Str.ofString "z").cps.toList < (⟨#[y.cps.toList.getLastD 0]⟩ : Str).cps.toList)) = decide (y.cps.toList.getLastD 0 ≤ 122) := not_below 122 _
              rw [e3]
              exact q'
        · have d2 : decide ((y.length : Int) ≤ 3) = false := decide_eq_false (by omega)
          rw [d2]
          refine iteT ?_
          have tell : lettersV (.str y) = false := by
            show (decide (1 ≤ y.length ∧ y.length ≤ 3) && _) = _
            rw [decide_eq_false (fun z => c2 z.2), Bool.false_and]
          have q' := q H (Ext.refl H)
          rw [tell] at q'
          exact q'
      · have d1 : decide ((1 : Int) ≤ (y.length : Int)) = false := decide_eq_false (by omega)
        rw [d1]
        refine iteF ⟨_, rfl, iteT ?_⟩
        have tell : lettersV (.str y) = false := by
          show (decide (1 ≤ y.length ∧ y.length ≤ 3) && _) = _
          rw [decide_eq_false (fun z => c1 z.1), Bool.false_and]
        have q' := q H (Ext.refl H)
        rw [tell] at q'
        exact q'
    | int i => exact q H (Ext.refl H)
    | bl b => exact q H (Ext.refl H)
    | non => exact q H (Ext.refl H)
    | ref a => exact q H (Ext.refl H)
    | _ => exact ask.elim

theorem ok_ordered (F : FnP K "ordered" sOrdered f fd) (M : Free mg) : FnOk P w K mg base CX0 1 f fd ["texts"] (spOrdered K) := by
  refine F.ok scOrdered (fun vs H Q E h => ?_) (fun cdv A outer s H vs Q E hr h => ?_)
  · obtain ⟨v, xs, rfl, _⟩ := h
    rfl
  · obtain ⟨v, xs, rfl, fd, lim, big, q⟩ := h
    refine ⟨_, PSs.nox (pss_one (ps_ret (pe_callTy call_tuple_of (by rfl) M.tuple (by decide +kernel) (pa_cons (pe_sortLen hr.units (by rfl) M.sorted (by rfl) M.len
      (pe_callB (cr_sortedS rfl hr.units) (by rfl) M.sorted (by decide +kernel) (pa_cons (pe_callTy (cr_setS rfl) (by rfl) M.set (by decide +kernel) (pa_cons (pv 0) pa_nil)) pa_nil))) pa_nil)))), ?_⟩
    refine ⟨v, rfl, v, xs, rfl, fd, lim, fun a L ha pL => ⟨a, L, rfl, upd_same, fun p hp => ⟨p, L.mergeSort sLe, rfl, SqL.of upd_same, fun k m => ?_, fun r hr => ⟨r, _, rfl, Or.inl ⟨SqL.of upd_same, fun l hl => ?_⟩⟩⟩⟩⟩
    · rw [sizeLine_eq]
      exact big k (mem_once.mp (pL.mem_iff.mp ((List.mergeSort_perm _ _).mem_iff.mp m)))
    · rw [sLe_ord.same pL, twice_sorted]
      have e1 : Ext H (upd (upd H a (SO (txKit P w) a L)) p (.lst ((L.mergeSort sLe).map V.str))) := ((Ext.refl H).new ha).new hp
      have e2 := e1.new hr (o := .lst (((L.mergeSort sLe).mergeSort lLe).map V.str))
      have e3 := e2.new hl (o := .tup ((ordT xs).map V.str))
      have hl0 : H l = none := by
        cases z : H l with
        | none => rfl
        | some o =>
          have y := hl.symm.trans (e2 _ _ z)
          cases y
      rw [sLe_ord.same pL, twice_sorted] at e3
      exact q l _ hl0 e3 upd_same
end
end B17

/-! words that are right, put in order -/
namespace B17
open PySem PySem.Spec PyProof.Rows L2 XSt NX XB
open PySem.W (Frag)
abbrev sCheckLetters : Stmt := top 23
abbrev sIsWordOf : Stmt := top 19
abbrev sOrderedWords : Stmt := top 22
abbrev sCheckNumber : Stmt := top 25
theorem tyx_ext {K : Frag} {H H' : Hp} (k : Ext H H') {v : V} {t : Value} (h : TyX K H v t) : TyX K H' v t := by
  cases h with
  | base b =>
    refine .base ?_
    cases b with
    | non => exact .non
    | bl x => exact .bl x
    | int x => exact .int x
    | str x => exact .str x
    | flt x => exact .flt x
    | lst e => exact .lst (k _ _ e)
    | frz e => exact .frz (k _ _ e)
    | tup e => exact .tup (k _ _ e)
    | dK e => exact .dK (k _ _ e)
    | dT e => exact .dT (k _ _ e)
    | ins e a b c d g => exact .ins (k _ _ e) a b c d g
  | byt b => exact .byt b
  | set e => exact .set (k _ _ e)
  | kList a b => exact .kList a b
  | kTuple a b => exact .kTuple a b
  | kDict a b => exact .kDict a b
  | fTuple e => exact .fTuple (k _ _ e)
  | fDict e => exact .fDict (k _ _ e)
theorem asked_ext {K : Frag} {H H' : Hp} (k : Ext H H') {v : V} (h : Asked K H v) : Asked K H' v := by
  cases v with
  | ref a =>
    obtain ⟨b, t, h1, h2⟩ := h
    exact ⟨b, t, tyx_ext k h1, h2⟩
  | _ => exact h
theorem sqT_ext {K : Frag} {H H' : Hp} (k : Ext H H') {a : Addr} {xs : List V} (h : SqT K H a xs) : SqT K H' a xs := by
  rcases h with (h | ⟨o, h⟩) | h
  · exact Or.inl (Or.inl (k _ _ h))
  · exact Or.inl (Or.inr ⟨o, k _ _ h⟩)
  · exact Or.inr h
theorem sqL_ext {K : Frag} {H H' : Hp} (k : Ext H H') {a : Addr} {xs : List V} (h : SqL K H a xs) : SqL K H' a xs := by
  rcases h with (h | ⟨o, h⟩) | h
  · exact Or.inl (Or.inl (k _ _ h))
  · exact Or.inl (Or.inr ⟨o, k _ _ h⟩)
  · exact Or.inr h
theorem sqT_ty {K : Frag} {H : Hp} {a : Addr} {xs : List V} (h : SqT K H a xs) : TyX K H (.ref a) (.type "tuple") := by
  rcases h with (h | ⟨o, h⟩) | ⟨o, its, n, h1, h2, _⟩
  · exact .base (.tup h)
  · exact .fTuple h
  · exact .kTuple h1 h2


def wordV (s : Str) (n : Nat) : V → Bool
  | .str y => decide (Txt.stripChars y s = ⟨#[]⟩) && (decide (1 ≤ y.length) && decide (y.length ≤ n))
  | _ => false
/-- letters, and words over them -/
def GoodL (x : Str) : Prop := x.length ≤ 8000 ∧ PyData.strOk x = true ∧ lettersV (.str x) = true
def GoodW (x y : Str) : Prop := y.length ≤ 400 ∧ PyData.strOk y = true ∧ wordV x 400 (.str y) = true
theorem GoodL.ask {K : Frag} {H : Hp} {x : Str} (h : GoodL x) : Asked K H (.str x) := ⟨h.1, h.2.1⟩
theorem GoodW.ask {K : Frag} {H : Hp} {x y : Str} (h : GoodW x y) : Asked K H (.str y) := ⟨Nat.le_trans h.1 (by decide), h.2.1⟩

def spCheckLetters : Sp := fun vs H Q _ => ∃ x, vs = [.str x] ∧ GoodL x ∧ ∀ H', Ext H H' → Q .non H'
def spIsWordOf (K : Frag) : Sp := fun vs H Q _ => ∃ x v, vs = [.str x, v] ∧ Asked K H v ∧ Q (.bl (wordV x 400 v)) H
def spOrderedWords (K : Frag) : Sp := fun vs H Q _ => ∃ x p ys, vs = [.str x, .ref p] ∧ GoodL x ∧ SqT K H p (ys.map V.str) ∧ (∀ y ∈ ys, GoodW x y) ∧ ys.length < 4096 ∧
  ∀ q H', H q = none → Ext H H' → H' q = some (.tup ((ordT ys).map V.str)) → Q (.ref q) H'
def spCheckNumber : Sp := fun vs H Q _ => ∃ i lo hi : Int, vs = [.int i, .int lo, .int hi] ∧ lo ≤ i ∧ i ≤ hi ∧ 0 ≤ lo ∧ hi ≤ 100000 ∧ Q .non H
section
variable {P : Program} {w : World} {K : Frag} {mg : Str → Option Value} {base : Heap} {f fL fS fI fT fW fO : Addr} {fd dL dS dI dT dW dO : FuncData}
theorem scCheckLetters : FnScope ["letters"] ["letters"] (defScope sCheckLetters) := ⟨rfl, rfl, rfl, by decide +kernel, rfl, by decide +kernel, by decide +kernel⟩
theorem scIsWordOf : FnScope ["letters", "value"] ["letters", "value"] (defScope sIsWordOf) := ⟨rfl, rfl, rfl, by decide +kernel, rfl, by decide +kernel, by decide +kernel⟩
theorem scOrderedWords : FnScope ["letters", "words", "word"] ["letters", "words"] (defScope sOrderedWords) := ⟨rfl, rfl, rfl, by decide +kernel, rfl, by decide +kernel, by decide +kernel⟩
theorem scCheckNumber : FnScope ["value", "low", "high"] ["value", "low", "high"] (defScope sCheckNumber) := ⟨rfl, rfl, rfl, by decide +kernel, rfl, by decide +kernel, by decide +kernel⟩

theorem ok_check_letters (F : FnP K "check_letters" sCheckLetters f fd) (FL : FnOk P w K mg base CX0 1 fL dL ["value"] (spIsLetters K)) (gL : mg "is_letters" = some (.ref fL)) (kL : PySem.W.keepIn K (.ref fL) = true) (bL : Binds K dL ["value"] []) :
    FnOk P w K mg base CX0 2 f fd ["letters"] spCheckLetters := by
  refine F.ok scCheckLetters (fun vs H Q E h => ?_) (fun cdv A outer s H vs Q E hr h => ?_)
  · obtain ⟨v, rfl, _⟩ := h
    rfl
  · obtain ⟨x, rfl, g, q⟩ := h
    refine ⟨_, PSs.nox (pss_one (ps_if (pt_not (pt_val (pe_call FL hr (by rfl) gL kL bL .nil pass0 (pa_cons (pv 0) pa_nil)))) (pss_one ps_never) pss_nil)), ?_⟩
    refine ⟨_, rfl, _, rfl, g.ask, fun H' k => ⟨_, rfl, ?_⟩⟩
    rw [g.2.2]
    exact iteF (q H' k)

theorem ok_is_word_of (F : FnP K "_is_word_of" sIsWordOf f fd) (M : Free mg) (Z : Sizes mg)
    (FS : FnOk P w K mg base CX0 1 fS dS ["letters", "value"] (spIsSpelled K)) (gS : mg "_is_spelled" = some (.ref fS)) (kS : PySem.W.keepIn K (.ref fS) = true) (bS : Binds K dS ["letters", "value"] []) :
    FnOk P w K mg base CX0 2 f fd ["letters", "value"] (spIsWordOf K) := by
  obtain ⟨tk, gM⟩ := Z.word
  refine F.ok scIsWordOf (fun vs H Q E h => ?_) (fun cdv A outer s H vs Q E hr h => ?_)
  · obtain ⟨u, v, rfl, _⟩ := h
    rfl
  · obtain ⟨x, v, rfl, a2, q3⟩ := h
    refine ⟨_, PSs.nox (pss_one (ps_ret (pe_and (pe_call FS hr (by rfl) gS kS bS .nil pass0 (pa_cons (pv 0) (pa_cons (pv 1) pa_nil))) (pe_one (pe_chain op_le op_le pe_int (pe_callB call_len (by rfl) M.len PySem.boot_len (pa_cons (pv 1) pa_nil)) (pe_glob (v := .int 400) (by rfl) gM ⟨tk, rfl⟩)))))), ?_⟩
    refine ⟨_, rfl, _, rfl, x, v, rfl, a2, _, rfl, ?_⟩
    cases v with
    | str y =>
      have hy : y.length ≤ 8000 := a2.1
      have hs : sizeLine = 16777216 := sizeLine_eq
      have e : wordV x 400 (.str y) = (spelledV x (.str y) && (decide (1 ≤ y.length) && decide (y.length ≤ 400))) := rfl
      rw [e] at q3
      generalize spelledV x (.str y) = g at q3 ⊢
      cases g with
      | false => exact iteF q3
      | true =>
        refine iteT ⟨.str y, rfl, _, y.length, rfl, ⟨by omega, rfl⟩, _, _, rfl, rfl, _, rfl, ?_⟩
        have e1 : decide ((1 : Int) ≤ (y.length : Int)) = decide (1 ≤ y.length) := by
          by_cases z : 1 ≤ y.length
          · rw [decide_eq_true z, decide_eq_true (by omega)]
          · rw [decide_eq_false z, decide_eq_false (by omega)]
        have e2 : decide ((y.length : Int) ≤ 400) = decide (y.length ≤ 400) := by
          by_cases z : y.length ≤ 400
          · rw [decide_eq_true z, decide_eq_true (by omega)]
          · rw [decide_eq_false z, decide_eq_false (by omega)]
        rw [e1]
        generalize decide (1 ≤ y.length) = g2 at q3 ⊢
        cases g2 with
        | false => exact iteF q3
        | true =>
          refine iteT ⟨_, _, rfl, rfl, ?_⟩
          show Q (.bl (decide ((y.length : Int) ≤ 400))) H
          rw [e2]
          exact q3
    | int i => exact iteF q3
    | bl b => exact iteF q3
    | non => exact iteF q3
    | ref a => exact iteF q3
    | _ => exact a2.elim

theorem ok_check_number (F : FnP K "check_number" sCheckNumber f fd) (FI : FnOk P w K mg base CX0 1 fI dI ["value"] (spIsInteger K)) (gI : mg "is_integer" = some (.ref fI)) (kI : PySem.W.keepIn K (.ref fI) = true) (bI : Binds K dI ["value"] []) :
    FnOk P w K mg base CX0 2 f fd ["value", "low", "high"] spCheckNumber := by
  refine F.ok scCheckNumber (fun vs H Q E h => ?_) (fun cdv A outer s H vs Q E hr h => ?_)
  · obtain ⟨i, lo, hi, rfl, _⟩ := h
    rfl
  · obtain ⟨i, lo, hi, rfl, h1, h2, h3, h4, q⟩ := h
    refine ⟨_, PSs.nox (pss_one (ps_if (PW.pt (pw_or (pt_not (pt_val (pe_call FI hr (by rfl) gI kI bI .nil pass0 (pa_cons (pv 0) pa_nil)))) (pw_or1 (pt_not (pt_chain op_le op_le (pv 1) (pv 0) (pv 2)))))) (pss_one ps_never) pss_nil)), ?_⟩
    refine ⟨_, rfl, _, rfl, trivial, _, rfl, ?_⟩
    have e : longV (.int i) = true := by
      show decide ((if i < 0 then -i else i) < (10 ^ 50) ^ 4) = true
      rw [if_neg (by omega)]
      exact decide_eq_true (Int.lt_of_le_of_lt (show i ≤ 100000 by omega) (by decide +kernel))
    rw [e]
    refine iteF ⟨_, rfl, _, rfl, _, _, rfl, rfl, _, rfl, ?_⟩
    rw [decide_eq_true h1]
    refine iteT ⟨_, rfl, _, _, rfl, rfl, _, rfl, ?_⟩
    rw [decide_eq_true h2]
    exact iteF q

theorem ok_ordered_words (F : FnP K "ordered_words" sOrderedWords f fd) (M : Free mg) (mA : mg "all" = none) (FL : FnOk P w K mg base CX0 2 fL dL ["letters"] spCheckLetters) (gL : mg "check_letters" = some (.ref fL)) (kL : PySem.W.keepIn K (.ref fL) = true) (bL : Binds K dL ["letters"] [])
    (FT : FnOk P w K mg base CX0 2 fT dT ["letters", "value"] (spIsWordOf K)) (gT : mg "_is_word_of" = some (.ref fT)) (kT : PySem.W.keepIn K (.ref fT) = true) (bT : Binds K dT ["letters", "value"] [])
    (FO : FnOk P w K mg base CX0 1 fO dO ["texts"] (spOrdered K)) (gO : mg "ordered" = some (.ref fO)) (kO : PySem.W.keepIn K (.ref fO) = true) (bO : Binds K dO ["texts"] []) :
    FnOk P w K mg base CX0 5 f fd ["letters", "words"] (spOrderedWords K) := by
  refine F.ok scOrderedWords (fun vs H Q E h => ?_) (fun cdv A outer s H vs Q E hr h => ?_)
  · obtain ⟨u, p, ys, rfl, _⟩ := h
    rfl
  · obtain ⟨x, p, ys, rfl, g, sq, all, few, q⟩ := h
    have hs : sizeLine = 16777216 := sizeLine_eq
    refine ⟨_, PSs.nox (pss_cons (ps_expr (pe_call FL (hr.mono (by decide)) (by rfl) gL kL bL .nil pass0 (pa_cons (pv 0) pa_nil)))
      (pss_cons (ps_if (pt_not (pt_val (pe_callB call_isi (by rfl) M.isi (by decide +kernel) (pa_cons (pv 1) (pa_cons (pe_bltn (v := .ty "tuple") (by rfl) M.tuple (by decide +kernel) rfl) pa_nil))))) (pss_one ps_never) pss_nil)
      (pss_cons (ps_if (pt_not (pt_val (pe_callB (cr_all rfl) (by rfl) mA (by decide +kernel) (pa_cons (pe_lc (own := [("word", 2)]) (g := gName 2) (tt := tYes) (te := tCall (spIsWordOf K) [] E0 (tCons (tVar 0) (tCons (tVar 2) tNil))) rfl scOrderedWords.nd (pi_tup (pv 1)) (blkOk_by (N := ["letters", "words", "word"]) (sc := defScope sOrderedWords) (by decide +kernel))
          (fun _ _ _ _ _ => pg_name (i := 2) scOrderedWords.nd rfl (Or.inl rfl)) (fun _ _ _ _ _ => pts_nil) (fun _ _ _ _ _ => by exact pe_call FT (hr.mono (by decide)) (by rfl) gT kT bT .nil pass0 (pa_cons (pv 0) (pa_cons (pv 2) pa_nil)))) pa_nil)))) (pss_one ps_never) pss_nil)
      (pss_one (ps_ret (pe_call FO (hr.mono (by decide)) (by rfl) gO kO bO .nil pass0 (pa_cons (pv 1) pa_nil))))))), ?_⟩
    refine ⟨_, rfl, _, rfl, g, fun H1 k => ?_⟩
    refine ⟨_, rfl, _, _, _, _, _, rfl, .ty "tuple", tyx_ext k (sqT_ty sq), rfl, _, rfl, iteF ?_⟩
    refine ⟨_, rfl, p, rfl, ⟨_, sqT_ext k sq⟩, fun D hD => ?_⟩
    refine lc_it walk_tup (fun i H2 => H2 D = some (.lst (((ys.take i).map fun y => wordV x 400 (.str y)).map V.bl)) ∧ Ext H1 H2) ⟨upd_same, (Ext.refl _).new hD⟩ (fun i H2 _ z => sqT_ext z.2 (sqT_ext k sq)) ?_ ?_
    · rintro i v H2 H3 hi ⟨f1, f2⟩ ⟨rfl, ex⟩
      rw [List.getElem?_map] at ex
      cases g1 : ys[i]? with
      | none => rw [g1] at ex; cases ex
      | some y =>
        rw [g1] at ex
        obtain rfl : V.str y = v := Option.some.inj ex
        refine ⟨rfl, _, rfl, _, rfl, x, .str y, rfl, (all y (List.mem_of_getElem? g1)).ask, ?_⟩
        refine ⟨_, f1, by rw [List.length_map, List.length_map]; have := List.length_take_le i ys; have := (List.getElem?_eq_some_iff.mp g1).1; omega, ?_, fun b u e => ?_⟩
        · rw [take_more g1, List.map_append, List.map_append]
          exact upd_same
        · rw [upd_ne (ne_of_none e hD)]
          exact f2 b u e
    · rintro H2 ⟨f1, f2⟩
      rw [List.length_map, List.take_length] at f1
      refine ⟨D, ys.map fun y => wordV x 400 (.str y), rfl, SqL.of f1, _, rfl, ?_⟩
      have e : ((ys.map fun y => wordV x 400 (.str y)).all id) = true := by
        rw [List.all_map, List.all_eq_true]
        exact fun y my => (all y my).2.2
      rw [e]
      have k2 := k.trans f2
      refine iteF ⟨_, rfl, _, ys, rfl, Or.inr ⟨p, rfl, Or.inl (sqT_ext k2 sq)⟩, few, fun y my => Nat.le_trans (all y my).1 (by decide), fun r H3 hr k3 e3 => ?_⟩
      refine q r H3 ?_ (k2.trans k3) e3
      cases z : H r with
      | none => rfl
      | some o =>
        rw [k2 _ _ z] at hr
        cases hr
end
end B17

/-! what is refused of names -/
namespace B17
open PySem PySem.Spec PyProof.Rows L2 XSt NX XB
open PySem.W (Frag)
/-- an own class of error without an own __init__ -/
structure Plain (K : Frag) (mg : Str → Option Value) (x : Str) (C : Addr) : Prop where
  at_ : mg x = some (.ref C)
  keep : PySem.W.keepIn K (.ref C) = true
  exc : PySem.W.excIn K C [.type "ValueError", .type "Exception", .type "BaseException", .type "object"] "ValueError.__new__" = true
  sub : PySem.W.subIn K (.ref C) (.type "BaseException") = some true
  ty : PySem.W.typeIn K (.ref C) = some (.type "type")
structure Refusals (K : Frag) (mg : Str → Option Value) (cL cW cO : Addr) : Prop where
  letters : Plain K mg "InvalidLetters" cL
  word : Plain K mg "InvalidWord" cW
  operation : Plain K mg "InvalidOperation" cO
def NoTuple (K : Frag) (H : Hp) (v : V) : Prop := ∃ t, TyX K H v t ∧ PySem.W.kitOne K t (.type "tuple") = some false
def spCheckLettersX (K : Frag) (cL : Addr) : Sp := fun vs H Q E => ∃ v, vs = [v] ∧ Asked K H v ∧ (lettersV v = true → ∀ H', Ext H H' → Q .non H') ∧ (lettersV v = false → ∀ H', Ext H H' → E (.ref cL) none H')
theorem letters_txt {u : V} (h : lettersV u = true) : ∃ x, u = .str x := by
  cases u with
  | str x => exact ⟨x, rfl⟩
  | _ => cases h
section
variable {P : Program} {w : World} {K : Frag} {mg : Str → Option Value} {base : Heap} {f fL fS fI fT fR fO : Addr} {fd dL dS dI dT dR dO : FuncData} {cL cW cO : Addr}
theorem ok_check_lettersX (F : FnP K "check_letters" sCheckLetters f fd) (RL : Plain K mg "InvalidLetters" cL) (FL : FnOk P w K mg base CX0 1 fL dL ["value"] (spIsLetters K)) (gL : mg "is_letters" = some (.ref fL)) (kL : PySem.W.keepIn K (.ref fL) = true) (bL : Binds K dL ["value"] []) :
    FnOk P w K mg base (L2.CX P w) 2 f fd ["letters"] (spCheckLettersX K cL) := by
  refine F.ok scCheckLetters (fun vs H Q E h => ?_) (fun cdv A outer s H vs Q E hr h => ?_)
  · obtain ⟨v, rfl, _⟩ := h
    rfl
  · obtain ⟨v, rfl, ask, q1, q2⟩ := h
    refine ⟨_, pss_one (ps_if (pt_not (pt_val (pe_call FL hr (by rfl) gL kL bL .nil pass0 (pa_cons (pv 0) pa_nil)))) (pss_one (ps_raise rfl (takes_of rfl rfl rfl rfl) (pmk_own PySem.F.excBase_ValueError RL.exc RL.at_ RL.keep (raises_own RL.sub RL.ty) (by exact rfl)))) pss_nil), ?_⟩
    refine ⟨v, rfl, v, rfl, ask, fun H' k => ⟨_, rfl, ?_⟩⟩
    cases c : lettersV v with
    | true => exact iteF (q1 c H' k)
    | false => exact iteT (q2 c H' k)

def spOrderedWordsX (K : Frag) (cL cW cO : Addr) : Sp := fun vs H Q E => ∃ u v, vs = [u, v] ∧ Asked K H u ∧
  ((lettersV u = false ∧ ∀ H', Ext H H' → E (.ref cL) none H') ∨
   (lettersV u = true ∧ NoTuple K H v ∧ ∀ H', Ext H H' → E (.ref cO) none H') ∨
   ∃ x p zs, u = .str x ∧ lettersV u = true ∧ v = .ref p ∧ SqT K H p zs ∧ zs.length < 4096 ∧ (∀ z ∈ zs, Asked K H z) ∧
    (((∃ z ∈ zs, wordV x 400 z = false) ∧ ∀ H', Ext H H' → E (.ref cW) none H') ∨
     ∃ ys : List Str, zs = ys.map V.str ∧ (∀ y ∈ ys, wordV x 400 (.str y) = true) ∧ ys.length < 4096 ∧ ∀ q H', H q = none → Ext H H' → H' q = some (.tup ((ordT ys).map V.str)) → Q (.ref q) H'))
theorem ok_ordered_wordsX (F : FnP K "ordered_words" sOrderedWords f fd) (M : Free mg) (mA : mg "all" = none) (R : Refusals K mg cL cW cO) (FL : FnOk P w K mg base (L2.CX P w) 2 fL dL ["letters"] (spCheckLettersX K cL)) (gL : mg "check_letters" = some (.ref fL)) (kL : PySem.W.keepIn K (.ref fL) = true) (bL : Binds K dL ["letters"] [])
    (FT : FnOk P w K mg base CX0 2 fT dT ["letters", "value"] (spIsWordOf K)) (gT : mg "_is_word_of" = some (.ref fT)) (kT : PySem.W.keepIn K (.ref fT) = true) (bT : Binds K dT ["letters", "value"] [])
    (FO : FnOk P w K mg base CX0 1 fO dO ["texts"] (spOrdered K)) (gO : mg "ordered" = some (.ref fO)) (kO : PySem.W.keepIn K (.ref fO) = true) (bO : Binds K dO ["texts"] []) :
    FnOk P w K mg base (L2.CX P w) 5 f fd ["letters", "words"] (spOrderedWordsX K cL cW cO) := by
  refine F.ok scOrderedWords (fun vs H Q E h => ?_) (fun cdv A outer s H vs Q E hr h => ?_)
  · obtain ⟨u, v, rfl, _⟩ := h
    rfl
  · obtain ⟨u, v, rfl, a1, modes⟩ := h
    refine ⟨_, pss_cons (ps_expr (pe_call FL (hr.mono (by decide)) (by rfl) gL kL bL .nil (passes_call (takes_of rfl rfl rfl rfl) (fun _ _ _ _ z => z)) (pa_cons (pv 0) pa_nil)))
      (pss_cons (ps_if (pt_not (pt_val (pe_callB call_isi (by rfl) M.isi (by decide +kernel) (pa_cons (pv 1) (pa_cons (pe_bltn (v := .ty "tuple") (by rfl) M.tuple (by decide +kernel) rfl) pa_nil)))))
        (pss_one (ps_raise rfl (takes_of rfl rfl rfl rfl) (pmk_own PySem.F.excBase_ValueError R.operation.exc R.operation.at_ R.operation.keep (raises_own R.operation.sub R.operation.ty) (by exact rfl)))) pss_nil)
      (pss_cons (ps_if (pt_not (pt_val (pe_callB (cr_all rfl) (by rfl) mA (by decide +kernel) (pa_cons (pe_lc (own := [("word", 2)]) (g := gName 2) (tt := tYes) (te := tCall (spIsWordOf K) [] E0 (tCons (tVar 0) (tCons (tVar 2) tNil))) rfl scOrderedWords.nd (pi_tup (pv 1)) (blkOk_by (N := ["letters", "words", "word"]) (sc := defScope sOrderedWords) (by decide +kernel))
          (fun _ _ _ _ _ => pg_name (i := 2) scOrderedWords.nd rfl (Or.inl rfl)) (fun _ _ _ _ _ => pts_nil) (fun _ _ _ _ _ => by exact pe_call FT (hr.mono (by decide)) (by rfl) gT kT bT .nil pass0 (pa_cons (pv 0) (pa_cons (pv 2) pa_nil)))) pa_nil))))
        (pss_one (ps_raise rfl (takes_of rfl rfl rfl rfl) (pmk_own PySem.F.excBase_ValueError R.word.exc R.word.at_ R.word.keep (raises_own R.word.sub R.word.ty) (by exact rfl)))) pss_nil)
      (pss_one (ps_ret (pe_call FO (hr.mono (by decide)) (by rfl) gO kO bO .nil pass0 (pa_cons (pv 1) pa_nil)))))), ?_⟩
    refine ⟨u, rfl, u, rfl, a1, fun c H' k => ?_, fun c H' k => ?_⟩
    · rcases modes with ⟨m, _⟩ | ⟨_, ⟨t, n1, n2⟩, q⟩ | ⟨x, p, zs, rfl, _, rfl, sq, lz, all, rest⟩
      · rw [c] at m
        cases m
      · exact ⟨v, rfl, _, _, t, _, _, rfl, .ty "tuple", tyx_ext k n1, n2, _, rfl, iteT (q _ k)⟩
      · refine ⟨_, rfl, _, _, _, _, _, rfl, .ty "tuple", tyx_ext k (sqT_ty sq), rfl, _, rfl, iteF ?_⟩
        refine ⟨_, rfl, p, rfl, ⟨_, sqT_ext k sq⟩, fun D hD => ?_⟩
        have hs : sizeLine = 16777216 := sizeLine_eq
        refine lc_it walk_tup (fun i H2 => H2 D = some (.lst (((zs.take i).map fun y => wordV x 400 y).map V.bl)) ∧ Ext H' H2) ⟨upd_same, (Ext.refl _).new hD⟩ (fun i H2 _ z => sqT_ext z.2 (sqT_ext k sq)) ?_ ?_
        · rintro i v H2 H3 hi ⟨f1, f2⟩ ⟨rfl, ex⟩
          refine ⟨rfl, _, rfl, _, rfl, x, v, rfl, asked_ext f2 (asked_ext k (all v (List.mem_of_getElem? ex))), ?_⟩
          refine ⟨_, f1, by rw [List.length_map, List.length_map]; have := List.length_take_le i zs; have := (List.getElem?_eq_some_iff.mp ex).1; omega, ?_, fun b u e => ?_⟩
          · rw [take_more ex, List.map_append, List.map_append]
            exact upd_same
          · rw [upd_ne (ne_of_none e hD)]
            exact f2 b u e
        · rintro H2 ⟨f1, f2⟩
          rw [List.take_length] at f1
          refine ⟨D, zs.map fun y => wordV x 400 y, rfl, SqL.of f1, _, rfl, ?_⟩
          have k2 := k.trans f2
          rcases rest with ⟨⟨z, mz, bad⟩, q⟩ | ⟨ys, rfl, fine, few, q⟩
          · have e : ((zs.map fun y => wordV x 400 y).all id) = false := by
              rw [List.all_map, List.all_eq_false]
              exact ⟨z, mz, by show ¬ wordV x 400 z = true; rw [bad]; decide⟩
            rw [e]
            exact iteT (q _ k2)
          · have e : (((ys.map V.str).map fun y => wordV x 400 y).all id) = true := by
              rw [List.all_map, List.all_eq_true]
              intro y my
              obtain ⟨y', my', rfl⟩ := List.mem_map.mp my
              exact fine y' my'
            rw [e]
            refine iteF ⟨_, rfl, _, ys, rfl, Or.inr ⟨p, rfl, Or.inl (sqT_ext k2 sq)⟩, few, fun y my => ?_, fun r H3 hr k3 e3 => ?_⟩
            · have z := fine y my
              have z2 : (decide (Txt.stripChars y x = ⟨#[]⟩) && (decide (1 ≤ y.length) && decide (y.length ≤ 400))) = true := z
              rw [Bool.and_eq_true, Bool.and_eq_true, decide_eq_true_eq, decide_eq_true_eq, decide_eq_true_eq] at z2
              omega
            · refine q r H3 ?_ (k2.trans k3) e3
              cases z : H r with
              | none => rfl
              | some o =>
                rw [k2 _ _ z] at hr
                cases hr
    · rcases modes with ⟨_, q⟩ | ⟨m, _⟩ | ⟨x, p, zs, rfl, m, _⟩
      · exact q H' k
      · rw [c] at m
        cases m
      · rw [c] at m
        cases m
end
end B17

/-! a word that is right -/
namespace B17
open PySem PySem.Spec PyProof.Rows L2 XSt NX XB
open PySem.W (Frag)
def spIsWord (K : Frag) : Sp := fun vs H Q _ => ∃ x v, vs = [.str x, v] ∧ GoodL x ∧ Asked K H v ∧ ∀ H', Ext H H' → Q (.bl (wordV x 400 v)) H'
def spCheckWord : Sp := fun vs H Q _ => ∃ x y, vs = [.str x, .str y] ∧ GoodL x ∧ GoodW x y ∧ ∀ H', Ext H H' → Q .non H'
section
variable {P : Program} {w : World} {K : Frag} {mg : Str → Option Value} {base : Heap} {f fL fS fI fT fW fO : Addr} {fd dL dS dI dT dW dO : FuncData}
end
end B17

/-! what is refused of words -/
namespace B17
open PySem PySem.Spec PyProof.Rows L2 XSt NX XB
open PySem.W (Frag)
def spIsWordX (K : Frag) (cL : Addr) : Sp := fun vs H Q E => ∃ u v, vs = [u, v] ∧ Asked K H u ∧ Asked K H v ∧ (lettersV u = false → ∀ H', Ext H H' → E (.ref cL) none H') ∧ (∀ x, u = .str x → lettersV u = true → ∀ H', Ext H H' → Q (.bl (wordV x 400 v)) H')
def spCheckWordX (K : Frag) (cW : Addr) : Sp := fun vs H Q E => ∃ x v, vs = [.str x, v] ∧ Asked K H (.str x) ∧ Asked K H v ∧ lettersV (.str x) = true ∧ (wordV x 400 v = true → ∀ H', Ext H H' → Q .non H') ∧ (wordV x 400 v = false → ∀ H', Ext H H' → E (.ref cW) none H')
section
variable {P : Program} {w : World} {K : Frag} {mg : Str → Option Value} {base : Heap} {f fL fS fI fT fR fO : Addr} {fd dL dS dI dT dR dO : FuncData} {cL cW cO : Addr}
end
end B17

/-! beginnings and ends of texts -/
namespace XSt
open PySem PySem.Spec PyProof.Rows L2
def cs (x : Str) : List Nat := x.cps.toList
theorem cs_inj {x y : Str} (h : cs x = cs y) : x = y := str_by h
theorem cs_len (x : Str) : (cs x).length = x.length := by
  unfold cs
  rw [Array.length_toList]
  rfl
theorem sub_list (x y : Str) (i : Nat) : Builtin.Str.subAt x y i = decide (((cs x).drop i).take y.length = cs y) := by
  unfold Builtin.Str.subAt
  apply Bool.eq_iff_iff.mpr
  rw [beq_iff_eq, decide_eq_true_eq]
  have e : (x.cps.extract i (i + y.length)).toList = ((cs x).drop i).take y.length := by
    rw [Array.toList_extract, List.extract_eq_take_drop]
    rw [Nat.add_sub_cancel_left]
    rfl
  constructor
  · intro h
    rw [← e, h]
    rfl
  · intro h
    apply Array.toList_inj.mp
    rw [e, h]
    rfl
theorem starts_iff {x y : Str} : Txt.startswith x y = true ↔ cs y <+: cs x := by
  unfold Txt.startswith
  rw [Bool.and_eq_true, decide_eq_true_eq, sub_list, decide_eq_true_eq, List.drop_zero, List.prefix_iff_eq_take, cs_len]
  constructor
  · rintro ⟨_, h⟩
    exact h.symm
  · intro h
    refine ⟨?_, h.symm⟩
    have z := congrArg List.length h
    rw [cs_len, List.length_take, cs_len] at z
    omega
theorem ends_iff {x y : Str} : Txt.endswith x y = true ↔ cs y <:+ cs x := by
  unfold Txt.endswith
  rw [Bool.and_eq_true, decide_eq_true_eq, sub_list, decide_eq_true_eq, List.suffix_iff_eq_drop, cs_len, cs_len]
  constructor
  · rintro ⟨h1, h⟩
    rw [← h, List.take_of_length_le]
    rw [List.length_drop, cs_len]
    omega
  · intro h
    have z := congrArg List.length h
    rw [cs_len, List.length_drop, cs_len] at z
    refine ⟨by omega, ?_⟩
    rw [← h, List.take_of_length_le (by rw [cs_len]; exact Nat.le_refl _)]
theorem cs_rev (x : Str) : cs (revS x) = (cs x).reverse := by
  unfold cs revS
  exact Array.toList_reverse
theorem rev_inj {x y : Str} (h : revS x = revS y) : x = y := by
  have z := congrArg cs h
  rw [cs_rev, cs_rev] at z
  exact cs_inj (List.reverse_inj.mp z)
theorem rev_len (x : Str) : (revS x).length = x.length := by
  rw [← cs_len, ← cs_len, cs_rev, List.length_reverse]
/-- some one begins the one behind it -/
def adjB (l : List Str) : Bool := (l.zip l.tail).any fun p => Txt.startswith p.2 p.1
/-- none begins another one -/
def NoPre (l : List Str) : Prop := ∀ x ∈ l, ∀ y ∈ l, x ≠ y → ¬ cs x <+: cs y
def NoSuf (l : List Str) : Prop := ∀ x ∈ l, ∀ y ∈ l, x ≠ y → ¬ cs x <:+ cs y
theorem pair_mem {l : List Str} {p : Str × Str} (h : p ∈ l.zip l.tail) : p.1 ∈ l ∧ p.2 ∈ l := by
  obtain ⟨a, b⟩ := List.of_mem_zip h
  exact ⟨a, List.mem_of_mem_tail b⟩
theorem pair_ne : ∀ {l : List Str} {p : Str × Str}, l.Nodup → p ∈ l.zip l.tail → p.1 ≠ p.2
  | [], _, _, h => by simp at h
  | [_], _, _, h => by simp at h
  | x :: y :: l, p, nd, h => by
    rw [List.tail_cons, List.zip_cons_cons] at h
    rcases List.mem_cons.mp h with e | h
    · subst e
      exact fun e => (List.nodup_cons.mp nd).1 (by rw [show x = y from e]; exact List.mem_cons_self ..)
    · exact pair_ne (List.nodup_cons.mp nd).2 h
theorem adj_none {l : List Str} (nd : l.Nodup) (h : NoPre l) : adjB l = false := by
  unfold adjB
  rw [List.any_eq_false]
  intro p m
  obtain ⟨a, b⟩ := pair_mem m
  intro z
  exact h _ a _ b (pair_ne nd m) (starts_iff.mp z)
theorem NoPre.perm {l m : List Str} (h : NoPre l) (e : ∀ x, x ∈ m ↔ x ∈ l) : NoPre m := fun x hx y hy n => h x ((e x).mp hx) y ((e y).mp hy) n
theorem NoSuf.perm {l m : List Str} (h : NoSuf l) (e : ∀ x, x ∈ m ↔ x ∈ l) : NoSuf m := fun x hx y hy n => h x ((e x).mp hx) y ((e y).mp hy) n
theorem NoSuf.rev {l : List Str} (h : NoSuf l) : NoPre (l.map revS) := by
  intro x hx y hy n z
  obtain ⟨a, ha, rfl⟩ := List.mem_map.mp hx
  obtain ⟨b, hb, rfl⟩ := List.mem_map.mp hy
  rw [cs_rev, cs_rev, List.reverse_prefix] at z
  exact h a ha b hb (fun e => n (by rw [e])) z
theorem nodup_rev {l : List Str} (h : l.Nodup) : (l.map revS).Nodup := by
  refine List.pairwise_map.mpr (h.imp fun {a b} n e => n (rev_inj e))
theorem ordT_nodup (l : List Str) : (ordT l).Nodup := ((List.mergeSort_perm _ _).nodup_iff).mpr (nodup_once l)
theorem ordT_len (l : List Str) : (ordT l).length ≤ l.length := by
  unfold ordT
  rw [List.length_mergeSort]
  exact once_len l

def rStarts : V → List V → Hp → VK → Prop := fun x xs H Q => ∃ a b, x = .str a ∧ xs = [.str b] ∧ Q (.bl (Txt.startswith a b)) H
theorem mt_starts {X : Cx} : MtR X "str.startswith" rStarts := mt_startswith
def rEnds : V → List V → Hp → VK → Prop := fun x xs H Q => ∃ a b, x = .str a ∧ xs = [.str b] ∧ Q (.bl (Txt.endswith a b)) H
theorem mt_ends {X : Cx} : MtR X "str.endswith" rEnds := mt_endswith
theorem cut_one (xs : List V) : cutV xs (some 1) none = xs.drop 1 := by
  unfold cutV
  have e1 : HT.sIx xs.length 0 (some 1) = min 1 xs.length := HT.sIx_nat xs.length 0 1
  rw [e1, HT.sIx_none]
  cases xs with
  | nil => rfl
  | cons x r =>
    have e2 : min 1 (x :: r).length = 1 := by
      rw [List.length_cons]
      omega
    rw [e2]
    simp
end XSt

/-! whether words clash -/
namespace B17
open PySem PySem.Spec PyProof.Rows L2 XSt NX XB
open PySem.W (Frag)
abbrev sSomeBegins : Stmt := top 31
abbrev sFirstClash : Stmt := top 30
def spSomeBegins (K : Frag) : Sp := fun vs H Q _ => ∃ (p : Addr) (ks : List Str), vs = [.ref p] ∧ (SqL K H p (ks.map V.str) ∨ SqT K H p (ks.map V.str)) ∧ ks.length ≤ 4096 ∧ ∀ H', Ext H H' → Q (.bl (adjB (ks.mergeSort sLe))) H'
/-- where no two clash -/
def spNoClash (K : Frag) : Sp := fun vs H Q _ => ∃ (p : Addr) (ks : List Str), vs = [.ref p] ∧ SqT K H p (ks.map V.str) ∧ ks.length ≤ 4096 ∧ (∀ k ∈ ks, k.length ≤ 4096) ∧ ks.Nodup ∧ NoPre ks ∧ NoSuf ks ∧ ∀ H', Ext H H' → Q .non H'
theorem free_back {H H' : Hp} (k : Ext H H') {p : Addr} (h : H' p = none) : H p = none := by
  cases e : H p with
  | none => rfl
  | some o =>
    rw [k _ _ e] at h
    cases h
section
variable {P : Program} {w : World} {K : Frag} {mg : Str → Option Value} {base : Heap} {f fS : Addr} {fd dS : FuncData}
theorem scSomeBegins : FnScope ["words", "rows", "word", "behind"] ["words"] (defScope sSomeBegins) := ⟨rfl, rfl, rfl, by decide +kernel, rfl, by decide +kernel, by decide +kernel⟩
theorem scFirstClash : FnScope ["words", "word", "at", "one", "other"] ["words"] (defScope sFirstClash) := ⟨rfl, rfl, rfl, by decide +kernel, rfl, by decide +kernel, by decide +kernel⟩
theorem ok_some_begins (F : FnP K "_some_begins" sSomeBegins f fd) (M : Free mg) (mA : mg "any" = none) (mZ : mg "zip" = none) : FnOk P w K mg base CX0 1 f fd ["words"] (spSomeBegins K) := by
  refine F.ok scSomeBegins (fun vs H Q E h => ?_) (fun cdv A outer s H vs Q E hr h => ?_)
  · obtain ⟨p, ks, rfl, _⟩ := h
    rfl
  · obtain ⟨p, ks, rfl, sq, few, q⟩ := h
    have hs : sizeLine = 16777216 := sizeLine_eq
    refine ⟨_, PSs.nox (pss_cons (ps_set (i := 1) scSomeBegins.nd rfl (.inl rfl) (pe_callB (cr_sortT hr.units) (by rfl) M.sorted (by decide +kernel) (pa_cons (pv 0) pa_nil)))
      (pss_one (ps_ret (pe_callB (cr_any rfl) (by rfl) mA (by decide +kernel) (pa_cons (pe_lc (own := [("word", 2), ("behind", 3)]) (g := gTup K 2 (gCons (gName 2) (gCons (gName 3) gNil))) (tt := tYes) (te := tBM K "str" rStarts (tVar 3) (tCons (tVar 2) tNil)) rfl scSomeBegins.nd
        (pi_zip (by rfl) mZ (pa_cons (pv 1) (pa_cons (pe_slice sl_list (pv 1) (po_some pe_int) po_none) pa_nil)))
        (blkOk_by (N := ["words", "rows", "word", "behind"]) (sc := defScope sSomeBegins) (by decide +kernel))
        (fun _ _ _ _ _ => by exact pg_tup (by rfl) (pgs_cons (pg_name (i := 2) scSomeBegins.nd rfl (Or.inl rfl)) (pgs_cons (pg_name (i := 3) scSomeBegins.nd rfl (Or.inl rfl)) pgs_nil)))
        (fun _ _ _ _ _ => pts_nil) (fun _ _ _ _ _ => by exact pe_bm PySem.F.plainAttrs_str PySem.F.slot_str_startswith PySem.F.type_str_startswith mt_starts (pv 3) (pa_cons (pv 2) pa_nil))) pa_nil))))), ?_⟩
    refine ⟨_, rfl, p, ks, rfl, sq, by omega, fun r hr0 => ?_⟩
    have ext1 : Ext H (upd H r (.lst ((ks.mergeSort sLe).map V.str))) := (Ext.refl H).new hr0
    have e1 : (upd H r (.lst ((ks.mergeSort sLe).map V.str))) r = some (.lst ((ks.mergeSort sLe).map V.str)) := upd_same
    have len1 : (ks.mergeSort sLe).length = ks.length := List.length_mergeSort _
    generalize ks.mergeSort sLe = l at ext1 e1 len1 q ⊢
    generalize upd H r (.lst (l.map V.str)) = H1 at ext1 e1 ⊢
    refine ⟨_, rfl, _, rfl, 1, rfl, r, _, rfl, SqL.of e1, fun c hc => ?_⟩
    rw [cut_one]
    have ext2 : Ext H1 (upd H1 c (.lst ((l.map V.str).drop 1))) := (Ext.refl H1).new hc
    have e2 : (upd H1 c (.lst ((l.map V.str).drop 1))) c = some (.lst (l.tail.map V.str)) := by
      rw [List.drop_one, ← List.map_tail]
      exact upd_same
    generalize upd H1 c (.lst ((l.map V.str).drop 1)) = H2 at ext2 e2 ⊢
    refine ⟨r, c, l.map V.str, l.tail.map V.str, rfl, SqL.of (ext2 _ _ e1), SqL.of e2, fun D hD => ?_⟩
    have zl : (l.zip l.tail).length = min (l.map V.str).length (l.tail.map V.str).length := by
      rw [List.length_zip, List.length_map, List.length_map]
    refine lc_it (walk_zip zl) (fun i H3 => H3 D = some (.lst (((l.zip l.tail).take i).map fun p => V.bl (Txt.startswith p.2 p.1))) ∧ Ext H2 H3) ⟨upd_same, (Ext.refl _).new hD⟩ (fun i H3 _ z => ⟨SqL.of (z.2 _ _ (ext2 _ _ e1)), SqL.of (z.2 _ _ e2)⟩) ?_ ?_
    · rintro i x H3 H4 hi ⟨f1, f2⟩ ⟨T, u, v, rfl, hT, rfl, gu, gv⟩
      have gu : (l.map V.str)[i]? = some u := gu
      have gv : (l.tail.map V.str)[i]? = some v := gv
      rw [List.getElem?_map] at gu gv
      cases g1 : l[i]? with
      | none => rw [g1] at gu; cases gu
      | some a =>
        cases g2 : l.tail[i]? with
        | none => rw [g2] at gv; cases gv
        | some b =>
          rw [g1] at gu
          rw [g2] at gv
          obtain rfl := Option.some.inj gu
          obtain rfl := Option.some.inj gv
          have gz : (l.zip l.tail)[i]? = some (a, b) := by
            rw [List.getElem?_zip_eq_some]
            exact ⟨g1, g2⟩
          have nTD : D ≠ T := ne_of_none f1 hT
          refine ⟨T, _, rfl, SqT.of upd_same, rfl, _, _, rfl, _, _, rfl, rfl, rfl, ?_⟩
          refine ⟨_, rfl, rfl, _, rfl, b, a, rfl, rfl, ?_⟩
          refine ⟨_, by rw [upd_ne nTD]; exact f1, by rw [List.length_map]; have h8 := List.length_take_le i (l.zip l.tail); have h9 : (l.zip l.tail).length ≤ l.length := (by rw [List.length_zip]; exact Nat.min_le_left _ _); omega, ?_, fun z o e => ?_⟩
          · rw [take_more gz, List.map_append]
            exact upd_same
          · have y := f2 z o e
            rw [upd_ne (ne_of_none e hD), upd_ne (ne_of_none y hT)]
            exact y
    · rintro H3 ⟨f1, f2⟩
      rw [List.take_length] at f1
      refine ⟨D, (l.zip l.tail).map fun p => Txt.startswith p.2 p.1, rfl, SqL.of (by rw [List.map_map]; exact f1), ?_⟩
      have e3 : ((l.zip l.tail).map fun p => Txt.startswith p.2 p.1).any id = adjB l := by
        unfold adjB
        rw [List.any_map]
        rfl
      rw [e3]
      exact q _ ((ext1.trans ext2).trans f2)

theorem ok_no_clash (F : FnP K "first_clash" sFirstClash f fd) (FS : FnOk P w K mg base CX0 1 fS dS ["words"] (spSomeBegins K)) (gS : mg "_some_begins" = some (.ref fS)) (kS : PySem.W.keepIn K (.ref fS) = true) (bS : Binds K dS ["words"] []) :
    FnOk P w K mg base CX0 2 f fd ["words"] (spNoClash K) := by
  refine F.ok scFirstClash (fun vs H Q E h => ?_) (fun cdv A outer s H vs Q E hr h => ?_)
  · obtain ⟨p, ks, rfl, _⟩ := h
    rfl
  · obtain ⟨p, ks, rfl, sq, few, short, nd, np, ns, q⟩ := h
    have hs : sizeLine = 16777216 := sizeLine_eq
    refine ⟨_, PSs.nox (pss_cons (ps_if (PW.pt (pw_and (pt_not (pt_val (pe_call FS hr (by rfl) gS kS bS .nil pass0 (pa_cons (pv 0) pa_nil)))) (pw_and1 (pt_not (pt_val (pe_call FS hr (by rfl) gS kS bS .nil pass0
        (pa_cons (pe_lc (own := [("word", 1)]) (g := gName 1) (tt := tYes) (te := tRevS (tVar 1)) rfl scFirstClash.nd (pi_tup (pv 0)) (blkOk_by (N := ["words", "word", "at", "one", "other"]) (sc := defScope sFirstClash) (by decide +kernel))
          (fun _ _ _ _ _ => pg_name (i := 1) scFirstClash.nd rfl (Or.inl rfl)) (fun _ _ _ _ _ => pts_nil) (fun _ _ _ _ _ => by exact pe_revS (pv 1))) pa_nil))))))) (pss_one (ps_ret pe_non)) pss_nil)
      (pss_cons ps_never (pss_one ps_never))), ?_⟩
    refine ⟨_, rfl, p, ks, rfl, Or.inr sq, few, fun H1 k1 => ⟨_, rfl, ?_⟩⟩
    have a1 : adjB (ks.mergeSort sLe) = false := adj_none ((List.mergeSort_perm _ _).nodup_iff.mpr nd) (np.perm fun x => (List.mergeSort_perm _ _).mem_iff)
    rw [a1]
    refine iteT ⟨_, rfl, p, rfl, ⟨_, sqT_ext k1 sq⟩, fun D hD => ?_⟩
    refine lc_it walk_tup (fun i H2 => H2 D = some (.lst (((ks.take i).map revS).map V.str)) ∧ Ext H1 H2) ⟨upd_same, (Ext.refl _).new hD⟩ (fun i H2 _ z => sqT_ext z.2 (sqT_ext k1 sq)) ?_ ?_
    · rintro i x H2 H3 hi ⟨f1, f2⟩ ⟨rfl, ex⟩
      rw [List.getElem?_map] at ex
      cases g : ks[i]? with
      | none => rw [g] at ex; cases ex
      | some k =>
        rw [g] at ex
        obtain rfl : V.str k = x := Option.some.inj ex
        have sk := short k (List.mem_of_getElem? g)
        refine ⟨rfl, _, rfl, k, rfl, by omega, ?_⟩
        refine ⟨_, f1, by rw [List.length_map, List.length_map]; have := List.length_take_le i ks; rw [List.length_map] at hi; omega, ?_, fun b u e => ?_⟩
        · rw [take_more g, List.map_append, List.map_append]
          exact upd_same
        · rw [upd_ne (ne_of_none e hD)]
          exact f2 b u e
    · rintro H2 ⟨f1, f2⟩
      rw [List.length_map, List.take_length] at f1
      refine ⟨D, ks.map revS, rfl, Or.inl (SqL.of f1), by rw [List.length_map]; exact few, fun H3 k3 => ⟨_, rfl, ?_⟩⟩
      have a2 : adjB ((ks.map revS).mergeSort sLe) = false := adj_none ((List.mergeSort_perm _ _).nodup_iff.mpr (nodup_rev nd)) (ns.rev.perm fun x => (List.mergeSort_perm _ _).mem_iff)
      rw [a2]
      exact iteT (q _ ((k1.trans f2).trans k3))
end
end B17

/-! texts as data -/
namespace XSt
open PySem PySem.Spec PyProof.Rows L2
open PySem.W (Frag)
/-! lists of texts as data -/
theorem dpa_txt {K : Frag} {H : Hp} : ∀ l : List Str, DpAll K H (l.map V.str) (l.map PyData.str)
  | [] => .nil
  | x :: l => .cons (.str x) (dpa_txt l)
theorem txt_can : ∀ l : List Str, (∀ x ∈ l, PyData.strOk x = true) → PyData.canLayAll0 (l.map PyData.str) = true
  | [], _ => by simp [PyData.canLayAll0]
  | x :: l, h => by
    rw [List.map_cons, PyData.canLayAll0, txt_can l fun y m => h y (List.mem_cons_of_mem _ m)]
    simp [PyData.canLay0, h x (List.mem_cons_self ..)]
theorem txt_depth : ∀ l : List Str, PyData.depthAll (l.map PyData.str) = 0
  | [] => by simp [PyData.depthAll]
  | x :: l => by
    rw [List.map_cons, PyData.depthAll, txt_depth l]
    simp [PyData.depth]
theorem txt_shaped {l : List Str} (h : ∀ x ∈ l, PyData.strOk x = true) : SeqAt.shaped (.list (l.map PyData.str)) = true := by
  unfold SeqAt.shaped
  rw [Bool.and_eq_true, decide_eq_true_eq]
  refine ⟨?_, ?_⟩
  · show PyData.canLayAll0 _ = true
    exact txt_can l h
  · rw [PyData.depth, txt_depth]
    omega
theorem txt_shapedT {l : List Str} (h : ∀ x ∈ l, PyData.strOk x = true) : SeqAt.shaped (.tuple (l.map PyData.str)) = true := by
  unfold SeqAt.shaped
  rw [Bool.and_eq_true, decide_eq_true_eq]
  refine ⟨?_, ?_⟩
  · show PyData.canLayAll0 _ = true
    exact txt_can l h
  · rw [PyData.depth, txt_depth]
    omega
theorem txt_nil (l : List Str) : PyData.eqv (.list (l.map PyData.str)) (.list []) = l.isEmpty := by
  cases l <;> simp [PyData.eqv, PyData.eqvAll]


theorem txt_eqvAll : ∀ xs ys : List Str, PyData.eqvAll (xs.map PyData.str) (ys.map PyData.str) = decide (xs = ys)
  | [], [] => by simp [PyData.eqvAll]
  | [], _ :: _ => by simp [PyData.eqvAll]
  | _ :: _, [] => by simp [PyData.eqvAll]
  | x :: xs, y :: ys => by
    have ih := txt_eqvAll xs ys
    have e : (x == y) = decide (x = y) := by
      apply Bool.eq_iff_iff.mpr
      rw [beq_iff_eq, decide_eq_true_eq]
    simp only [List.map_cons, PyData.eqvAll, PyData.eqv, ih, List.cons.injEq, Bool.decide_and, e]
theorem txt_eqvT (xs ys : List Str) : PyData.eqv (.tuple (xs.map PyData.str)) (.tuple (ys.map PyData.str)) = decide (xs = ys) := by
  simp only [PyData.eqv]
  exact txt_eqvAll xs ys
theorem txt_eqvL (xs ys : List Str) : PyData.eqv (.list (xs.map PyData.str)) (.list (ys.map PyData.str)) = decide (xs = ys) := by
  simp only [PyData.eqv]
  exact txt_eqvAll xs ys
/-- a small number as a text -/
def numS (n : Nat) : Str := toString (n : Int)
theorem numS_len {n : Nat} (h : n ≤ 4096) : (numS n).length ≤ 6 := by
  unfold numS
  rw [PySem.ofString_length]
  exact int_text_length_le10 (k := 5) (by decide) (by show n < 10 ^ 5; omega)
theorem log_small {n : Nat} (h : n ≤ 4096) : ((n : Int)).natAbs.log2 < 1920 := by
  show n.log2 < 1920
  by_cases z : n = 0
  · rw [z]
    decide
  · exact (Nat.log2_lt z).mpr (Nat.lt_of_le_of_lt h (by decide +kernel))
theorem app_len (a b : Str) : (a ++ b).length = a.length + b.length := PySem.Str.length_append a b
end XSt

/-! books -/
namespace B17
open PySem PySem.Spec PyProof.Rows L2 XSt NX XB
open PySem.W (Frag)
abbrev sBook : Stmt := top 28
abbrev sInit : Stmt := inClass sBook 0
abbrev sGetLetters : Stmt := inClass sBook 2
abbrev sGetWords : Stmt := inClass sBook 3
abbrev sGetLongest : Stmt := inClass sBook 4
abbrev sHas : Stmt := inClass sBook 5
abbrev sAt : Stmt := inClass sBook 6
abbrev sLen : Stmt := inClass sBook 7
abbrev sEq : Stmt := inClass sBook 9
abbrev sStr : Stmt := inClass sBook 10
abbrev FnM (K : Frag) (x q : Str) (st : Stmt) (f : Addr) (fd : FuncData) : Prop := FunD K x q (defArgs st) (defBody st) (defScope st) [] [] f fd
/-- what the text has of the class -/
structure BookK (K : Frag) (C : Addr) : Prop where
  cls : Cls K C
  nl : NoAttr K C "_letters"
  nw : NoAttr K C "_words"
  nk : NoAttr K C "_known"
  c1 : PySem.W.findIn K (.ref C) "__class__" = some (some (.builtin "object.__class__"))
  c2 : PySem.W.specialIn K (.builtin "object.__class__") "__get__" = some (some (.builtin "getset_descriptor.__get__"))
  c3 : PySem.W.takesIn K (.builtin "object.__class__") = some true
  c4 : PySem.W.mroIn K C (.type "object") = some true
  own : PySem.W.kitOne K (.ref C) (.ref C) = some true
  noStr : PySem.W.kitOne K (.ref C) (.type "str") = some false
  others : ∀ T ∈ (["NoneType", "int", "bool", "str", "tuple", "list", "dict"] : List String), PySem.W.kitOne K (.type T) (.ref C) = some false ∧ PySem.W.notFirst K C (.type T) = true
def bookF (x : Str) (p d : Addr) : List (Str × V) := [("_letters", .str x), ("_words", .ref p), ("_known", .ref d)]
def knownK (ws : List Str) : List (L2.Key × V) := ws.map fun k => (Sum.inr k, .bl true)
/-- at b: the book of the letters x and the set ws -/
def BookAt (H : Hp) (b C : Addr) (x : Str) (ws : List Str) : Prop := ∃ dx p d, H b = some (.ins C dx (bookF x p d)) ∧ H p = some (.tup (ws.map V.str)) ∧ H d = some (.dK (knownK ws))
theorem BookAt.ext {H H' : Hp} (k : Ext H H') {b C : Addr} {x : Str} {ws : List Str} (h : BookAt H b C x ws) : BookAt H' b C x ws := by
  obtain ⟨dx, p, d, h1, h2, h3⟩ := h
  exact ⟨dx, p, d, k _ _ h1, k _ _ h2, k _ _ h3⟩
theorem BookAt.ty {K : Frag} {H : Hp} {b C : Addr} {x : Str} {ws : List Str} (B : BookK K C) (h : BookAt H b C x ws) : TyX K H (.ref b) (.ref C) := by
  obtain ⟨dx, p, d, h1, h2, h3⟩ := h
  exact .base (.ins h1 B.cls B.c1 B.c2 B.c3 B.c4)
theorem fresh_take : ∀ {ws : List Str} {i : Nat} {k : Str}, ws.Nodup → ws[i]? = some k → ¬ k ∈ ws.take i
  | [], _, _, _, g => by simp at g
  | w :: ws, 0, k, nd, g => by simp
  | w :: ws, i + 1, k, nd, g => by
    have g' : ws[i]? = some k := by simpa using g
    rw [List.take_succ_cons]
    intro m
    rcases List.mem_cons.mp m with e | m
    · exact (List.nodup_cons.mp nd).1 (e ▸ List.mem_of_getElem? g')
    · exact fresh_take (List.nodup_cons.mp nd).2 g' m
theorem known_val (z : Str) : ∀ ws : List Str, (valV (knownK ws) (Sum.inr z)).isSome = decide (z ∈ ws)
  | [] => rfl
  | k :: ws => by
    have ih := known_val z ws
    show (valV ((Sum.inr k, V.bl true) :: knownK ws) (Sum.inr z)).isSome = _
    by_cases e : k = z
    · rw [valV_pos (p := (Sum.inr k, V.bl true)) (by rw [e]), e]
      simp
    · rw [valV_neg (p := (Sum.inr k, V.bl true)) (fun y => e (Sum.inr.inj y)), ih]
      have n : ¬ z = k := fun y => e y.symm
      simp [n]
def spInit (K : Frag) (C : Addr) : Sp := fun vs H Q _ => ∃ (b dx p : Addr) (x : Str) (ys : List Str), vs = [.ref b, .str x, .ref p] ∧ H b = some (.ins C dx []) ∧ GoodL x ∧ SqT K H p (ys.map V.str) ∧ p ≠ b ∧ (∀ y ∈ ys, GoodW x y) ∧ ys.length < 4096 ∧ (ordT ys).length ≤ 400 ∧ NoPre ys ∧ NoSuf ys ∧
  ∀ H', (∀ c o, c ≠ b → H c = some o → H' c = some o) → BookAt H' b C x (ordT ys) → Q .non H'
def spLetters (C : Addr) : Sp := fun vs H Q _ => ∃ b x ws, vs = [.ref b] ∧ BookAt H b C x ws ∧ Q (.str x) H
def spWords (C : Addr) : Sp := fun vs H Q _ => ∃ b x ws, vs = [.ref b] ∧ BookAt H b C x ws ∧ ∀ p, H p = some (.tup (ws.map V.str)) → Q (.ref p) H
def lastLen (ws : List Str) : Nat := ((ws.getLast?).map (·.length)).getD 0
def spLongest (C : Addr) : Sp := fun vs H Q _ => ∃ b x ws, vs = [.ref b] ∧ BookAt H b C x ws ∧ (∀ k ∈ ws, k.length ≤ 400) ∧ Q (.int (lastLen ws : Nat)) H
def inBook (ws : List Str) : V → Bool
  | .str z => decide (z ∈ ws)
  | _ => false
/-- what may be asked about: a value of another kind, or a book -/
def AskB (K : Frag) (H : Hp) (C : Addr) (v : V) : Prop := Asked K H v ∨ ∃ b x ws, v = .ref b ∧ BookAt H b C x ws
def spHas (K : Frag) (C : Addr) : Sp := fun vs H Q _ => ∃ b x ws v, vs = [.ref b, v] ∧ BookAt H b C x ws ∧ AskB K H C v ∧ Q (.bl (inBook ws v)) H
def spAt (C : Addr) : Sp := fun vs H Q _ => ∃ b x ws k, ∃ i : Nat, vs = [.ref b, .int (i : Int)] ∧ BookAt H b C x ws ∧ ws.length ≤ 4096 ∧ ws[i]? = some k ∧ Q (.str k) H
def spLen (C : Addr) : Sp := fun vs H Q _ => ∃ b x ws, vs = [.ref b] ∧ BookAt H b C x ws ∧ ws.length ≤ 4096 ∧ Q (.int (ws.length : Nat)) H
/-- a value that is no book -/
inductive NoBook (K : Frag) (H : Hp) : V → Prop where
  | non : NoBook K H .non
  | bl (b : Bool) : NoBook K H (.bl b)
  | int (i : Int) : NoBook K H (.int i)
  | str (z : Str) : NoBook K H (.str z)
  | seq {a : Addr} {T : String} (h : TyX K H (.ref a) (.type T)) (m : T ∈ (["tuple", "list", "dict"] : List String)) : NoBook K H (.ref a)
def spEq (K : Frag) (C : Addr) : Sp := fun vs H Q _ => ∃ b x ws, ∃ v, vs = [.ref b, v] ∧ BookAt H b C x ws ∧ ws.length ≤ 4096 ∧ (∀ k ∈ ws, PyData.strOk k = true) ∧
  ((NoBook K H v ∧ Q (.bl false) H) ∨ ∃ b' y zs, v = .ref b' ∧ BookAt H b' C y zs ∧ zs.length ≤ 4096 ∧ (∀ k ∈ zs, PyData.strOk k = true) ∧ Q (.bl (decide (x = y) && decide (ws = zs))) H)
def told (n : Nat) (x : Str) : Str := Str.empty ++ Str.ofString "book of " ++ numS n ++ Str.ofString " words over " ++ x
def spStr (C : Addr) : Sp := fun vs H Q _ => ∃ b x ws, vs = [.ref b] ∧ BookAt H b C x ws ∧ ws.length ≤ 4096 ∧ x.length ≤ 8000 ∧ Q (.str (told ws.length x)) H
theorem noBook_ty {K : Frag} {H : Hp} {v : V} (h : NoBook K H v) : ∃ T ∈ (["NoneType", "int", "bool", "str", "tuple", "list", "dict"] : List String), TyX K H v (.type T) := by
  cases h with
  | non => exact ⟨_, by simp, .base .non⟩
  | bl b => exact ⟨"bool", by simp, .base (.bl b)⟩
  | int i => exact ⟨"int", by simp, .base (.int i)⟩
  | str z => exact ⟨"str", by simp, .base (.str z)⟩
  | seq h m => exact ⟨_, by simp only [List.mem_cons, List.not_mem_nil, or_false] at m ⊢; rcases m with rfl | rfl | rfl <;> simp, h⟩
theorem last_ix {ws : List Str} {k : Str} (h : ws.getLast? = some k) : atI (ws.map V.str) (-1) = some (.str k) := by
  have ne : ws ≠ [] := fun e => by rw [e] at h; cases h
  have pos : 0 < ws.length := List.length_pos_iff.mpr ne
  have z : ixN (ws.map V.str).length (-1) = some (ws.length - 1) := by
    rw [List.length_map]
    unfold ixN
    rw [if_neg (by decide), if_pos (by omega)]
    congr 1
    omega
  unfold atI
  rw [z]
  show (ws.map V.str)[ws.length - 1]? = _
  rw [List.getElem?_map, ← List.getLast?_eq_getElem?, h]
  rfl
section
variable {P : Program} {w : World} {K : Frag} {mg : Str → Option Value} {base : Heap} {f fO fC fN C : Addr} {fd dO dC dN : FuncData}
theorem scInit : FnScope ["self", "letters", "words", "different", "clash", "word"] ["self", "letters", "words"] (defScope sInit) := ⟨rfl, rfl, rfl, by decide +kernel, rfl, by decide +kernel, by decide +kernel⟩
theorem scGetLetters : FnScope ["self"] ["self"] (defScope sGetLetters) := ⟨rfl, rfl, rfl, by decide +kernel, rfl, by decide +kernel, by decide +kernel⟩
theorem scGetWords : FnScope ["self"] ["self"] (defScope sGetWords) := ⟨rfl, rfl, rfl, by decide +kernel, rfl, by decide +kernel, by decide +kernel⟩
theorem scGetLongest : FnScope ["self"] ["self"] (defScope sGetLongest) := ⟨rfl, rfl, rfl, by decide +kernel, rfl, by decide +kernel, by decide +kernel⟩
theorem scHas : FnScope ["self", "value"] ["self", "value"] (defScope sHas) := ⟨rfl, rfl, rfl, by decide +kernel, rfl, by decide +kernel, by decide +kernel⟩
theorem scAt : FnScope ["self", "index"] ["self", "index"] (defScope sAt) := ⟨rfl, rfl, rfl, by decide +kernel, rfl, by decide +kernel, by decide +kernel⟩
theorem scLen : FnScope ["self"] ["self"] (defScope sLen) := ⟨rfl, rfl, rfl, by decide +kernel, rfl, by decide +kernel, by decide +kernel⟩
theorem scEq : FnScope ["self", "other"] ["self", "other"] (defScope sEq) := ⟨rfl, rfl, rfl, by decide +kernel, rfl, by decide +kernel, by decide +kernel⟩
theorem scStr : FnScope ["self"] ["self"] (defScope sStr) := ⟨rfl, rfl, rfl, by decide +kernel, rfl, by decide +kernel, by decide +kernel⟩

theorem ok_init (F : FnM K "__init__" "Book.__init__" sInit f fd) (B : BookK K C) (M : Free mg) (gW : ∃ t, mg "MAX_WORDS" = some (.int 400 t))
    (FO : FnOk P w K mg base CX0 5 fO dO ["letters", "words"] (spOrderedWords K)) (gO : mg "ordered_words" = some (.ref fO)) (kO : PySem.W.keepIn K (.ref fO) = true) (bO : Binds K dO ["letters", "words"] [])
    (FC : FnOk P w K mg base CX0 2 fC dC ["words"] (spNoClash K)) (gC : mg "first_clash" = some (.ref fC)) (kC : PySem.W.keepIn K (.ref fC) = true) (bC : Binds K dC ["words"] []) :
    FnOk P w K mg base CX0 6 f fd ["self", "letters", "words"] (spInit K C) := by
  obtain ⟨tk, gW⟩ := gW
  refine F.ok scInit (fun vs H Q E h => ?_) (fun cdv A outer s H vs Q E hr h => ?_)
  · obtain ⟨b, dx, p, x, ys, rfl, _⟩ := h
    rfl
  · obtain ⟨b, dx, p, x, ys, rfl, eb, gl, sq, npb, gw, few, lim, np, ns, q⟩ := h
    have hs : sizeLine = 16777216 := sizeLine_eq
    refine ⟨_, PSs.nox (pss_cons (ps_set (i := 3) scInit.nd rfl (.inl rfl) (pe_call FO hr (by rfl) gO kO bO .nil pass0 (pa_cons (pv 1) (pa_cons (pv 2) pa_nil))))
      (pss_cons (ps_if (pt_cmpR op_gt (pe_callB call_len_seq (by rfl) M.len PySem.boot_len (pa_cons (pv 3) pa_nil)) (pe_glob (v := .int 400) (by rfl) gW ⟨tk, rfl⟩) (nomark _)) (pss_one ps_never) pss_nil)
      (pss_cons (ps_set (i := 4) scInit.nd rfl (.inl rfl) (pe_call FC (hr.mono (by decide)) (by rfl) gC kC bC .nil pass0 (pa_cons (pv 3) pa_nil)))
      (pss_cons (ps_if (pt_cmpR op_notN (pv 4) pe_non (nomark _)) (pss_one ps_never) pss_nil)
      (pss_cons (ps_fld (pv 0) (pv 1) rfl) (pss_cons (ps_fld (pv 0) (pv 3) rfl)
      (pss_one (ps_fld (pv 0) (pe_dc (own := [("word", 5)]) (g := gName 5) (tt := tYes) (tk := tVar 5) (tv := tC (.bl true)) rfl scInit.nd (pi_tup (pv 3)) (blkOk_by (N := ["self", "letters", "words", "different", "clash", "word"]) (sc := defScope sInit) (by decide +kernel))
        (fun _ _ _ _ _ => pg_name (i := 5) scInit.nd rfl (Or.inl rfl)) (fun _ _ _ _ _ => pts_nil) (fun _ _ _ _ _ => pv 5) (fun _ _ _ _ _ => pe_bl)) rfl)))))))), ?_⟩
    refine ⟨_, rfl, _, rfl, x, p, ys, rfl, gl, sq, gw, few, fun d H1 hd k1 e1 => ?_⟩
    have eb1 := k1 _ _ eb
    have nbd : d ≠ b := fun z => by
      rw [z, eb] at hd
      cases hd
    refine ⟨_, rfl, d, _, rfl, .inr (SqT.of e1), _, _, rfl, rfl, _, rfl, ?_⟩
    rw [List.length_map, decide_eq_false (show ¬ (((ordT ys).length : Int) > 400) by omega)]
    refine iteF ⟨_, rfl, d, ordT ys, rfl, SqT.of e1, by omega, fun k m => Nat.le_trans (gw k (ordT_mem.mp m)).1 (by decide), ordT_nodup ys, np.perm (fun _ => ordT_mem), ns.perm (fun _ => ordT_mem), fun H2 k2 => ?_⟩
    have eb2 := k2 _ _ eb1
    have e2 := k2 _ _ e1
    refine ⟨.non, rfl, rfl, _, rfl, iteF ?_⟩
    refine ⟨_, rfl, _, rfl, b, C, dx, [], rfl, eb2, B.cls, B.nl, by decide, ?_⟩
    refine ⟨_, rfl, _, rfl, b, C, dx, [("_letters", .str x)], rfl, upd_same, B.cls, B.nw, (by show 1 < 1000; decide), ?_⟩
    generalize eH3 : upd (upd H2 b (.ins C dx (putF "_letters" (.str x) []))) b (.ins C dx (putF "_words" (.ref d) [("_letters", .str x)])) = H3
    have off : ∀ c o, c ≠ b → H c = some o → H3 c = some o := fun c o n e => by
      rw [← eH3, upd_ne n, upd_ne n]
      exact k2 _ _ (k1 _ _ e)
    have e3 : H3 d = some (.tup ((ordT ys).map V.str)) := by
      rw [← eH3, upd_ne nbd, upd_ne nbd]
      exact e2
    have eb3 : H3 b = some (.ins C dx [("_letters", .str x), ("_words", .ref d)]) := by
      rw [← eH3]
      exact upd_same
    refine ⟨_, rfl, d, rfl, ⟨_, SqT.of e3⟩, fun D hD => ?_⟩
    have nDd : d ≠ D := ne_of_none e3 hD
    have nDb : b ≠ D := ne_of_none eb3 hD
    have nd := ordT_nodup ys
    have inW : ∀ k, k ∈ ordT ys → k ∈ ys := fun k m => ordT_mem.mp m
    generalize ordT ys = ws at e3 lim nd q inW ⊢
    refine dc_tup (K := K) (a := d) (xs := ws.map V.str) (fun i H4 => H4 D = some (.dK (knownK (ws.take i))) ∧ Ext H3 H4) ⟨upd_same, (Ext.refl _).new hD⟩ (fun i H4 _ z => SqT.of (z.2 _ _ e3)) ?_ ?_
    · rintro i v H4 ev ⟨f1, f2⟩
      rw [List.getElem?_map] at ev
      cases g : ws[i]? with
      | none => rw [g] at ev; cases ev
      | some k =>
        rw [g] at ev
        obtain rfl : V.str k = v := Option.some.inj ev
        have new : valV (knownK (ws.take i)) (Sum.inr k) = none := by
          have y := known_val k (ws.take i)
          have nm : ¬ k ∈ ws.take i := fresh_take nd g
          rw [decide_eq_false nm] at y
          cases z : valV (knownK (ws.take i)) (Sum.inr k) with
          | none => rfl
          | some u => rw [z] at y; cases y
        refine ⟨rfl, _, rfl, _, Sum.inr k, rfl, f1, by unfold knownK; rw [List.length_map]; have := List.length_take_le i ws; have := (List.getElem?_eq_some_iff.mp g).1; omega, ?_, fun c o e => ?_⟩
        · rw [putK_new _ new, take_more g]
          unfold knownK
          rw [List.map_append]
          exact upd_same
        · rw [upd_ne (ne_of_none e hD)]
          exact f2 _ _ e
    · rintro H4 ⟨f1, f2⟩
      rw [List.length_map, List.take_length] at f1
      refine ⟨_, rfl, b, C, dx, _, rfl, f2 _ _ eb3, B.cls, B.nk, (by show 2 < 1000; decide), ?_⟩
      refine q _ (fun c o n e => ?_) ⟨dx, d, D, upd_same, ?_, ?_⟩
      · rw [upd_ne n]
        exact f2 _ _ (off c o n e)
      · rw [upd_ne nbd]
        exact f2 _ _ e3
      · rw [upd_ne nDb.symm]
        exact f1

theorem ok_get_letters (F : FnM K "letters" "Book.letters" sGetLetters f fd) (B : BookK K C) : FnOk P w K mg base CX0 1 f fd ["self"] (spLetters C) := by
  refine F.ok scGetLetters (fun vs H Q E h => ?_) (fun cdv A outer s H vs Q E hr h => ?_)
  · obtain ⟨b, x, ws, rfl, _⟩ := h
    rfl
  · obtain ⟨b, x, ws, rfl, ⟨dx, p, d, h1, h2, h3⟩, q⟩ := h
    exact ⟨_, PSs.nox (pss_one (ps_ret (pe_fld (pv 0) rfl))), _, rfl, b, C, dx, _, _, rfl, h1, B.cls, B.nl, rfl, q⟩
theorem ok_get_words (F : FnM K "words" "Book.words" sGetWords f fd) (B : BookK K C) : FnOk P w K mg base CX0 1 f fd ["self"] (spWords C) := by
  refine F.ok scGetWords (fun vs H Q E h => ?_) (fun cdv A outer s H vs Q E hr h => ?_)
  · obtain ⟨b, x, ws, rfl, _⟩ := h
    rfl
  · obtain ⟨b, x, ws, rfl, ⟨dx, p, d, h1, h2, h3⟩, q⟩ := h
    exact ⟨_, PSs.nox (pss_one (ps_ret (pe_fld (pv 0) rfl))), _, rfl, b, C, dx, _, _, rfl, h1, B.cls, B.nw, rfl, q p h2⟩
theorem ok_get_longest (F : FnM K "longest" "Book.longest" sGetLongest f fd) (B : BookK K C) (M : Free mg) : FnOk P w K mg base CX0 1 f fd ["self"] (spLongest C) := by
  refine F.ok scGetLongest (fun vs H Q E h => ?_) (fun cdv A outer s H vs Q E hr h => ?_)
  · obtain ⟨b, x, ws, rfl, _⟩ := h
    rfl
  · obtain ⟨b, x, ws, rfl, ⟨dx, p, d, h1, h2, h3⟩, short, q⟩ := h
    have hs : sizeLine = 16777216 := sizeLine_eq
    refine ⟨_, PSs.nox (pss_one (ps_ret (pe_ifExp (pt_truth (pe_fld (pv 0) rfl) (by intro _; rfl)) (pe_callB call_len (by rfl) M.len PySem.boot_len (pa_cons (pe_ix ix_tup (pe_fld (pv 0) rfl) (pe_un un_neg pe_int) (fun _ _ => rfl)) pa_nil)) pe_int))), ?_⟩
    refine ⟨_, rfl, b, C, dx, _, _, rfl, h1, B.cls, B.nw, rfl, _, Or.inr (Or.inl ⟨_, SqT.of h2, rfl⟩), ?_⟩
    cases g : ws.getLast? with
    | none =>
      have e : ws = [] := List.getLast?_eq_none_iff.mp g
      subst e
      exact iteF q
    | some k =>
      have ne : (!(ws.map V.str).isEmpty) = true := by
        cases ws with
        | nil => cases g
        | cons a l => rfl
      rw [ne]
      have mk : k ∈ ws := List.mem_of_getLast? g
      have e : lastLen ws = k.length := by
        unfold lastLen
        rw [g]
        rfl
      rw [e] at q
      refine iteT ⟨_, rfl, b, C, dx, _, _, rfl, h1, B.cls, B.nw, rfl, 1, rfl, p, _, _, _, rfl, rfl, SqT.of h2, last_ix g, _, k.length, rfl, ⟨by have := short k mk; omega, rfl⟩, q⟩
theorem ok_has (F : FnM K "__contains__" "Book.__contains__" sHas f fd) (B : BookK K C) (M : Free mg) : FnOk P w K mg base CX0 1 f fd ["self", "value"] (spHas K C) := by
  refine F.ok scHas (fun vs H Q E h => ?_) (fun cdv A outer s H vs Q E hr h => ?_)
  · obtain ⟨b, x, ws, v, rfl, _⟩ := h
    rfl
  · obtain ⟨b, x, ws, v, rfl, ⟨dx, p, d, h1, h2, h3⟩, ask, q⟩ := h
    refine ⟨_, PSs.nox (pss_one (ps_ret (pe_and (pe_callB call_isi (by rfl) M.isi (by decide +kernel) (pa_cons (pv 1) (pa_cons (pe_bltn (v := .ty "str") (by rfl) M.str (by decide +kernel) rfl) pa_nil)))
      (pe_one (pe_cmp (pc_din (hu_of hr) (pv 1) (pe_fld (pv 0) rfl)) rfl))))), ?_⟩
    rcases ask with ask | ⟨b', x', ws', rfl, bk⟩
    · obtain ⟨t1, k1, k2⟩ := isi_str ask
      refine ⟨_, rfl, _, _, t1, _, _, rfl, .ty "str", k1, k2, _, rfl, ?_⟩
      cases v with
      | str z =>
        refine iteT ⟨_, rfl, _, rfl, b, C, dx, _, _, rfl, h1, B.cls, B.nk, rfl, d, _, rfl, DGet.k (k := Sum.inr z) h3, ?_⟩
        rw [known_val]
        exact q
      | int i => exact iteF q
      | bl b => exact iteF q
      | non => exact iteF q
      | ref a => exact iteF q
      | _ => exact ask.elim
    · exact ⟨_, rfl, _, _, _, _, _, rfl, .ty "str", bk.ty B, B.noStr, _, rfl, iteF q⟩
theorem ok_at (F : FnM K "__getitem__" "Book.__getitem__" sAt f fd) (B : BookK K C) (M : Free mg) (FN : FnOk P w K mg base CX0 2 fN dN ["value", "low", "high"] spCheckNumber) (gN : mg "check_number" = some (.ref fN)) (kN : PySem.W.keepIn K (.ref fN) = true) (bN : Binds K dN ["value", "low", "high"] []) :
    FnOk P w K mg base CX0 3 f fd ["self", "index"] (spAt C) := by
  refine F.ok scAt (fun vs H Q E h => ?_) (fun cdv A outer s H vs Q E hr h => ?_)
  · obtain ⟨b, x, ws, k, i, rfl, _⟩ := h
    rfl
  · obtain ⟨b, x, ws, k, i, rfl, ⟨dx, p, d, h1, h2, h3⟩, few, g, q⟩ := h
    have hi : i < ws.length := (List.getElem?_eq_some_iff.mp g).1
    refine ⟨_, PSs.nox (pss_cons (ps_expr (pe_call FN hr (by rfl) gN kN bN .nil pass0 (pa_cons (pv 1) (pa_cons pe_int (pa_cons (pe_op op_sub (pe_callB call_len_seq (by rfl) M.len PySem.boot_len (pa_cons (pe_fld (pv 0) rfl) pa_nil)) pe_int) pa_nil)))))
      (pss_one (ps_ret (pe_ix ix_tup (pe_fld (pv 0) rfl) (pv 1) (fun _ _ => rfl))))), ?_⟩
    refine ⟨_, rfl, _, rfl, b, C, dx, _, _, rfl, h1, B.cls, B.nw, rfl, p, _, rfl, .inr (SqT.of h2), _, _, rfl, rfl, _, _, _, rfl, by omega, by rw [List.length_map]; omega, by omega, by rw [List.length_map]; omega, ?_⟩
    exact ⟨_, rfl, b, C, dx, _, _, rfl, h1, B.cls, B.nw, rfl, _, rfl, p, _, _, _, rfl, rfl, SqT.of h2, atI_nat (v := .str k) (by rw [List.getElem?_map, g]; rfl), q⟩
theorem ok_len (F : FnM K "__len__" "Book.__len__" sLen f fd) (B : BookK K C) (M : Free mg) : FnOk P w K mg base CX0 1 f fd ["self"] (spLen C) := by
  refine F.ok scLen (fun vs H Q E h => ?_) (fun cdv A outer s H vs Q E hr h => ?_)
  · obtain ⟨b, x, ws, rfl, _⟩ := h
    rfl
  · obtain ⟨b, x, ws, rfl, ⟨dx, p, d, h1, h2, h3⟩, few, q⟩ := h
    refine ⟨_, PSs.nox (pss_one (ps_ret (pe_callB call_len_seq (by rfl) M.len PySem.boot_len (pa_cons (pe_fld (pv 0) rfl) pa_nil)))), ?_⟩
    refine ⟨_, rfl, b, C, dx, _, _, rfl, h1, B.cls, B.nw, rfl, p, _, rfl, .inr (SqT.of h2), ?_⟩
    rw [List.length_map]
    exact q
theorem ok_eq (F : FnM K "__eq__" "Book.__eq__" sEq f fd) (B : BookK K C) (M : Free mg) (gB : mg "Book" = some (.ref C)) : FnOk P w K mg base CX0 1 f fd ["self", "other"] (spEq K C) := by
  refine F.ok scEq (fun vs H Q E h => ?_) (fun cdv A outer s H vs Q E hr h => ?_)
  · obtain ⟨b, x, ws, v, rfl, _⟩ := h
    rfl
  · obtain ⟨b, x, ws, v, rfl, ⟨dx, p, d, h1, h2, h3⟩, few, ok1, way⟩ := h
    refine ⟨_, PSs.nox (pss_one (ps_ret (pe_and (pe_callB call_isi (by rfl) M.isi (by decide +kernel) (pa_cons (pv 1) (pa_cons (pe_glob (v := .ref C) (by rfl) gB rfl) pa_nil)))
      (pe_and (pe_cmpR op_eq (pe_fld (pv 0) rfl) (pe_fld (pv 1) rfl) (nomark _)) (pe_one (pe_cmpR (op_eqD hr.units) (pe_fld (pv 0) rfl) (pe_fld (pv 1) rfl) (nomark _))))))), ?_⟩
    rcases way with ⟨nb, q⟩ | ⟨b', y, zs, rfl, bk, few', ok2, q⟩
    · obtain ⟨T, mT, ty⟩ := noBook_ty nb
      exact ⟨_, rfl, _, _, _, _, _, rfl, .own C, ty, (B.others T mT).1, _, rfl, iteF q⟩
    · have ty := bk.ty (K := K) B
      obtain ⟨dx', p', d', g1, g2, g3⟩ := bk
      refine ⟨_, rfl, _, _, _, _, _, rfl, .own C, ty, B.own, _, rfl, iteT ?_⟩
      refine ⟨_, rfl, b, C, dx, _, _, rfl, h1, B.cls, B.nl, rfl, _, rfl, b', C, dx', _, _, rfl, g1, B.cls, B.nl, rfl, rfl, _, rfl, ?_⟩
      have e1 : decide (V.str x = V.str y) = decide (x = y) := by simp
      rw [e1]
      generalize decide (x = y) = g at q ⊢
      cases g with
      | false => exact iteF q
      | true =>
        refine iteT ⟨_, rfl, b, C, dx, _, _, rfl, h1, B.cls, B.nw, rfl, _, rfl, b', C, dx', _, _, rfl, g1, B.cls, B.nw, rfl, _, _, .tup (SqT.of h2) (dpa_txt ws), .tup (SqT.of g2) (dpa_txt zs), txt_shapedT ok1, txt_shapedT ok2, ?_⟩
        rw [txt_eqvT]
        exact q
theorem ok_str (F : FnM K "__str__" "Book.__str__" sStr f fd) (B : BookK K C) (M : Free mg) : FnOk P w K mg base CX0 1 f fd ["self"] (spStr C) := by
  refine F.ok scStr (fun vs H Q E h => ?_) (fun cdv A outer s H vs Q E hr h => ?_)
  · obtain ⟨b, x, ws, rfl, _⟩ := h
    rfl
  · obtain ⟨b, x, ws, rfl, ⟨dx, p, d, h1, h2, h3⟩, few, lx, q⟩ := h
    have hs : sizeLine = 16777216 := sizeLine_eq
    refine ⟨_, PSs.nox (pss_one (ps_ret (pe_joined (.cons pe_str (.cons (pe_fmt (pe_callB call_len_seq (by rfl) M.len PySem.boot_len (pa_cons (pe_fld (pv 0) rfl) pa_nil))) (.cons pe_str (.cons (pe_fmt (pe_fld (pv 0) rfl)) .nil))))))), ?_⟩
    have n1 := numS_len few
    have l0 : (Str.empty ++ Str.ofString "book of ").length = 8 := by decide +kernel
    have l1 : (Str.ofString " words over ").length = 12 := by decide +kernel
    refine ⟨_, rfl, by rw [l0]; omega, _, rfl, b, C, dx, _, _, rfl, h1, B.cls, B.nw, rfl, p, _, rfl, .inr (SqT.of h2), ?_⟩
    rw [List.length_map]
    refine Or.inr ⟨_, rfl, log_small few, _, rfl, ?_, ?_⟩
    · rw [app_len, l0]
      show 8 + (numS ws.length).length ≤ sizeLine
      omega
    · refine ⟨_, rfl, ?_, _, rfl, b, C, dx, _, _, rfl, h1, B.cls, B.nl, rfl, Or.inl ⟨x, rfl, by omega, _, rfl, ?_, q⟩⟩
      · rw [app_len, app_len, l0, l1]
        show 8 + (numS ws.length).length + 12 ≤ sizeLine
        omega
      · rw [app_len, app_len, app_len, l0, l1]
        show 8 + (numS ws.length).length + 12 + x.length ≤ sizeLine
        omega
end
end B17

/-! texts over letters; all texts of one length; a walk with any body -/
namespace XSt
open PySem PySem.Spec PyProof.Rows L2 NX
theorem tw_short {p : Nat → Bool} {c : Nat} (h : p c = false) : ∀ xs : List Nat, ((xs ++ [c]).takeWhile p).length ≤ xs.length
  | [] => by simp [h]
  | x :: xs => by
    have := tw_short h xs
    by_cases g : p x = true
    · simp [g]
      exact this
    · simp [g]
theorem dw_head {p : Nat → Bool} : ∀ {l : List Nat} {c : Nat} {r : List Nat}, l.dropWhile p = c :: r → p c = false
  | [], _, _, h => by simp at h
  | x :: l, c, r, h => by
    by_cases g : p x = true
    · rw [List.dropWhile_cons_of_pos g] at h
      exact dw_head h
    · rw [List.dropWhile_cons_of_neg g] at h
      injection h with h _
      rw [← h]
      exact Bool.not_eq_true _ |>.mp g
theorem dw_nil {p : Nat → Bool} : ∀ {l : List Nat}, l.dropWhile p = [] → l.all p = true
  | [], _ => rfl
  | x :: l, h => by
    by_cases g : p x = true
    · rw [List.dropWhile_cons_of_pos g] at h
      rw [List.all_cons, g, dw_nil h]
      rfl
    · rw [List.dropWhile_cons_of_neg g] at h
      cases h
theorem drop_tw (p : Nat → Bool) : ∀ l : List Nat, l.drop (l.takeWhile p).length = l.dropWhile p
  | [] => rfl
  | x :: l => by
    by_cases g : p x = true
    · rw [List.takeWhile_cons_of_pos g, List.dropWhile_cons_of_pos g]
      exact drop_tw p l
    · rw [List.takeWhile_cons_of_neg g, List.dropWhile_cons_of_neg g]
      rfl
theorem all_tw {p : Nat → Bool} : ∀ {l : List Nat}, l.all p = true → l.takeWhile p = l ∧ l.dropWhile p = []
  | [], _ => ⟨rfl, rfl⟩
  | x :: l, h => by
    rw [List.all_cons, Bool.and_eq_true] at h
    obtain ⟨a, b⟩ := all_tw h.2
    rw [List.takeWhile_cons_of_pos h.1, List.dropWhile_cons_of_pos h.1]
    exact ⟨by rw [a], b⟩
theorem strip_all (goes : Nat → Bool) (x : Str) : decide (Txt.stripBy goes true true x = ⟨#[]⟩) = x.cps.toList.all goes := by
  have split := List.takeWhile_append_dropWhile (p := goes) (l := x.cps.toList)
  have len : x.cps.toList.length = x.length := by rw [Array.length_toList]; rfl
  have total : (x.cps.toList.takeWhile goes).length + (x.cps.toList.dropWhile goes).length = x.length := by
    rw [← len, ← List.length_append, split]
  have told : (Txt.stripBy goes true true x = x ∧ (x.cps.toList.takeWhile goes).length = 0) ∨
      Txt.stripBy goes true true x = Builtin.Str.strSub x (x.cps.toList.takeWhile goes).length (x.length - ((x.cps.toList.dropWhile goes).reverse.takeWhile goes).length) := by
    unfold Txt.stripBy
    split
    · rename_i h
      have h2 : ((x.cps.toList.takeWhile goes).length == 0 && _) = true := h
      rw [Bool.and_eq_true, beq_iff_eq] at h2
      exact Or.inl ⟨rfl, h2.1⟩
    · refine Or.inr ?_
      rw [← drop_tw]
      rfl
  cases g : x.cps.toList.all goes with
  | true =>
    refine decide_eq_true ?_
    obtain ⟨a, b⟩ := all_tw g
    rw [b] at total told
    rcases told with ⟨e, h⟩ | e
    · rw [e]
      have z : x.length = 0 := by
        simp only [List.length_nil] at total
        omega
      obtain ⟨⟨y⟩⟩ := x
      have z2 : y.length = 0 := z
      rw [List.length_eq_zero_iff.mp z2]
    · rw [e]
      show (⟨x.cps.extract _ _⟩ : Str) = ⟨#[]⟩
      congr 1
      apply Array.extract_eq_empty_of_le
      have w : x.cps.size = x.length := rfl
      simp only [List.length_nil] at total
      omega
  | false =>
    refine decide_eq_false ?_
    have ne : x.cps.toList.dropWhile goes ≠ [] := fun z => by
      rw [dw_nil z] at g
      cases g
    cases q : x.cps.toList.dropWhile goes with
    | nil => exact absurd q ne
    | cons c r =>
      have hc := dw_head q
      have short : ((c :: r).reverse.takeWhile goes).length ≤ r.length := by
        have z := tw_short hc r.reverse
        rw [List.length_reverse] at z
        rw [List.reverse_cons]
        exact z
      rw [q] at total told
      simp only [List.length_cons] at total
      intro bad
      have z : (Txt.stripBy goes true true x).length = 0 := by
        rw [bad]
        rfl
      rcases told with ⟨e, h⟩ | e
      · rw [e] at z
        omega
      · rw [e] at z
        have y : (Builtin.Str.strSub x (x.cps.toList.takeWhile goes).length (x.length - ((c :: r).reverse.takeWhile goes).length)).length = min (x.length - ((c :: r).reverse.takeWhile goes).length) x.cps.size - (x.cps.toList.takeWhile goes).length := Array.size_extract
        have w : x.cps.size = x.length := rfl
        rw [y] at z
        omega

theorem strip_in (x s : Str) : decide (Txt.stripChars x s = ⟨#[]⟩) = x.cps.toList.all fun c => decide (c ∈ s.cps.toList) := by
  unfold Txt.stripChars
  rw [strip_all]
  congr 1
  funext c
  simp [Array.contains_eq_mem]

theorem walk_it {J : It} {n : Nat} {G : Hp → Prop} {Y : Nat → Hp → V → Hp → Prop} (w : Walk J n G Y) {B : V → Hp → (Hp → Prop) → Prop} {H0 : Hp} {Qd : Hp → Prop} (Pv : Nat → Hp → Prop) (h0 : Pv 0 H0) (hG : ∀ i H, i ≤ n → Pv i H → G H)
    (hs : ∀ i x H H', i < n → Pv i H → Y i H x H' → B x H' (Pv (i + 1))) (hd : ∀ H, Pv n H → Qd H) :
    ∃ W : Nat → Nat → Hp → Prop, (∃ m, W 0 m H0) ∧ ∀ i m H, W i m H → (J.stop i H ∧ Qd H) ∨ (J.go i H ∧ ∃ Nx : Hp → Prop, (∀ H', Nx H' → ∃ m', m' < m ∧ W (i + 1) m' H') ∧ ∀ x H', J.yld i H x H' → B x H' Nx) := by
  refine ⟨fun i m H => m + i = n ∧ Pv i H, ⟨n, by omega, h0⟩, fun i m H z => ?_⟩
  obtain ⟨e, p⟩ := z
  have g := hG i H (by omega) p
  rcases Nat.eq_zero_or_pos m with z | z
  · have e2 : i = n := by omega
    subst e2
    exact .inl ⟨w.stops H g, hd H p⟩
  · exact .inr ⟨w.goes i H (by omega) g, Pv (i + 1), fun H' p' => ⟨m - 1, by omega, by omega, p'⟩, fun x H' y => hs i x H H' (by omega) p (w.yields i H x H' (by omega) g y)⟩
/-- all texts of n letters, as they come -/
def unif (x : Str) : Nat → List Str
  | 0 => [⟨#[]⟩]
  | n + 1 => (unif x n).flatMap fun k => (signs x).map fun c => k ++ c
theorem signs_count (x : Str) : (signs x).length = x.length := by
  unfold signs
  rw [List.length_map, Array.length_toList]
  rfl
theorem unif_len (x : Str) : ∀ n, (unif x n).length = x.length ^ n
  | 0 => rfl
  | n + 1 => by
    unfold unif
    rw [List.length_flatMap]
    have e : (fun k => ((signs x).map fun c => k ++ c).length) = fun _ : Str => x.length := by
      funext k
      rw [List.length_map, signs_count]
    rw [e, Nat.pow_succ, ← unif_len x n]
    induction unif x n with
    | nil => simp
    | cons a l ih =>
      rw [List.map_cons, List.sum_cons, ih, List.length_cons, Nat.add_mul, Nat.one_mul, Nat.add_comm]
theorem flat_len (x : Str) (l : List Str) : (l.flatMap fun k => (signs x).map fun c => k ++ c).length = l.length * x.length := by
  induction l with
  | nil => simp
  | cons a l ih => rw [List.flatMap_cons, List.length_append, ih, List.length_map, signs_count, List.length_cons, Nat.add_mul, Nat.one_mul, Nat.add_comm]
theorem cs_app (a b : Str) : cs (a ++ b) = cs a ++ cs b := by
  show (a.cps ++ b.cps).toList = _
  exact Array.toList_append
theorem unif_mem {x : Str} : ∀ {n : Nat} {k : Str}, k ∈ unif x n → k.length = n ∧ ∀ c ∈ cs k, c ∈ cs x
  | 0, k, h => by
    obtain rfl := List.mem_singleton.mp h
    exact ⟨rfl, fun c m => by cases m⟩
  | n + 1, k, h => by
    obtain ⟨a, ma, h⟩ := List.mem_flatMap.mp h
    obtain ⟨c, mc, rfl⟩ := List.mem_map.mp h
    obtain ⟨d, md, rfl⟩ := List.mem_map.mp mc
    obtain ⟨e1, e2⟩ := unif_mem ma
    refine ⟨by rw [app_len, e1]; rfl, fun z m => ?_⟩
    rw [cs_app] at m
    rcases List.mem_append.mp m with m | m
    · exact e2 z m
    · obtain rfl : z = d := List.mem_singleton.mp m
      exact md
theorem lt_app_left {a b : List Nat} (c d : List Nat) (h : a < b) (e : a.length = b.length) : a ++ c < b ++ d := by
  induction a generalizing b with
  | nil =>
    cases b with
    | nil => exact absurd h (List.lt_irrefl _)
    | cons y b => cases e
  | cons x a ih =>
    cases b with
    | nil => cases e
    | cons y b =>
      rw [List.cons_append, List.cons_append, List.cons_lt_cons_iff]
      rcases List.cons_lt_cons_iff.mp h with z | ⟨rfl, z⟩
      · exact .inl z
      · exact .inr ⟨rfl, ih z (by simpa using e)⟩
theorem lt_app_right (a : List Nat) {c d : List Nat} (h : c < d) : a ++ c < a ++ d := by
  induction a with
  | nil => exact h
  | cons x a ih =>
    rw [List.cons_append, List.cons_append, List.cons_lt_cons_iff]
    exact .inr ⟨rfl, ih⟩
def Asc (x : Str) : Prop := (cs x).Pairwise (· < ·)
theorem signs_asc {x : Str} (h : Asc x) : (signs x).Pairwise fun a b => cs a < cs b := by
  unfold signs
  refine List.pairwise_map.mpr (h.imp fun {a b} z => ?_)
  show [a] < [b]
  exact List.cons_lt_cons_iff.mpr (.inl z)
theorem unif_asc {x : Str} (h : Asc x) : ∀ n, (unif x n).Pairwise fun a b => cs a < cs b
  | 0 => List.pairwise_singleton _ _
  | n + 1 => by
    unfold unif
    rw [List.pairwise_flatMap]
    refine ⟨fun a _ => ?_, (unif_asc h n).imp_of_mem fun {a b} ma mb z k mk l ml => ?_⟩
    · refine List.pairwise_map.mpr ((signs_asc h).imp fun {c d} z => ?_)
      rw [cs_app, cs_app]
      exact lt_app_right _ z
    · obtain ⟨c, _, rfl⟩ := List.mem_map.mp mk
      obtain ⟨d, _, rfl⟩ := List.mem_map.mp ml
      rw [cs_app, cs_app]
      exact lt_app_left _ _ z (by rw [cs_len, cs_len, (unif_mem ma).1, (unif_mem mb).1])
theorem asc_nodup {l : List Str} (h : l.Pairwise fun a b => cs a < cs b) : l.Nodup := h.imp fun {a b} z e => by
  rw [e] at z
  exact List.lt_irrefl _ z
/-- ascending, of one length: in order -/
theorem ordT_asc {l : List Str} {n : Nat} (h : l.Pairwise fun a b => cs a < cs b) (e : ∀ k ∈ l, k.length = n) : ordT l = l := by
  symm
  refine tLe_ord.one (perm_once (asc_nodup h) fun _ => Iff.rfl) (h.imp_of_mem fun {a b} ma mb z => ?_)
  unfold tLe
  rw [pLe_iff]
  refine .inr ⟨by show ((a.length : Int)) = b.length; rw [e a ma, e b mb], ?_⟩
  unfold sLe
  exact decide_eq_true (List.le_of_lt z)
theorem ordT_unif {x : Str} (h : Asc x) (n : Nat) : ordT (unif x n) = unif x n := ordT_asc (unif_asc h n) fun k m => (unif_mem m).1
theorem pre_same {l : List Str} {n : Nat} (e : ∀ k ∈ l, k.length = n) : NoPre l := fun a ma b mb ne z => ne (cs_inj (List.IsPrefix.eq_of_length z (by rw [cs_len, cs_len, e a ma, e b mb])))
theorem suf_same {l : List Str} {n : Nat} (e : ∀ k ∈ l, k.length = n) : NoSuf l := fun a ma b mb ne z => ne (cs_inj (List.IsSuffix.eq_of_length z (by rw [cs_len, cs_len, e a ma, e b mb])))
theorem strOk_of {x y : Str} (h : PyData.strOk x = true) (e : ∀ c ∈ cs y, c ∈ cs x) : PyData.strOk y = true := by
  unfold PyData.strOk at h ⊢
  rw [Array.all_eq_true'] at h ⊢
  intro c m
  exact h c (Array.mem_toList_iff.mp (e c (Array.mem_toList_iff.mpr m)))
theorem joinL_nil : ∀ ps : List (List Nat), TL.joinL [] ps = ps.flatten
  | [] => rfl
  | [p] => by simp [TL.joinL]
  | p :: q :: r => by
    show p ++ ([] ++ TL.joinL [] (q :: r)) = _
    rw [joinL_nil (q :: r), List.nil_append]
    rfl
theorem joined_list (l : List Str) : (Txt.join ⟨#[]⟩ l).cps.toList = (l.map fun x => x.cps.toList).flatten := by
  rw [TL.join_eq]
  exact (TL.tl_join ⟨#[]⟩ l).trans (joinL_nil _)
theorem join_signs (x : Str) : Txt.join ⟨#[]⟩ (signs x) = x := by
  apply cs_inj
  have y := joined_list (signs x)
  show (Txt.join ⟨#[]⟩ (signs x)).cps.toList = _
  rw [y]
  unfold signs cs
  rw [List.map_map]
  induction x.cps.toList with
  | nil => rfl
  | cons c l ih =>
    rw [List.map_cons, List.flatten_cons, ih]
    rfl
theorem letters_asc {x : Str} (h : Asc x) (h1 : 1 ≤ x.length) (h3 : x.length ≤ 3) (lo : ∀ c ∈ cs x, 97 ≤ c ∧ c ≤ 122) : lettersV (.str x) = true := by
  have sa := signs_asc h
  have e : (once (signs x)).mergeSort sLe = signs x := by
    symm
    exact sLe_ord.one (perm_once (asc_nodup sa) fun _ => Iff.rfl) (sa.imp fun {a b} z => decide_eq_true (List.le_of_lt z))
  have ne : cs x ≠ [] := fun z => by
    have y := cs_len x
    rw [z] at y
    simp only [List.length_nil] at y
    omega
  show (decide (1 ≤ x.length ∧ x.length ≤ 3) && (decide (x = Txt.join ⟨#[]⟩ ((once (signs x)).mergeSort sLe)) && (decide (97 ≤ (cs x).headD 0) && decide ((cs x).getLastD 0 ≤ 122)))) = true
  rw [e, join_signs, decide_eq_true ⟨h1, h3⟩, decide_eq_true rfl, Bool.true_and, Bool.true_and, Bool.and_eq_true, decide_eq_true_eq, decide_eq_true_eq]
  cases q : cs x with
  | nil => exact absurd q ne
  | cons c l =>
    rw [q] at lo
    refine ⟨(lo c (List.mem_cons_self ..)).1, ?_⟩
    rw [List.getLastD_eq_getLast?, List.getLast?_eq_some_getLast (List.cons_ne_nil c l)]
    exact (lo _ (List.getLast_mem _)).2
end XSt
namespace XSt
open PySem PySem.Spec PyProof.Rows L2 NX
theorem cs_mk (l : List Nat) : cs ⟨l.toArray⟩ = l := by
  unfold cs
  simp
theorem cut_pre {z : Str} {n : Nat} (h : n ≤ z.length) : cs (cutS z none (some (n : Int))) = (cs z).take n := by
  unfold cutS
  rw [cs_mk, HT.sIx_none, HT.sIx_nat, Nat.min_eq_left h, List.drop_zero, Nat.sub_zero]
  rfl
theorem cut_suf {z : Str} {n : Nat} (h : n ≤ z.length) : cs (cutS z (some (n : Int)) none) = (cs z).drop n := by
  unfold cutS
  rw [cs_mk, HT.sIx_none, HT.sIx_nat, Nat.min_eq_left h]
  refine List.take_of_length_le ?_
  have y := cs_len z
  unfold cs at y
  rw [List.length_drop, y]
  exact Nat.le_refl _
theorem cut_starts {l s : Str} (h : s.length ≤ l.length) : decide (V.str (cutS l none (some (s.length : Int))) = V.str s) = Txt.startswith l s := by
  apply Bool.eq_iff_iff.mpr
  rw [decide_eq_true_eq, starts_iff, List.prefix_iff_eq_take, cs_len]
  constructor
  · intro e
    have z := congrArg cs (V.str.inj e)
    rw [cut_pre h] at z
    exact z.symm
  · intro e
    congr 1
    apply cs_inj
    rw [cut_pre h]
    exact e.symm
theorem cut_ends {l s : Str} (h : s.length ≤ l.length) : decide (V.str (cutS l (some ((l.length : Int) - (s.length : Int))) none) = V.str s) = Txt.endswith l s := by
  have e0 : ((l.length : Int) - (s.length : Int)) = ((l.length - s.length : Nat) : Int) := by omega
  rw [e0]
  apply Bool.eq_iff_iff.mpr
  rw [decide_eq_true_eq, ends_iff, List.suffix_iff_eq_drop, cs_len, cs_len]
  constructor
  · intro e
    have z := congrArg cs (V.str.inj e)
    rw [cut_suf (by omega)] at z
    exact z.symm
  · intro e
    congr 1
    apply cs_inj
    rw [cut_suf (by omega)]
    exact e.symm
/-- the shorter one begins or ends the longer one -/
def meetB (a b : Str) : Bool := if a.length ≤ b.length then (Txt.startswith b a || Txt.endswith b a) else (Txt.startswith a b || Txt.endswith a b)
theorem meet_free {a b : Str} (h : meetB a b = false) : (¬ cs a <+: cs b ∧ ¬ cs b <+: cs a) ∧ ¬ cs a <:+ cs b ∧ ¬ cs b <:+ cs a := by
  have la := cs_len a
  have lb := cs_len b
  unfold meetB at h
  split at h
  · rename_i c
    rw [Bool.or_eq_false_iff] at h
    have n1 : ¬ cs a <+: cs b := fun z => by rw [starts_iff.mpr z] at h; cases h.1
    have n2 : ¬ cs a <:+ cs b := fun z => by rw [ends_iff.mpr z] at h; cases h.2
    refine ⟨⟨n1, fun z => ?_⟩, n2, fun z => ?_⟩
    · have e := List.IsPrefix.eq_of_length z (by have := z.length_le; omega)
      exact n1 (by rw [e]; exact List.prefix_rfl)
    · have e := List.IsSuffix.eq_of_length z (by have := z.length_le; omega)
      exact n2 (by rw [e]; exact List.suffix_rfl)
  · rename_i c
    rw [Bool.or_eq_false_iff] at h
    have n1 : ¬ cs b <+: cs a := fun z => by rw [starts_iff.mpr z] at h; cases h.1
    have n2 : ¬ cs b <:+ cs a := fun z => by rw [ends_iff.mpr z] at h; cases h.2
    refine ⟨⟨fun z => ?_, n1⟩, fun z => ?_, n2⟩
    · have := z.length_le
      omega
    · have := z.length_le
      omega
theorem NoPre.snoc {l : List Str} {k : Str} (h : NoPre l) (e : ∀ a ∈ l, meetB a k = false) : NoPre (l ++ [k]) := by
  intro x mx y my ne
  rcases List.mem_append.mp mx with mx | mx <;> rcases List.mem_append.mp my with my | my
  · exact h x mx y my ne
  · rw [List.mem_singleton.mp my]
    exact (meet_free (e x mx)).1.1
  · rw [List.mem_singleton.mp mx]
    exact (meet_free (e y my)).1.2
  · exact absurd ((List.mem_singleton.mp mx).trans (List.mem_singleton.mp my).symm) ne
theorem NoSuf.snoc {l : List Str} {k : Str} (h : NoSuf l) (e : ∀ a ∈ l, meetB a k = false) : NoSuf (l ++ [k]) := by
  intro x mx y my ne
  rcases List.mem_append.mp mx with mx | mx <;> rcases List.mem_append.mp my with my | my
  · exact h x mx y my ne
  · rw [List.mem_singleton.mp my]
    exact (meet_free (e x mx)).2.1
  · rw [List.mem_singleton.mp mx]
    exact (meet_free (e y my)).2.2
  · exact absurd ((List.mem_singleton.mp mx).trans (List.mem_singleton.mp my).symm) ne
theorem ordT_twice (l : List Str) : ordT (ordT l) = ordT l := ordT_same fun _ => ordT_mem
end XSt

namespace XSt
open PySem PySem.Spec PyProof.Rows L2 NX
def Grows (H H' : Hp) : Prop := ∀ b o, H b = some o → H' b = some o
theorem grows_new {H : Hp} {p : Addr} {o : HO} (h : H p = none) : Grows H (upd H p o) := fun b u e => by
  rw [upd_ne (ne_of_none e h)]
  exact e
/-- a slice of a tuple that is tracked: a tuple, new or not -/
def rSlX2 : V → Option Int → Option Int → Hp → VK → Prop := fun x lo hi H Q => ∃ a xs, x = .ref a ∧ H a = some (.tup xs) ∧ ∀ p H', Grows H H' → H' p = some (.tup (cutV xs lo hi)) → Q (.ref p) H'
theorem sl_tupX {X : Cx} : SlR X rSlX2 := by
  intro pins s σ H x v vl vu lo hi sl Q I rx hs pl pu h
  obtain ⟨a, xs, rfl, ea, q⟩ := h
  refine sl_tupA pins s σ H _ v vl vu lo hi sl Q I rx hs pl pu ⟨a, xs, rfl, SqT.of ea, fun c => ?_, fun _ p hp => q p _ (grows_new hp) upd_same⟩
  refine q a H (fun _ _ e => e) ?_
  unfold cutV
  rw [c.1, c.2, List.drop_zero, Nat.sub_zero, List.take_length]
  exact ea
def rCatX : R2 := fun x y H Q => ∃ a b xs ys, x = .ref a ∧ y = .ref b ∧ H a = some (.tup xs) ∧ H b = some (.tup ys) ∧ xs.length + ys.length ≤ sizeLine ∧ ∀ p H', Grows H H' → H' p = some (.tup (xs ++ ys)) → Q (.ref p) H'
theorem op_catX {X : Cx} : OpR X (binaryOp .Add) rCatX := by
  intro pins s σ H x y v u Q I rx ry h
  obtain ⟨a, b, xs, ys, rfl, rfl, ea, eb, few, q⟩ := h
  refine op_catA pins s σ H _ _ v u Q I rx ry ⟨a, b, xs, ys, rfl, rfl, SqT.of ea, SqT.of eb, few, fun e => ?_, fun _ e => ?_, fun _ _ p hp => q p _ (grows_new hp) upd_same⟩
  · refine q b H (fun _ _ e => e) ?_
    rw [e]
    exact eb
  · refine q a H (fun _ _ e => e) ?_
    rw [e, List.append_nil]
    exact ea
theorem cut_mem {xs : List V} {lo hi : Option Int} {v : V} (h : v ∈ cutV xs lo hi) : v ∈ xs := List.mem_of_mem_drop (List.mem_of_mem_take h)
theorem cut_sub (xs : List V) (lo hi : Option Int) : (cutV xs lo hi).Sublist xs := (List.take_sublist _ _).trans (List.drop_sublist _ _)
theorem ordT_sub {l m : List Str} (h : l.Sublist m) (o : ordT m = m) : ordT l = l := by
  have srt : m.Pairwise (fun a b => XSt.tLe a b = true) := by
    rw [← o]
    exact List.pairwise_mergeSort tLe_ord.tr tLe_ord.tot _
  have nd : m.Nodup := by
    rw [← o]
    exact ordT_nodup m
  symm
  exact tLe_ord.one (perm_once (nd.sublist h) fun _ => Iff.rfl) (srt.sublist h)
theorem NoPre.sub {l m : List Str} (h : NoPre m) (e : ∀ k ∈ l, k ∈ m) : NoPre l := fun a ma b mb n => h a (e a ma) b (e b mb) n
theorem NoSuf.sub {l m : List Str} (h : NoSuf m) (e : ∀ k ∈ l, k ∈ m) : NoSuf l := fun a ma b mb n => h a (e a ma) b (e b mb) n
end XSt

/-! letters -/
namespace B17
open PySem PySem.Spec PyProof.Rows L2 XSt NX XB
open PySem.W (Frag)
structure Abc (x : Str) : Prop where
  good : GoodL x
  asc : Asc x
  one : 1 ≤ x.length
  few : x.length ≤ 3
  ok : PyData.strOk x = true
  small : ∀ c ∈ cs x, 97 ≤ c ∧ c ≤ 122
theorem abc_of {x : Str} (asc : Asc x) (one : 1 ≤ x.length) (few : x.length ≤ 3) (small : ∀ c ∈ cs x, 97 ≤ c ∧ c ≤ 122) : Abc x := by
  have ok : PyData.strOk x = true := by
    unfold PyData.strOk
    rw [Array.all_eq_true']
    intro c m
    have z := small c (Array.mem_toList_iff.mpr m)
    exact decide_eq_true (by omega)
  exact ⟨⟨by omega, ok, letters_asc asc one few small⟩, asc, one, few, ok, small⟩
theorem goodW_of {x y : Str} (a : Abc x) (h : ∀ c ∈ cs y, c ∈ cs x) (one : 1 ≤ y.length) (few : y.length ≤ 400) : GoodW x y := by
  refine ⟨few, strOk_of a.ok h, ?_⟩
  show (decide (Txt.stripChars y x = ⟨#[]⟩) && (decide (1 ≤ y.length) && decide (y.length ≤ 400))) = true
  rw [strip_in, decide_eq_true one, decide_eq_true few, Bool.and_self, Bool.and_true, List.all_eq_true]
  exact fun c m => decide_eq_true (h c m)
def rAddS : R2 := fun x y H Q => ∃ i j, x = .str i ∧ y = .str j ∧ i.length + j.length ≤ sizeLine ∧ Q (.str (i ++ j)) H
theorem op_addS {X : Cx} : OpR X (binaryOp .Add) rAddS := op_add_str
theorem pow_few {a n : Nat} (h : a ≤ 3) (hn : n ≤ 5) : a ^ n ≤ 243 := Nat.le_trans (Nat.pow_le_pow_left h n) (Nat.le_trans (Nat.pow_le_pow_right (by decide) hn) (by decide))
end B17

/-! the law's own order, its draws -/
namespace B17
open PySem PySem.Spec PyProof.Rows L2 XSt NX XB
open PySem.W (Frag)
abbrev sSorted : Stmt := top 52
abbrev sLine : Stmt := top 51
def spSorted (K : Frag) : Sp := fun vs H Q _ => ∃ (l : Addr) (ys : List Str), vs = [.ref l] ∧ SqL K H l (ys.map V.str) ∧ ys.length < 64 ∧ (∀ y ∈ ys, y.length ≤ 8000) ∧ ∀ q H', H q = none → Ext H H' → H' q = some (.tup ((ordT ys).map V.str)) → Q (.ref q) H'
section
variable {P : Program} {w : World} {K : Frag} {mg : Str → Option Value} {base : Heap} {f fB fS : Addr} {fd dB dS : FuncData}
theorem scSorted : FnScope ["lot", "pair", "piece"] ["lot"] (defScope sSorted) := ⟨rfl, rfl, rfl, by decide +kernel, rfl, by decide +kernel, by decide +kernel⟩
theorem ok_law_sorted (F : FnP K "_law_sorted" sSorted f fd) (M : Free mg) : FnOk P w K mg base CX0 1 f fd ["lot"] (spSorted K) := by
  refine F.ok scSorted (fun vs H Q E h => ?_) (fun cdv A outer s H vs Q E hr h => ?_)
  · obtain ⟨l, ys, rfl, _⟩ := h
    rfl
  · obtain ⟨l, ys, rfl, sq, few, short, q⟩ := h
    have hs : sizeLine = 16777216 := sizeLine_eq
    refine ⟨_, PSs.nox (pss_one (ps_ret (pe_callTy call_tuple_of (by rfl) M.tuple (by decide +kernel) (pa_cons (pe_lc (own := [("pair", 1)]) (g := gName 1) (tt := tYes) (te := tOp (rIxT K) (tVar 1) (tC (.int 1))) rfl scSorted.nd
        (pi_list (pe_callB (cr_sortedP rfl hr.units) (by rfl) M.sorted (by decide +kernel) (pa_cons (pe_callTy (cr_setP rfl hr.units) (by rfl) M.set (by decide +kernel)
          (pa_cons (pe_lc (own := [("piece", 2)]) (g := gName 2) (tt := tYes) (te := tTup (tCons (tCB (rLen K) (tCons (tVar 2) tNil)) (tCons (tVar 2) tNil))) rfl scSorted.nd (pi_list (pv 0)) (blkOk_by (N := ["lot", "pair", "piece"]) (sc := defScope sSorted) (by decide +kernel))
            (fun _ _ _ _ _ => pg_name (i := 2) scSorted.nd rfl (Or.inl rfl)) (fun _ _ _ _ _ => pts_nil) (fun _ _ _ _ _ => by exact pe_tup (pa_cons (pe_callB call_len (by rfl) M.len PySem.boot_len (pa_cons (pv 2) pa_nil)) (pa_cons (pv 2) pa_nil)))) pa_nil)) pa_nil)))
        (blkOk_by (N := ["lot", "pair", "piece"]) (sc := defScope sSorted) (by decide +kernel))
        (fun _ _ _ _ _ => pg_name (i := 1) scSorted.nd rfl (Or.inl rfl)) (fun _ _ _ _ _ => pts_nil) (fun _ _ _ _ _ => by exact pe_ix ix_tup (pv 1) pe_int (fun _ _ => rfl))) pa_nil)))), ?_⟩
    refine ⟨_, rfl, l, rfl, ⟨_, sq⟩, fun D hD => ?_⟩
    refine lc_it walk_list (fun i H2 => ∃ ks : List (Addr × Int × Str), H2 D = some (.lst (ks.map fun p => V.ref p.1)) ∧ ks.map (·.2) = (ys.take i).map lenOf ∧ (∀ p ∈ ks, H2 p.1 = some (.tup [.int p.2.1, .str p.2.2])) ∧ Ext H H2)
      ⟨[], upd_same, rfl, fun _ z => (by cases z), (Ext.refl H).new hD⟩ (fun i H2 _ z => by obtain ⟨ks, _, _, _, k⟩ := z; exact sqL_ext k sq) ?_ ?_
    · rintro i x H2 H3 hi ⟨ks, e1, e2, e3, e4⟩ ⟨rfl, ex⟩
      rw [List.getElem?_map] at ex
      cases g : ys[i]? with
      | none => rw [g] at ex; cases ex
      | some y =>
        rw [g] at ex
        obtain rfl : V.str y = x := Option.some.inj ex
        have sy := short y (List.mem_of_getElem? g)
        refine ⟨rfl, _, rfl, _, y.length, rfl, ⟨by omega, rfl⟩, _, rfl, by show 2 ≤ sizeLine; omega, fun T hT => ?_⟩
        have nTD : D ≠ T := ne_of_none e1 hT
        have kl : ks.length = ((ys.take i).map lenOf).length := by rw [← e2, List.length_map]
        refine ⟨ks.map fun p => V.ref p.1, by rw [upd_ne nTD]; exact e1, by rw [List.length_map, kl, List.length_map]; have := List.length_take_le i ys; rw [List.length_map] at hi; omega, ks ++ [(T, lenOf y)], ?_, ?_, fun p m => ?_, fun b u e => ?_⟩
        · rw [List.map_append]
          exact upd_same
        · rw [List.map_append, e2, take_more g, List.map_append]
          rfl
        · rcases List.mem_append.mp m with m | m
          · have z := e3 p m
            have n1 : p.1 ≠ D := fun n => by
              rw [n, e1] at z
              cases z
            rw [upd_ne n1, upd_ne (ne_of_none z hT)]
            exact z
          · rw [List.mem_singleton.mp m]
            rw [upd_ne (Ne.symm nTD)]
            exact upd_same
        · have z := e4 b u e
          rw [upd_ne (ne_of_none e hD), upd_ne (ne_of_none z hT)]
          exact z
    · rintro H2 ⟨ks, e1, e2, e3, e4⟩
      rw [List.length_map, List.take_length] at e2
      have klen : ks.length = ys.length := by
        have z := congrArg List.length e2
        simpa using z
      refine ⟨D, ks, rfl, SqL.of e1, fun p m => SqT.of (e3 p m), by omega, fun a L ha sub pL => ?_⟩
      refine ⟨a, L, rfl, upd_same, fun p m => SqT.of (by rw [upd_ne (ne_of_none (e3 p (sub p m)) ha)]; exact e3 p (sub p m)), fun p L' hp pm eL => ?_⟩
      have told : L'.map (fun z => z.2.2) = ordT ys := by
        have z := congrArg (List.map Prod.snd) eL
        rw [List.map_map] at z
        rw [e2] at pL
        rw [← pairs_sorted pL, ← z]
        rfl
      have here : ∀ z ∈ L', (upd (upd H2 a (SO (prKit P w) a L)) p (.lst (L'.map fun q => V.ref q.1))) z.1 = some (.tup [.int z.2.1, .str z.2.2]) := fun z m => by
        have y := e3 z (sub z (pm.mem_iff.mp m))
        have y2 : (upd H2 a (SO (prKit P w) a L)) z.1 = some (.tup [.int z.2.1, .str z.2.2]) := by
          rw [upd_ne (ne_of_none y ha)]
          exact y
        rw [upd_ne (ne_of_none y2 hp)]
        exact y2
      have ext : Ext H (upd (upd H2 a (SO (prKit P w) a L)) p (.lst (L'.map fun q => V.ref q.1))) := (e4.new ha).new hp
      have lenL : L'.length ≤ 64 := by
        have z := congrArg List.length told
        rw [List.length_map] at z
        rw [z]
        unfold ordT
        rw [List.length_mergeSort]
        have := once_len ys
        omega
      obtain ⟨H3, eH⟩ : ∃ H3, upd (upd H2 a (SO (prKit P w) a L)) p (.lst (L'.map fun q => V.ref q.1)) = H3 := ⟨_, rfl⟩
      have at_ : H3 p = some (.lst (L'.map fun q => V.ref q.1)) := by rw [← eH]; exact upd_same
      rw [eH] at here ext
      refine ⟨_, rfl, ⟨_, SqL.of upd_same⟩, fun D2 hD2 => ?_⟩
      have hD2 : H3 D2 = none := by rw [← eH]; exact hD2
      refine lc_it walk_list (fun i H4 => H4 D2 = some (.lst (((L'.take i).map fun z => z.2.2).map V.str)) ∧ Ext H3 H4) ⟨upd_same, by rw [← eH] at hD2 ⊢; exact (Ext.refl _).new hD2⟩ (fun i H4 _ z => SqL.of (z.2 _ _ at_)) ?_ ?_
      · rintro i x H4 H5 hi ⟨f1, f2⟩ ⟨rfl, ex⟩
        rw [List.getElem?_map] at ex
        cases g : L'[i]? with
        | none => rw [g] at ex; cases ex
        | some z =>
          rw [g] at ex
          obtain rfl : V.ref z.1 = x := Option.some.inj ex
          have hz := f2 _ _ (here z (List.mem_of_getElem? g))
          refine ⟨rfl, _, rfl, z.1, _, _, _, rfl, rfl, SqT.of hz, atI_nat (j := 1) rfl, ?_⟩
          refine ⟨_, f1, by rw [List.length_map, List.length_map]; have := List.length_take_le i L'; have z9 := (List.getElem?_eq_some_iff.mp g).1; omega, ?_, fun b u e => ?_⟩
          · rw [take_more g, List.map_append, List.map_append]
            exact upd_same
          · rw [upd_ne (ne_of_none e hD2)]
            exact f2 b u e
      · rintro H4 ⟨f1, f2⟩
        rw [List.length_map, List.take_length, told] at f1
        refine ⟨D2, _, rfl, Or.inl ⟨SqL.of f1, fun t ht => ?_⟩⟩
        have e5 := (ext.trans f2)
        refine q t _ ?_ (e5.new ht) upd_same
        cases z : H t with
        | none => rfl
        | some o =>
          have y := ht.symm.trans (e5 _ _ z)
          cases y
end
def spPickS (K : Frag) : Sp := fun vs H Q _ => ∃ (j : Addr) (x : V), vs = [.ref j, x] ∧ JugAt H j ∧
  ((∃ p xs, x = .ref p ∧ SqL K H p xs ∧ p ≠ j ∧ xs ≠ [] ∧ xs.length ≤ 1000 ∧ ∀ y H', y ∈ xs → Kj j H H' → Q y H') ∨
   ∃ z : Str, x = .str z ∧ 1 ≤ z.length ∧ z.length ≤ 1000 ∧ ∀ c H', c ∈ z.cps.toList → Kj j H H' → Q (.str ⟨#[c]⟩) H')
def spLine : Sp := fun vs H Q _ => ∃ (j : Addr) (z : Str) (n : Nat), vs = [.ref j, .str z, .int (n : Int)] ∧ JugAt H j ∧ 1 ≤ z.length ∧ z.length ≤ 1000 ∧ n ≤ 1000 ∧
  ∀ x H', (∀ c ∈ x.cps.toList, c ∈ z.cps.toList) → x.length ≤ n → Kj j H H' → Q (.str x) H'
section
variable {P : Program} {w : World} {K : Frag} {mg : Str → Option Value} {base : Heap} {f fB fP : Addr} {fd dB dP : FuncData}
theorem scLine : FnScope ["jug", "signs", "most", "turn"] ["jug", "signs", "most"] (defScope sLine) := ⟨rfl, rfl, rfl, by decide +kernel, rfl, by decide +kernel, by decide +kernel⟩
theorem ok_pickS (F : FnP K "_law_pick" sPick f fd) (FB : FnOk P w K mg base CX0 1 fB dB ["jug", "much"] spBit) (gB : mg "_law_bit" = some (.ref fB)) (kB : PySem.W.keepIn K (.ref fB) = true) (bB : Binds K dB ["jug", "much"] []) (M : Free mg) :
    FnOk P w K mg base CX0 2 f fd ["jug", "items"] (spPickS K) := by
  refine F.ok scPick (fun vs H Q E h => ?_) (fun cdv A outer s H vs Q E hr h => ?_)
  · obtain ⟨j, x, rfl, _⟩ := h
    rfl
  · obtain ⟨j, x, rfl, hj, way⟩ := h
    have hs : sizeLine = 16777216 := sizeLine_eq
    refine ⟨_, PSs.nox (pss_one (ps_ret (pe_ix ix_seq (pv 1) (pe_call FB hr rfl gB kB bB .nil pass0 (pa_cons (pv 0) (pa_cons (pe_callB call_len (by rfl) M.len PySem.boot_len (pa_cons (pv 1) pa_nil)) pa_nil))) (fun _ _ => rfl)))), ?_⟩
    rcases way with ⟨p, xs, rfl, sq, hpj, ne, few, q⟩ | ⟨z, rfl, one, few, q⟩
    · have h0 : 0 < xs.length := List.length_pos_iff.mpr ne
      refine ⟨_, rfl, _, rfl, _, rfl, _, xs.length, rfl, Or.inl ⟨xs, sq, rfl⟩, j, _, rfl, hj, by omega, by omega, fun r H' r0 r1 hk => ?_⟩
      have hi : r.toNat < xs.length := by omega
      have er : r = ((r.toNat : Nat) : Int) := by omega
      rw [er]
      exact Or.inl ⟨_, _, _, _, rfl, rfl, hk.sqL hpj sq, atI_nat (List.getElem?_eq_getElem hi), q _ _ (List.getElem_mem hi) hk⟩
    · refine ⟨_, rfl, _, rfl, _, rfl, _, z.length, rfl, ⟨by omega, rfl⟩, j, _, rfl, hj, by omega, by omega, fun r H' r0 r1 hk => ?_⟩
      have len : z.cps.toList.length = z.length := by rw [Array.length_toList]; rfl
      have hi : r.toNat < z.cps.toList.length := by omega
      have er : r = ((r.toNat : Nat) : Int) := by omega
      rw [er]
      exact Or.inr (Or.inr ⟨_, _, _, rfl, rfl, by omega, atI_nat (List.getElem?_eq_getElem hi), q _ _ (List.getElem_mem hi) hk⟩)

theorem ok_line (F : FnP K "_law_line" sLine f fd) (M : Free mg) (mR : mg "range" = none) (FB : FnOk P w K mg base CX0 1 fB dB ["jug", "much"] spBit) (gB : mg "_law_bit" = some (.ref fB)) (kB : PySem.W.keepIn K (.ref fB) = true) (bB : Binds K dB ["jug", "much"] [])
    (FP : FnOk P w K mg base CX0 2 fP dP ["jug", "items"] (spPickS K)) (gP : mg "_law_pick" = some (.ref fP)) (kP : PySem.W.keepIn K (.ref fP) = true) (bP : Binds K dP ["jug", "items"] []) :
    FnOk P w K mg base CX0 3 f fd ["jug", "signs", "most"] spLine := by
  refine F.ok scLine (fun vs H Q E h => ?_) (fun cdv A outer s H vs Q E hr h => ?_)
  · obtain ⟨j, z, n, rfl, _⟩ := h
    rfl
  · obtain ⟨j, z, n, rfl, hj, one, few, lim, q⟩ := h
    have hs : sizeLine = 16777216 := sizeLine_eq
    refine ⟨_, PSs.nox (pss_one (ps_ret (pe_bm PySem.F.plainAttrs_str PySem.F.slot_str_join PySem.F.type_str_join mt_join pe_str
      (pa_cons (pe_lc (own := [("turn", 3)]) (g := gName 3) (tt := tYes) (te := tCall (spPickS K) [] E0 (tCons (tVar 0) (tCons (tVar 1) tNil))) rfl scLine.nd
        (pi_range1 (by rfl) mR (pa_cons (pe_call FB (hr.mono (by decide)) (by rfl) gB kB bB .nil pass0 (pa_cons (pv 0) (pa_cons (pe_op op_add (pv 2) pe_int) pa_nil))) pa_nil))
        (blkOk_by (N := ["jug", "signs", "most", "turn"]) (sc := defScope sLine) (by decide +kernel)) (fun _ _ _ _ _ => pg_name (i := 3) scLine.nd rfl (Or.inl rfl)) (fun _ _ _ _ _ => pts_nil)
        (fun _ _ _ _ _ => by exact pe_call FP hr (by rfl) gP kP bP .nil pass0 (pa_cons (pv 0) (pa_cons (pv 1) pa_nil)))) pa_nil)))), ?_⟩
    refine ⟨rfl, _, rfl, _, rfl, _, _, rfl, rfl, j, _, rfl, hj, by omega, by omega, fun r H1 r0 r1 hk => ?_⟩
    refine ⟨_, rfl, by omega, by omega, fun D hD => ?_⟩
    have nDj : D ≠ j := fun z => by
      obtain ⟨a, b, c, e, _⟩ := hk.2
      rw [z, e] at hD
      cases hD
    have hDH : H D = none := by
      cases e : H D with
      | none => rfl
      | some o =>
        rw [hk.1 D o nDj e] at hD
        cases hD
    refine lc_range (n := r.toNat) (fun i H2 => ∃ l : List Str, H2 D = some (.lst (l.map V.str)) ∧ l.length = i ∧ (∀ y ∈ l, ∃ c, y = ⟨#[c]⟩ ∧ c ∈ z.cps.toList) ∧ Kj j H H2) ⟨[], upd_same, rfl, fun _ y => (by cases y), hk.new hDH nDj⟩ ?_ ?_
    · rintro i H2 hi ⟨l, e1, e2, e3, k2⟩
      refine ⟨rfl, _, rfl, _, rfl, j, _, rfl, k2.2, Or.inr ⟨z, rfl, one, few, fun c H3 mc k3 => ?_⟩⟩
      have e4 := k3.1 D _ nDj e1
      refine ⟨_, e4, by rw [List.length_map]; omega, l ++ [⟨#[c]⟩], ?_, by rw [List.length_append, e2]; rfl, fun y my => ?_, (k2.trans k3).new hDH nDj⟩
      · rw [List.map_append]
        exact upd_same
      · rcases List.mem_append.mp my with my | my
        · exact e3 y my
        · exact ⟨c, List.mem_singleton.mp my, mc⟩
    · rintro H2 ⟨l, e1, e2, e3, k2⟩
      have ones : (l.map (·.length)).sum ≤ l.length := sum_ones l fun y my => by
        obtain ⟨c, rfl, _⟩ := e3 y my
        exact Nat.le_refl _
      have e0 : (Str.ofString "").length = 0 := rfl
      refine ⟨_, D, l, rfl, rfl, Or.inl (SqL.of e1), by rw [e0]; omega, q _ H2 (fun c mc => ?_) ?_ k2⟩
      · have y : (Txt.join (Str.ofString "") l).cps.toList = (l.map fun x => x.cps.toList).flatten := joined_list l
        rw [y] at mc
        obtain ⟨t, mt, mc⟩ := List.mem_flatten.mp mc
        obtain ⟨y, my, rfl⟩ := List.mem_map.mp mt
        obtain ⟨d, rfl, md⟩ := e3 y my
        obtain rfl : c = d := List.mem_singleton.mp mc
        exact md
      · have y : (Txt.join (Str.ofString "") l).cps.toList = (l.map fun x => x.cps.toList).flatten := joined_list l
        have len : (Txt.join (Str.ofString "") l).cps.toList.length = (Txt.join (Str.ofString "") l).length := by rw [Array.length_toList]; rfl
        have sum : ∀ l : List Str, (l.map fun x => x.cps.toList).flatten.length = (l.map (·.length)).sum := by
          intro l
          induction l with
          | nil => rfl
          | cons a l ih =>
            rw [List.map_cons, List.flatten_cons, List.length_append, ih, List.map_cons, List.sum_cons, Array.length_toList]
            rfl
        rw [← len, y, sum]
        omega
end
end B17

/-! letters that are drawn, texts that meet, sets of words that don't -/
namespace B17
open PySem PySem.Spec PyProof.Rows L2 XSt NX XB
open PySem.W (Frag)
abbrev sSigns : Stmt := top 50
abbrev sMeet : Stmt := top 53
def fourS : List Str := [Str.ofString "ab", Str.ofString "ab", Str.ofString "ab", Str.ofString "xy", Str.ofString "a", Str.ofString "abc"]
theorem four_abc : ∀ x ∈ fourS, Abc x := by
  have a : ∀ x ∈ fourS, Asc x := by unfold Asc; decide +kernel
  have b : ∀ x ∈ fourS, 1 ≤ x.length ∧ x.length ≤ 3 ∧ ∀ c ∈ cs x, 97 ≤ c ∧ c ≤ 122 := by decide +kernel
  exact fun x m => abc_of (a x m) (b x m).1 (b x m).2.1 (b x m).2.2
theorem jug_none {H : Hp} {j p : Addr} (h : JugAt H j) (n : H p = none) : p ≠ j := fun z => by
  obtain ⟨a, b, c, e, _⟩ := h
  rw [z, e] at n
  cases n
theorem Kj.none {H H' : Hp} {j p : Addr} (k : Kj j H H') (n : H' p = none) : H p = none := by
  have d := jug_none k.2 n
  cases e : H p with
  | none => rfl
  | some o =>
    rw [k.1 _ _ d e] at n
    cases n
theorem Kj.ext {H H1 H2 : Hp} {j : Addr} (k : Kj j H H1) (e : Ext H1 H2) : Kj j H H2 := ⟨fun b o n h => e _ _ (k.1 b o n h), by
  obtain ⟨a, b, c, h, z⟩ := k.2
  exact ⟨a, b, c, e _ _ h, z⟩⟩
def spSigns : Sp := fun vs H Q _ => ∃ j, vs = [.ref j] ∧ JugAt H j ∧ ∀ x H', x ∈ fourS → Kj j H H' → Q (.str x) H'
def spMeet : Sp := fun vs H Q _ => ∃ a b : Str, vs = [.str a, .str b] ∧ a.length ≤ 8000 ∧ b.length ≤ 8000 ∧ ∀ H', Ext H H' → Q (.bl (meetB a b)) H'
/-- a drawn set: words over x, of at most n letters, no two of which meet, in order -/
structure LotOk (x : Str) (n : Nat) (ws : List Str) : Prop where
  one : ∀ k ∈ ws, 1 ≤ k.length ∧ k.length ≤ n ∧ ∀ c ∈ cs k, c ∈ cs x
  pre : NoPre ws
  suf : NoSuf ws
  ord : ordT ws = ws
def spLot : Sp := fun vs H Q _ => ∃ (j : Addr) (x : Str) (m n : Nat), vs = [.ref j, .str x, .int (m : Int), .int (n : Int)] ∧ JugAt H j ∧ Abc x ∧ m ≤ 60 ∧ 1 ≤ n ∧ n ≤ 400 ∧
  ∀ p ws H', H p = none → Kj j H H' → H' p = some (.tup (ws.map V.str)) → LotOk x n ws → ws.length ≤ m → Q (.ref p) H'
section
variable {P : Program} {w : World} {K : Frag} {mg : Str → Option Value} {base : Heap} {f fB fP fL fM fS : Addr} {fd dB dP dL dM dS : FuncData}
theorem scSigns : FnScope ["jug"] ["jug"] (defScope sSigns) := ⟨rfl, rfl, rfl, by decide +kernel, rfl, by decide +kernel, by decide +kernel⟩
theorem scMeet : FnScope ["one", "two", "short", "long"] ["one", "two"] (defScope sMeet) := ⟨rfl, rfl, rfl, by decide +kernel, rfl, by decide +kernel, by decide +kernel⟩
theorem ok_signs (F : FnP K "_law_signs" sSigns f fd) (FP : FnOk P w K mg base CX0 2 fP dP ["jug", "items"] (spPickS K)) (gP : mg "_law_pick" = some (.ref fP)) (kP : PySem.W.keepIn K (.ref fP) = true) (bP : Binds K dP ["jug", "items"] []) :
    FnOk P w K mg base CX0 3 f fd ["jug"] spSigns := by
  refine F.ok scSigns (fun vs H Q E h => ?_) (fun cdv A outer s H vs Q E hr h => ?_)
  · obtain ⟨j, rfl, _⟩ := h
    rfl
  · obtain ⟨j, rfl, hj, q⟩ := h
    refine ⟨_, PSs.nox (pss_one (ps_ret (pe_call FP hr (by rfl) gP kP bP .nil pass0 (pa_cons (pv 0) (pa_cons (pe_lst (pa_cons pe_str (pa_cons pe_str (pa_cons pe_str (pa_cons pe_str (pa_cons pe_str (pa_cons pe_str pa_nil))))))) pa_nil))))), ?_⟩
    refine ⟨_, rfl, by show 6 ≤ sizeLine; decide, fun p hp => ?_⟩
    have npj := jug_none hj hp
    have k0 := (Kj.refl hj).new hp npj (o := .lst (fourS.map V.str))
    refine ⟨j, _, rfl, k0.2, Or.inl ⟨p, fourS.map V.str, rfl, SqL.of upd_same, npj, by simp [fourS], by simp [fourS], fun y H' my k1 => ?_⟩⟩
    obtain ⟨x, mx, rfl⟩ := List.mem_map.mp my
    exact q x H' mx (k0.trans k1)
theorem ok_meet (F : FnP K "_law_meet" sMeet f fd) (M : Free mg) : FnOk P w K mg base CX0 1 f fd ["one", "two"] spMeet := by
  refine F.ok scMeet (fun vs H Q E h => ?_) (fun cdv A outer s H vs Q E hr h => ?_)
  · obtain ⟨a, b, rfl, _⟩ := h
    rfl
  · obtain ⟨a, b, rfl, la, lb, q⟩ := h
    have hs : sizeLine = 16777216 := sizeLine_eq
    refine ⟨_, PSs.nox (pss_cons (ps_asg (pe_ifExp (pt_cmpR op_le (pe_callB call_len (by rfl) M.len PySem.boot_len (pa_cons (pv 0) pa_nil)) (pe_callB call_len (by rfl) M.len PySem.boot_len (pa_cons (pv 1) pa_nil)) (nomark _))
          (pe_tup (pa_cons (pv 0) (pa_cons (pv 1) pa_nil))) (pe_tup (pa_cons (pv 1) (pa_cons (pv 0) pa_nil))))
        (pg_tup (by rfl) (pgs_cons (pg_name (i := 2) scMeet.nd rfl (.inl rfl)) (pgs_cons (pg_name (i := 3) scMeet.nd rfl (.inl rfl)) pgs_nil))))
      (pss_one (ps_ret (pe_or (pe_cmpR op_eq (pe_slice sl_str (pv 3) po_none (po_some (pe_callB call_len (by rfl) M.len PySem.boot_len (pa_cons (pv 2) pa_nil)))) (pv 2) (nomark _))
        (pe_one (pe_cmpR op_eq (pe_slice sl_str (pv 3) (po_some (pe_op op_sub (pe_callB call_len (by rfl) M.len PySem.boot_len (pa_cons (pv 3) pa_nil)) (pe_callB call_len (by rfl) M.len PySem.boot_len (pa_cons (pv 2) pa_nil)))) po_none) (pv 2) (nomark _))))))), ?_⟩
    refine ⟨_, rfl, _, a.length, rfl, ⟨by omega, rfl⟩, _, rfl, _, b.length, rfl, ⟨by omega, rfl⟩, _, _, rfl, rfl, _, rfl, ?_⟩
    have rest : ∀ (s l : Str) (T : Addr), H T = none → s.length ≤ l.length → l.length ≤ 8000 → meetB a b = (Txt.startswith l s || Txt.endswith l s) → Q (.bl (Txt.startswith l s || Txt.endswith l s)) (upd H T (.tup [.str s, .str l])) := fun s l T hT _ _ e => by
      rw [← e]
      exact q _ ((Ext.refl H).new hT)
    refine ite2 (fun c => ?a) (fun c => ?b)
    case' a =>
      have c := of_decide_eq_true c
      refine ⟨_, rfl, _, rfl, by show 2 ≤ sizeLine; decide, fun T hT => ⟨T, _, rfl, SqT.of upd_same, rfl, _, _, rfl, _, _, rfl, rfl, ?_⟩⟩
      have r := rest a b T hT (by omega) lb (by unfold meetB; rw [if_pos (by omega)])
      have cle : a.length ≤ b.length := by omega
    case' b =>
      have c := of_decide_eq_false (Bool.not_eq_true _ ▸ c)
      refine ⟨_, rfl, _, rfl, by show 2 ≤ sizeLine; decide, fun T hT => ⟨T, _, rfl, SqT.of upd_same, rfl, _, _, rfl, _, _, rfl, rfl, ?_⟩⟩
      have r := rest b a T hT (by omega) la (by unfold meetB; rw [if_neg (by omega)])
      have cle : b.length ≤ a.length := by omega
    all_goals
      refine ⟨_, rfl, _, rfl, _, _, rfl, ⟨by omega, rfl⟩, _, rfl, _, rfl, by omega, _, rfl, rfl, _, rfl, ?_⟩
      rw [cut_starts cle]
      generalize Txt.startswith _ _ = g at r ⊢
      cases g with
      | true => exact iteT r
      | false =>
        refine iteF ⟨_, rfl, _, rfl, _, _, rfl, ⟨by omega, rfl⟩, _, rfl, _, _, rfl, ⟨by omega, rfl⟩, _, _, rfl, rfl, _, rfl, _, rfl, by omega, _, rfl, rfl, ?_⟩
        rw [cut_ends cle]
        exact r
end
end B17

/-! the first two that clash -/
namespace XSt
open PySem PySem.Spec PyProof.Rows L2
/-- the first two, in order, that clash -/
def firstV : List Str → Option (Str × Str)
  | [] => none
  | a :: r => match r.find? (meetB a) with
    | some b => some (a, b)
    | none => firstV r
theorem between : ∀ {x z t : List Nat}, x ≤ z → z ≤ x ++ t → x <+: z
  | [], z, t, _, _ => ⟨z, rfl⟩
  | a :: x, [], t, h, _ => by
    exact absurd h (by simp [List.le_iff_lt_or_eq])
  | a :: x, b :: z, t, h, g => by
    rw [List.cons_append] at g
    rw [List.cons_le_cons_iff] at h g
    rcases h with h | ⟨rfl, h⟩
    · rcases g with g | ⟨g, _⟩
      · omega
      · omega
    · rcases g with g | ⟨_, g⟩
      · omega
      · obtain ⟨u, e⟩ := between h g
        exact ⟨u, by rw [List.cons_append, e]⟩
theorem pre_le {x y : List Nat} (h : x <+: y) : x ≤ y := by
  obtain ⟨t, rfl⟩ := h
  exact List.le_append_left
theorem adj_cons {x y : Str} {l : List Str} (h : adjB (x :: y :: l) = false) : ¬ cs x <+: cs y ∧ adjB (y :: l) = false := by
  unfold adjB at h
  rw [List.tail_cons, List.zip_cons_cons, List.any_cons, Bool.or_eq_false_iff] at h
  refine ⟨fun z => ?_, h.2⟩
  have z2 := starts_iff.mpr z
  rw [h.1] at z2
  cases z2
theorem adj_full : ∀ {l : List Str}, l.Pairwise (fun a b => sLe a b = true) → adjB l = false → NoPre l
  | [], _, _ => fun x hx => by cases hx
  | [a], _, _ => fun x hx y hy n => absurd ((List.mem_singleton.mp hx).trans (List.mem_singleton.mp hy).symm) n
  | x :: z :: l, srt, h => by
    obtain ⟨h1, h2⟩ := adj_cons h
    have ih := adj_full (List.pairwise_cons.mp srt).2 h2
    have le : ∀ y ∈ z :: l, cs x ≤ cs y := fun y m => of_decide_eq_true ((List.pairwise_cons.mp srt).1 y m)
    have lz : ∀ y ∈ z :: l, cs z ≤ cs y := fun y m => by
      rcases List.mem_cons.mp m with rfl | m
      · exact List.le_refl _
      · exact of_decide_eq_true ((List.pairwise_cons.mp (List.pairwise_cons.mp srt).2).1 y m)
    have nx : ∀ y ∈ z :: l, ¬ cs x <+: cs y := fun y m q => by
      obtain ⟨t, e⟩ := q
      exact h1 (between (t := t) (le z List.mem_cons_self) (by rw [e]; exact lz y m))
    intro a ma b mb n q
    rcases List.mem_cons.mp ma with e0 | ma' <;> rcases List.mem_cons.mp mb with e | mb'
    · exact n (e0.trans e.symm)
    · rw [e0] at q
      exact nx b mb' q
    · rw [e] at q
      exact n (by rw [e]; exact cs_inj (List.le_antisymm (pre_le q) (le a ma')))
    · exact ih a ma' b mb' n q
theorem firstV_none : ∀ {l : List Str}, l.Nodup → NoPre l → NoSuf l → firstV l = none
  | [], _, _, _ => rfl
  | a :: r, nd, np, ns => by
    have e : r.find? (meetB a) = none := by
      rw [List.find?_eq_none]
      intro b mb z
      have ne : a ≠ b := fun e => (List.nodup_cons.mp nd).1 (e ▸ mb)
      unfold meetB at z
      split at z
      · rw [Bool.or_eq_true] at z
        rcases z with z | z
        · exact np a List.mem_cons_self b (List.mem_cons_of_mem _ mb) ne (starts_iff.mp z)
        · exact ns a List.mem_cons_self b (List.mem_cons_of_mem _ mb) ne (ends_iff.mp z)
      · rw [Bool.or_eq_true] at z
        rcases z with z | z
        · exact np b (List.mem_cons_of_mem _ mb) a List.mem_cons_self ne.symm (starts_iff.mp z)
        · exact ns b (List.mem_cons_of_mem _ mb) a List.mem_cons_self ne.symm (ends_iff.mp z)
    unfold firstV
    rw [e]
    exact firstV_none (List.nodup_cons.mp nd).2 (fun x hx y hy => np x (List.mem_cons_of_mem _ hx) y (List.mem_cons_of_mem _ hy)) (fun x hx y hy => ns x (List.mem_cons_of_mem _ hx) y (List.mem_cons_of_mem _ hy))
theorem NoPre.unrev {l : List Str} (h : NoPre (l.map revS)) : NoSuf l := by
  intro x hx y hy n z
  refine h _ (List.mem_map_of_mem hx) _ (List.mem_map_of_mem hy) (fun e => n (rev_inj e)) ?_
  rw [cs_rev, cs_rev, List.reverse_prefix]
  exact z
theorem sorted_adj {l : List Str} (h : adjB (l.mergeSort sLe) = false) : NoPre l :=
  (adj_full (List.pairwise_mergeSort sLe_ord.tr sLe_ord.tot _) h).perm fun x => (List.mergeSort_perm _ _).mem_iff.symm
/-- where no neighbours begin one another, on either side, none clash -/
theorem first_by_adj {l : List Str} (nd : l.Nodup) (h1 : adjB (l.mergeSort sLe) = false) (h2 : adjB ((l.map revS).mergeSort sLe) = false) : firstV l = none :=
  firstV_none nd (sorted_adj h1) (sorted_adj h2).unrev
theorem firstV_drop {l : List Str} {i : Nat} {a : Str} (g : l[i]? = some a) : firstV (l.drop i) = match (l.drop (i + 1)).find? (meetB a) with
    | some b => some (a, b)
    | none => firstV (l.drop (i + 1)) := by
  obtain ⟨hi, e⟩ := List.getElem?_eq_some_iff.mp g
  rw [List.drop_eq_getElem_cons hi, e]
  rfl
theorem firstV_mem : ∀ {l : List Str} {a b : Str}, firstV l = some (a, b) → a ∈ l ∧ b ∈ l ∧ meetB a b = true
  | [], _, _, h => by cases h
  | x :: r, a, b, h => by
    unfold firstV at h
    cases e : r.find? (meetB x) with
    | some y =>
      rw [e] at h
      cases h
      exact ⟨List.mem_cons_self, List.mem_cons_of_mem _ (List.mem_of_find?_eq_some e), List.find?_some e⟩
    | none =>
      rw [e] at h
      obtain ⟨m1, m2, m3⟩ := firstV_mem h
      exact ⟨List.mem_cons_of_mem _ m1, List.mem_cons_of_mem _ m2, m3⟩
/-- no first two: none clash -/
theorem none_clash : ∀ {l : List Str}, firstV l = none → NoPre l ∧ NoSuf l
  | [], _ => ⟨(fun x hx => by cases hx), (fun x hx => by cases hx)⟩
  | a :: r, h => by
    unfold firstV at h
    cases e : r.find? (meetB a) with
    | some y =>
      rw [e] at h
      cases h
    | none =>
      rw [e] at h
      obtain ⟨np, ns⟩ := none_clash h
      have fr : ∀ b ∈ r, meetB a b = false := fun b m => Bool.eq_false_iff.mpr (List.find?_eq_none.mp e b m)
      constructor
      · intro x mx y my n
        rcases List.mem_cons.mp mx with e1 | mx' <;> rcases List.mem_cons.mp my with e2 | my'
        · exact absurd (e1.trans e2.symm) n
        · rw [e1]
          exact (meet_free (fr y my')).1.1
        · rw [e2]
          exact (meet_free (fr x mx')).1.2
        · exact np x mx' y my' n
      · intro x mx y my n
        rcases List.mem_cons.mp mx with e1 | mx' <;> rcases List.mem_cons.mp my with e2 | my'
        · exact absurd (e1.trans e2.symm) n
        · rw [e1]
          exact (meet_free (fr y my')).2.1
        · rw [e2]
          exact (meet_free (fr x mx')).2.2
        · exact ns x mx' y my' n
theorem find_at : ∀ {l : List Str} {j : Nat} {b : Str} {p : Str → Bool}, l[j]? = some b → p b = true → (∀ x ∈ l.take j, p x = false) → l.find? p = some b
  | [], j, b, p, g, _, _ => by simp at g
  | x :: l, 0, b, p, g, h, _ => by
    obtain rfl : x = b := by simpa using g
    rw [List.find?_cons, h]
  | x :: l, j + 1, b, p, g, h, k => by
    have hx : p x = false := k x (by rw [List.take_succ_cons]; exact List.mem_cons_self)
    rw [List.find?_cons, hx]
    exact find_at (by simpa using g) h fun y m => k y (by rw [List.take_succ_cons]; exact List.mem_cons_of_mem _ m)
theorem find_no {l : List Str} {p : Str → Bool} (k : ∀ x ∈ l, p x = false) : l.find? p = none := by
  rw [List.find?_eq_none]
  intro x m z
  rw [k x m] at z
  cases z
theorem cut_from (xs : List V) (n : Nat) : cutV xs (some (n : Int)) none = xs.drop n := by
  unfold cutV
  have e1 : HT.sIx xs.length 0 (some (n : Int)) = min n xs.length := HT.sIx_nat xs.length 0 n
  rw [e1, HT.sIx_none]
  by_cases h : n ≤ xs.length
  · rw [Nat.min_eq_left h]
    rw [List.take_of_length_le]
    simp
  · rw [Nat.min_eq_right (by omega), List.drop_of_length_le (Nat.le_refl _), List.drop_of_length_le (by omega)]
    simp
end XSt

/-! enumerate of a tuple -/
namespace XN
open PySem PySem.Spec PyProof.Rows L2
open Sem (wp)
open AutoSeq1 (wpAny_loadPart')
theorem meets_enumerate_newT (l : Addr) (items : Array Value) (n : Nat) (dct : Option Addr) (sl : Array (Option Value)) :
    Meets (Builtin.«enumerate.__new__» ⟨[.type "enumerate", .ref l], []⟩) (fun _ R s => s.heap.get? l = some { cls := .type "tuple", dict := dct, data := .seq items n, slots := sl } ∧
      R (.ok (.ret (.ref (s.heap.push { cls := .type "tuple_iterator", data := .fields #[.ref l, .int 0 0] }).objs.size)))
        { s with heap := (s.heap.push { cls := .type "tuple_iterator", data := .fields #[.ref l, .int 0 0] }).push { cls := .type "enumerate", data := .fields #[.none, .bool false, .ref s.heap.objs.size, rawInt 0, .none, .none] } }) :=
  .of_wp fun prog w A R s h => by
    obtain ⟨hp, g, d, tk, os⟩ := s; obtain ⟨hl, h⟩ := h
    have hsub := sub_enumerate
    have hL : Heap.IsTuple (Shared.heap ⟨hp, g, d, tk, os⟩) l items := ⟨_, hl, rfl, n, rfl⟩
    wp_walk using wpAny_loadPart' hl
    refine wpAny_stack_any fun st => wpAny_pure ?_
    split
    · rename_i c _ _ _ _ _
      cases (c == Value.type "enumerate")
      · wp_walk using wpAny_loadPart' hl, wpAny_pyIter_tuple hL
        exact ⟨_, rfl, h⟩
      · wp_walk using wpAny_loadPart' hl, wpAny_pyIter_tuple hL
        exact ⟨_, rfl, h⟩
    · wp_walk using wpAny_loadPart' hl, wpAny_pyIter_tuple hL
      exact ⟨_, rfl, h⟩
section
variable {prog : Program} {w : World} {A : Around} {E : Value → Shared → Prop} {s : Shared}
theorem call_enumerate_tup {l : Addr} {items : Array Value} {Q : Value → Shared → Prop} (hL : s.heap.IsTuple l items)
    (h : ∀ h', IsEnum h' (s.heap.objs.size + 1) s.heap.objs.size 0 .none → h'.IsTupleIter s.heap.objs.size l 0 → h'.objs.size = s.heap.objs.size + 2 →
      (∀ b o, s.heap.get? b = some o → h'.get? b = some o) → Q (.ref (s.heap.objs.size + 1)) { s with heap := h' }) :
    wpAny (model prog w) A (call (.type "enumerate") [.ref l]) Q E s := by
  obtain ⟨⟨c, dct, dt, sl⟩, hl, hc, n, hd⟩ := hL
  replace hc : c = .type "tuple" := hc
  replace hd : dt = .seq items n := hd
  subst hc hd
  refine callType_new F.called_enumerate (by decide) (F.typeCall_enumerate_1 _) (F.newCall_enumerate_1 _) (fun obj => F.args_object_init_2 obj _) F.entry_enumerate_new
    (meets_enumerate_newT l items n dct sl) ⟨hl, ?_⟩
  have hz : (s.heap.push { cls := .type "tuple_iterator", data := .fields #[.ref l, .int 0 0] }).objs.size = s.heap.objs.size + 1 := Heap.size_push ..
  show _ ∧ _
  rw [hz]
  have he : IsEnum ((s.heap.push { cls := .type "tuple_iterator", data := .fields #[.ref l, .int 0 0] }).push
      { cls := .type "enumerate", data := .fields #[.none, .bool false, .ref s.heap.objs.size, rawInt 0, .none, .none] }) (s.heap.objs.size + 1) s.heap.objs.size 0 .none := by
    have := Heap.get?_push_size (s.heap.push { cls := .type "tuple_iterator", data := .fields #[.ref l, .int 0 0] })
      (o := { cls := .type "enumerate", data := .fields #[.none, .bool false, .ref s.heap.objs.size, rawInt 0, .none, .none] }) rfl
    rw [hz] at this; exact this
  refine ⟨⟨_, he, rfl⟩, h _ he ⟨_, Heap.get?_push_of_some _ (Heap.get?_push_size _ rfl), rfl, rfl⟩ (by rw [Heap.size_push, hz]) fun b o x => Heap.get?_push_of_some _ (Heap.get?_push_of_some _ x)⟩
end
/-- the tuple at a as it stands, its items in new pairs with their numbers -/
def IteT (K : PySem.W.Frag) (a : Addr) : It :=
  ⟨fun i H => ∃ (xs : List V) (x : V), SqT K H a xs ∧ xs[i]? = some x, fun i H v H' => ∃ T x, v = .ref T ∧ H T = none ∧ H' = upd H T (.tup [.int (i : Nat), x]) ∧ ∀ xs, SqT K H a xs → xs[i]? = some x, fun i H => ∃ xs : List V, SqT K H a xs ∧ xs.length ≤ i⟩
theorem turn_enumT {P : Program} {w : World} {K : PySem.W.Frag} {elts : List Expr} {kk : Nat} {tpos : Pos} (a e it : Addr) :
    Turn P w K (.Tuple elts kk tpos) (IteT K a) [e, it] e (fun i h => (∃ old, IsEnum h e it ((i : Nat) : Int) old) ∧ h.IsTupleIter it a i ∧ e ≠ it ∧ a ≠ it ∧ e ≠ a) where
  mem := by simp
  obj := fun i h st b hb => by
    obtain ⟨⟨old, he⟩, ⟨o, ho, hc, hd⟩, _⟩ := st
    have e' : b = e ∨ b = it := by simpa using hb
    rcases e' with z | z
    · rw [z]; exact ⟨_, he, fun v q => nomatch q⟩
    · rw [z]; exact ⟨o, ho, fun v q => by rw [hd] at q; cases q⟩
  keep := fun i h h' st k => let ⟨⟨old, he⟩, hi, hne⟩ := st; ⟨⟨old, k e (by simp) _ he⟩, hi.at fun o q => k it (by simp) o q, hne⟩
  item := by
    intro X hP hw hK hc i pins s σ H E I hf st hg
    subst hP hw hK
    obtain ⟨⟨old, he⟩, hit, hne, hai, hea⟩ := st
    obtain ⟨xs, x, hq, hx⟩ := hg
    obtain ⟨its, rv, p, hz⟩ := I.tuple hq
    obtain ⟨u, hu, ru⟩ := rv.get hx
    have hel : e < s.heap.objs.size := Heap.lt_size he
    have hil : it < s.heap.objs.size := by obtain ⟨_, q, _⟩ := hit; exact Heap.lt_size q
    have hh : X.A.in1.handled = none := I.ok.hd hc
    have hi : i < its.toArray.size := by
      have z := (List.getElem?_eq_some_iff.mp hu).1
      simpa using z
    have D := Draws.tuple (prog := X.prog) (w := X.w) (A := X.A.in1) hh it a hai its.toArray
    refine wpAny_pyNext_enum_itemD D he ⟨hit, p⟩ hi hne (by simp [hne, hea]) fun y h' tk ey ho st' hT hsz hk => ?_
    have ey : its.toArray[i]? = some y := ey
    obtain rfl : u = y := by
      have z : its.toArray[i]? = some u := by simpa using hu
      exact Option.some.inj (z.symm.trans ey)
    refine ⟨_, rfl, wpAny_letOwnedTupleGo_enum (s := { s with heap := h', toks := tk + 1 }) ho fun h'' he' sb => ?_⟩
    have hT2 : h''.get? s.heap.objs.size = some { cls := .type "tuple", data := .seq #[.int i tk, u] } := (sb.2 _ (Nat.ne_of_gt hel)).trans hT
    have new : ObjOk X.prog X.w (upd H s.heap.objs.size (.tup [.int (i : Nat), x])) h'' s.heap.objs.size (.tup [.int (i : Nat), x]) :=
      ⟨by show 2 ≤ sizeLine; decide, [.int i tk, u], .cons ⟨_, rfl⟩ (.cons ru .nil), ⟨_, hT2, rfl, _, rfl⟩⟩
    have I1 : Inv X pins σ (upd H s.heap.objs.size (.tup [.int (i : Nat), x])) { s with heap := h'', toks := tk + 1 } :=
      I.turnedNew (ch := [e, it]) (fun b ob hb q => (sb.2 b (fun z => hb (by simp [z]))).trans (hk b ob (fun z => hb (by simp [z])) (fun z => hb (by simp [z])) q)) hf (Nat.le_refl _) new
    refine ⟨.ref s.heap.objs.size, _, I1, rfl, ⟨_, x, rfl, I.hok.fresh (Nat.le_refl _), rfl, fun ys hy => by rw [I.tuple_inj hy hq]; exact hx⟩, ⟨⟨u, ?_⟩, st'.1.at fun o q => (sb.2 it (Ne.symm hne)).trans q, hne, hai, hea⟩, fun b hb => ?_⟩
    · have e1 : ((i + 1 : Nat) : Int) = (i : Int) + 1 := by omega
      rw [e1]; exact he'
    · have hb' : b < s.heap.objs.size := by
        have e' : b = e ∨ b = it := by simpa using hb
        rcases e' with z | z
        · rw [z]; exact hel
        · rw [z]; exact hil
      rw [upd_ne (Nat.ne_of_lt hb')]
      exact (hf b hb).1
  done := by
    intro X hP hw hK hc i pins s σ H E I hf st hg
    subst hP hw hK
    obtain ⟨⟨old, he⟩, hit, hne, hai, hea⟩ := st
    obtain ⟨xs, hq, hx⟩ := hg
    obtain ⟨its, rv, p, hz⟩ := I.tuple hq
    have hl := rv.length
    have hh : X.A.in1.handled = none := I.ok.hd hc
    -- the end, whatever lies behind it
    have D : Draws X.prog X.w X.A.in1 it [it, a] i (fun _ _ => False) (fun j h => j = i ∧ h.IsTupleIter it a i ∧ h.IsTuple a its.toArray) := {
      live := fun _ _ st => let ⟨o, ho, _⟩ := st.2.1; ⟨o, ho⟩
      frame := fun _ _ _ st hk => ⟨st.1, st.2.1.at fun o e => hk it (by simp) o e, st.2.2.at fun o e => hk a (by simp) o e⟩
      item := fun j s Q E hj st _ => by have := st.1; omega
      done := fun s Q E st hE => wpAny_nextOf_tuple_end hh st.2.1 st.2.2 (by simp; omega) hE }
    exact wpAny_pyNext_enum_endD D he ⟨rfl, hit, p⟩ fun h' eb => ⟨rfl, I.turnedL (t' := s.toks) (ch := [e, it]) (fun b o hb q => eb b o (fun z => hb (by simp [z])) q) hf⟩
  self := fun A i s Q E st h => let ⟨⟨_, he⟩, _⟩ := st; wpAny_pyIter_enum he h
def iEnumT (K : PySem.W.Frag) (ta : TA) : TI := fun σ H R => ta σ H fun vs H1 => ∃ a xs, vs = [.ref a] ∧ SqT K H1 a xs ∧ R (IteT K a) H1
theorem pi_enumT {X : Cx} {e : Expr} {ta : TA} {p pos tpos : Pos} {elts : List Expr} {kk : Nat} (hg : Gl X "enumerate") (hm : X.mg "enumerate" = none) (ha : PA X [e] ta) (hs : starEach [e] X.env = [(false, eval e X.env)] := by rfl) :
    PI X (.Tuple elts kk tpos) (.Call (.Name "enumerate" p) [e] [] pos) (iEnumT X.K ta) := by
  refine ⟨fun pins s σ H R I h => ?_⟩
  refine Call_ (ld_blt I hg hm boot_enumerate (PyProof.Rows.callWith_type1 (thn (ha.run pos pins s σ H _ I h) fun us s1 ⟨vs, H1, I1, r1, q1⟩ => ?_) hs rfl))
  obtain ⟨a, xs, ex, hq, q⟩ := q1
  subst ex
  cases r1 with
  | cons r rr =>
    cases rr
    cases r
    obtain ⟨its, rv, p', hz⟩ := I1.tuple hq
    have hlt : a < s1.heap.objs.size := by obtain ⟨_, q0, _⟩ := id p'; exact Heap.lt_size q0
    refine call_enumerate_tup (show s1.heap.IsTuple a its.toArray from p') fun h' he hit hsz hk => wpAny_pyIter_enum he ?_
    have I2 : Inv X pins σ H1 { s1 with heap := h' } := I1.kept (t' := s1.toks) hk
    refine ⟨s1.heap.objs.size + 1, [s1.heap.objs.size + 1, s1.heap.objs.size], _, _, H1, rfl, I2, turn_enumT a (s1.heap.objs.size + 1) s1.heap.objs.size, ⟨⟨.none, he⟩, hit, Nat.succ_ne_self _, Nat.ne_of_lt hlt, Nat.ne_of_gt (Nat.lt_succ_of_lt hlt)⟩, fun b hb => ?_, q⟩
    have e' : b = s1.heap.objs.size + 1 ∨ b = s1.heap.objs.size := by simpa using hb
    have hle : s1.heap.objs.size ≤ b := by
      rcases e' with z | z
      · rw [z]; exact Nat.le_add_right _ _
      · rw [z]; exact Nat.le_refl _
    exact I1.fpOk hle (I1.hok.fresh hle)
theorem walk_enumT {K : PySem.W.Frag} {a : Addr} {xs : List V} : Walk (IteT K a) xs.length (fun H => SqT K H a xs) (YPair (fun i => some (.int (i : Nat))) (fun i => xs[i]?)) := by
  refine ⟨fun i _ hi q => ⟨xs, xs[i], q, by simp [hi]⟩, fun _ q => ⟨xs, q, Nat.le_refl _⟩, fun i H v H' _ q y => ?_⟩
  obtain ⟨T, x, h1, h2, h3, h4⟩ := y
  exact ⟨T, .int (i : Nat), x, h1, h2, h3, rfl, h4 xs q⟩
end XN

/-! the first two that clash -/
namespace B17
open PySem PySem.Spec PyProof.Rows L2 XSt NX XB
open PySem.W (Frag)
abbrev sClash : Stmt := top 32
def spClash : Sp := fun vs H Q _ => ∃ a b : Str, vs = [.str a, .str b] ∧ a.length ≤ 8000 ∧ b.length ≤ 8000 ∧ Q (.bl (meetB a b)) H
/-- the first two that clash, or None -/
def spFirst (K : Frag) : Sp := fun vs H Q _ => ∃ (p : Addr) (ks : List Str), vs = [.ref p] ∧ H p = some (.tup (ks.map V.str)) ∧ ks.length ≤ 4096 ∧ (∀ k ∈ ks, k.length ≤ 4096) ∧ ks.Nodup ∧
  (firstV ks = none → ∀ H', Ext H H' → Q .non H') ∧ (∀ a b r H', firstV ks = some (a, b) → H r = none → Ext H H' → H' r = some (.tup [.str a, .str b]) → Q (.ref r) H')
section
variable {P : Program} {w : World} {K : Frag} {mg : Str → Option Value} {base : Heap} {f fS fC fM : Addr} {fd dS dC dM : FuncData}
theorem scClash : FnScope ["one", "other"] ["one", "other"] (defScope sClash) := ⟨rfl, rfl, rfl, by decide +kernel, rfl, by decide +kernel, by decide +kernel⟩
theorem ok_clash (F : FnP K "do_clash" sClash f fd) (M : Free mg) : FnOk P w K mg base CX0 1 f fd ["one", "other"] spClash := by
  refine F.ok scClash (fun vs H Q E h => ?_) (fun cdv A outer s H vs Q E hr h => ?_)
  · obtain ⟨a, b, rfl, _⟩ := h
    rfl
  · obtain ⟨a, b, rfl, la, lb, q⟩ := h
    have hs : sizeLine = 16777216 := sizeLine_eq
    refine ⟨_, PSs.nox (pss_cons (ps_if (pt_cmpR op_gt (pe_callB call_len (by rfl) M.len PySem.boot_len (pa_cons (pv 0) pa_nil)) (pe_callB call_len (by rfl) M.len PySem.boot_len (pa_cons (pv 1) pa_nil)) (nomark _))
        (pss_one (ps_ret (pe_or (pe_bm PySem.F.plainAttrs_str PySem.F.slot_str_startswith PySem.F.type_str_startswith mt_starts (pv 0) (pa_cons (pv 1) pa_nil)) (pe_one (pe_bm PySem.F.plainAttrs_str PySem.F.slot_str_endswith PySem.F.type_str_endswith mt_ends (pv 0) (pa_cons (pv 1) pa_nil)))))) pss_nil)
      (pss_one (ps_ret (pe_or (pe_bm PySem.F.plainAttrs_str PySem.F.slot_str_startswith PySem.F.type_str_startswith mt_starts (pv 1) (pa_cons (pv 0) pa_nil)) (pe_one (pe_bm PySem.F.plainAttrs_str PySem.F.slot_str_endswith PySem.F.type_str_endswith mt_ends (pv 1) (pa_cons (pv 0) pa_nil))))))), ?_⟩
    refine ⟨_, rfl, _, a.length, rfl, ⟨by omega, rfl⟩, _, rfl, _, b.length, rfl, ⟨by omega, rfl⟩, _, _, rfl, rfl, _, rfl, ?_⟩
    have rest : ∀ (s l : Str), meetB a b = (Txt.startswith l s || Txt.endswith l s) → Q (.bl (Txt.startswith l s || Txt.endswith l s)) H := fun s l e => by
      rw [← e]
      exact q
    refine ite2 (fun c => ?a) (fun c => ?b)
    case' a =>
      have c : (a.length : Int) > b.length := of_decide_eq_true c
      have r := rest b a (by unfold meetB; rw [if_neg (by omega)])
    case' b =>
      have c : ¬ (a.length : Int) > b.length := of_decide_eq_false (Bool.not_eq_true _ ▸ c)
      have r := rest a b (by unfold meetB; rw [if_pos (by omega)])
    all_goals
      refine ⟨_, rfl, rfl, _, rfl, _, _, rfl, rfl, _, rfl, ?_⟩
      generalize Txt.startswith _ _ = g at r ⊢
      cases g with
      | true => exact iteT r
      | false => exact iteF ⟨_, rfl, rfl, _, rfl, _, _, rfl, rfl, r⟩
theorem scFirst : FnScope ["words", "word", "at", "one", "other"] ["words"] (defScope sFirstClash) := ⟨rfl, rfl, rfl, by decide +kernel, rfl, by decide +kernel, by decide +kernel⟩
theorem ok_first (F : FnP K "first_clash" sFirstClash f fd) (mE : mg "enumerate" = none) (FS : FnOk P w K mg base CX0 1 fS dS ["words"] (spSomeBegins K)) (gS : mg "_some_begins" = some (.ref fS)) (kS : PySem.W.keepIn K (.ref fS) = true) (bS : Binds K dS ["words"] [])
    (FC : FnOk P w K mg base CX0 1 fC dC ["one", "other"] spClash) (gC : mg "do_clash" = some (.ref fC)) (kC : PySem.W.keepIn K (.ref fC) = true) (bC : Binds K dC ["one", "other"] []) :
    FnOk P w K mg base CX0 2 f fd ["words"] (spFirst K) := by
  refine F.ok scFirst (fun vs H Q E h => ?_) (fun cdv A outer s H vs Q E hr h => ?_)
  · obtain ⟨p, ks, rfl, _⟩ := h
    rfl
  · obtain ⟨p, ks, rfl, ep, few, short, nd, qn, qs⟩ := h
    have hs : sizeLine = 16777216 := sizeLine_eq
    refine ⟨_, PSs.nox (pss_cons (ps_if (PW.pt (pw_and (pt_not (pt_val (pe_call FS hr (by rfl) gS kS bS .nil pass0 (pa_cons (pv 0) pa_nil)))) (pw_and1 (pt_not (pt_val (pe_call FS hr (by rfl) gS kS bS .nil pass0
        (pa_cons (pe_lc (own := [("word", 1)]) (g := gName 1) (tt := tYes) (te := tRevS (tVar 1)) rfl scFirst.nd (pi_tup (pv 0)) (blkOk_by (N := ["words", "word", "at", "one", "other"]) (sc := defScope sFirstClash) (by decide +kernel))
          (fun _ _ _ _ _ => pg_name (i := 1) scFirst.nd rfl (Or.inl rfl)) (fun _ _ _ _ _ => pts_nil) (fun _ _ _ _ _ => by exact pe_revS (pv 1))) pa_nil))))))) (pss_one (ps_ret pe_non)) pss_nil)
      (pss_cons (ps_for PassesOwn.never rfl (XN.pi_enumT (by rfl) mE (pa_cons (pv 0) pa_nil)) (pg_tup (by rfl) (pgs_cons (pg_name (i := 2) scFirst.nd rfl (.inl rfl)) (pgs_cons (pg_name (i := 3) scFirst.nd rfl (.inl rfl)) pgs_nil)))
        (pss_one (ps_for PassesOwn.never rfl (pi_tup (pe_slice sl_tupX (pv 0) (po_some (pe_op op_add (pv 2) pe_int)) po_none)) (pg_name (i := 4) scFirst.nd rfl (.inl rfl))
          (pss_one (ps_if (pt_val (pe_call FC hr (by rfl) gC kC bC .nil pass0 (pa_cons (pv 3) (pa_cons (pv 4) pa_nil)))) (pss_one (ps_ret (pe_tup (pa_cons (pv 3) (pa_cons (pv 4) pa_nil))))) pss_nil)))))
      (pss_one (ps_ret pe_non)))), ?_⟩
    refine ⟨_, rfl, p, ks, rfl, Or.inr (SqT.of ep), few, fun H1 k1 => ⟨_, rfl, ?_⟩⟩
    cases a1 : adjB (ks.mergeSort sLe) with
    | true =>
      refine iteF (iteF ?_)
      have kc := k1
      generalize H1 = Hc at kc ⊢
      refine ⟨_, rfl, p, _, rfl, SqT.of (kc _ _ ep), ?_⟩
      refine for_it XN.walk_enumT (fun i σ H2 => ∃ o1 o2 o3 o4, σ = [some (.ref p), o1, o2, o3, o4] ∧ Ext Hc H2 ∧ firstV (ks.drop i) = firstV ks) ⟨_, _, _, _, rfl, Ext.refl _, by rw [List.drop_zero]⟩ (fun i σ H2 _ z => by obtain ⟨_, _, _, _, _, y, _⟩ := z; exact SqT.of (y _ _ (kc _ _ ep))) ?_ ?_
      · rintro i x σ H2 H3 hi ⟨o1, o2, o3, o4, rfl, k2, fe⟩ ⟨T, u, v, rfl, hT, rfl, eu, ev⟩
        have eu : some (V.int (i : Nat)) = some u := eu
        obtain rfl := Option.some.inj eu
        have ev : (ks.map V.str)[i]? = some v := ev
        rw [List.getElem?_map] at ev
        cases g : ks[i]? with
        | none => rw [g] at ev; cases ev
        | some a =>
          rw [g] at ev
          obtain rfl : V.str a = v := Option.some.inj ev
          have ha := short a (List.mem_of_getElem? g)
          have fd2 := firstV_drop g
          rw [fe] at fd2
          have k3 : Ext Hc (upd H2 T (.tup [.int (i : Nat), .str a])) := k2.new hT
          refine ⟨T, _, rfl, SqT.of upd_same, rfl, _, _, rfl, _, _, rfl, rfl, ?_⟩
          generalize upd H2 T (.tup [.int (i : Nat), .str a]) = H4 at k3 ⊢
          have ep4 := k3 _ _ (kc _ _ ep)
          refine ⟨_, rfl, _, rfl, _, _, rfl, rfl, _, rfl, p, _, rfl, ep4, fun c H5 k5 ec => ?_⟩
          have k5 : Ext H4 H5 := k5
          have ecut : cutV (ks.map V.str) (some ((i : Int) + 1)) none = (ks.drop (i + 1)).map V.str := by
            have z : ((i : Int) + 1) = ((i + 1 : Nat) : Int) := by omega
            rw [z, cut_from, List.map_drop]
          rw [ecut] at ec
          have kH5 := k3.trans k5
          have sub : ∀ b ∈ ks.drop (i + 1), b.length ≤ 4096 := fun b m => short b (List.mem_of_mem_drop m)
          generalize hrest : ks.drop (i + 1) = rest at ec fd2 sub ⊢
          refine ⟨c, rfl, ⟨_, SqT.of ec⟩, ?_⟩
          refine for_it walk_tup (fun j σ H6 => ∃ o1 o4, σ = [some (.ref p), o1, some (.int (i : Nat)), some (.str a), o4] ∧ Ext H5 H6 ∧ ∀ b ∈ rest.take j, meetB a b = false) ⟨_, _, rfl, Ext.refl _, fun b m => by simp at m⟩ (fun j σ H6 _ z => by obtain ⟨_, _, _, y, _⟩ := z; exact SqT.of (y _ _ ec)) ?_ ?_
          · rintro j x σ H6 H7 hj ⟨o1, o4, rfl, k6, no⟩ ⟨rfl, ex⟩
            rw [List.getElem?_map] at ex
            cases gj : rest[j]? with
            | none => rw [gj] at ex; cases ex
            | some b =>
              rw [gj] at ex
              obtain rfl : V.str b = x := Option.some.inj ex
              have hb := sub b (List.mem_of_getElem? gj)
              refine ⟨_, rfl, _, rfl, a, b, rfl, by omega, by omega, ?_⟩
              refine ⟨_, rfl, ?_⟩
              cases m : meetB a b with
              | true =>
                rw [find_at gj m no] at fd2
                refine iteT ⟨_, rfl, _, rfl, by show 2 ≤ sizeLine; decide, fun r hr2 => ?_⟩
                exact qs a b r _ fd2 (free_back (kc.trans (kH5.trans k6)) hr2) ((kc.trans (kH5.trans k6)).new hr2) upd_same
              | false =>
                refine iteF ⟨_, _, rfl, k6, fun y my => ?_⟩
                rw [take_more gj] at my
                rcases List.mem_append.mp my with my | my
                · exact no y my
                · rw [List.mem_singleton.mp my]
                  exact m
          · rintro σ H6 ⟨o1, o4, rfl, k6, no⟩
            rw [List.length_map, List.take_length] at no
            rw [find_no no] at fd2
            exact ⟨_, _, _, _, rfl, kH5.trans k6, fd2.symm⟩
      · rintro σ H2 ⟨o1, o2, o3, o4, rfl, k2, fe⟩
        rw [List.length_map, List.drop_length] at fe
        exact qn fe.symm _ (kc.trans k2)
    | false =>
      refine iteT ⟨_, rfl, p, rfl, ⟨_, SqT.of (k1 _ _ ep)⟩, fun D hD => ?_⟩
      refine lc_it walk_tup (fun i H2 => H2 D = some (.lst (((ks.take i).map revS).map V.str)) ∧ Ext H1 H2) ⟨upd_same, (Ext.refl _).new hD⟩ (fun i H2 _ z => SqT.of (z.2 _ _ (k1 _ _ ep))) ?_ ?_
      · rintro i x H2 H3 hi ⟨f1, f2⟩ ⟨rfl, ex⟩
        rw [List.getElem?_map] at ex
        cases g : ks[i]? with
        | none => rw [g] at ex; cases ex
        | some k =>
          rw [g] at ex
          obtain rfl : V.str k = x := Option.some.inj ex
          have sk := short k (List.mem_of_getElem? g)
          refine ⟨rfl, _, rfl, k, rfl, by omega, ?_⟩
          refine ⟨_, f1, by rw [List.length_map, List.length_map]; have := List.length_take_le i ks; rw [List.length_map] at hi; omega, ?_, fun b u e => ?_⟩
          · rw [take_more g, List.map_append, List.map_append]
            exact upd_same
          · rw [upd_ne (ne_of_none e hD)]
            exact f2 b u e
      · rintro H2 ⟨f1, f2⟩
        rw [List.length_map, List.take_length] at f1
        refine ⟨D, ks.map revS, rfl, Or.inl (SqL.of f1), by rw [List.length_map]; exact few, fun H3 k3 => ⟨_, rfl, ?_⟩⟩
        cases a2 : adjB ((ks.map revS).mergeSort sLe) with
        | false => exact iteT (qn (first_by_adj nd a1 a2) _ ((k1.trans f2).trans k3))
        | true =>
          refine iteF ?_
          have kc := (k1.trans f2).trans k3
          generalize H3 = Hc at kc ⊢
          refine ⟨_, rfl, p, _, rfl, SqT.of (kc _ _ ep), ?_⟩
          refine for_it XN.walk_enumT (fun i σ H2 => ∃ o1 o2 o3 o4, σ = [some (.ref p), o1, o2, o3, o4] ∧ Ext Hc H2 ∧ firstV (ks.drop i) = firstV ks) ⟨_, _, _, _, rfl, Ext.refl _, by rw [List.drop_zero]⟩ (fun i σ H2 _ z => by obtain ⟨_, _, _, _, _, y, _⟩ := z; exact SqT.of (y _ _ (kc _ _ ep))) ?_ ?_
          · rintro i x σ H2 H3 hi ⟨o1, o2, o3, o4, rfl, k2, fe⟩ ⟨T, u, v, rfl, hT, rfl, eu, ev⟩
            have eu : some (V.int (i : Nat)) = some u := eu
            obtain rfl := Option.some.inj eu
            have ev : (ks.map V.str)[i]? = some v := ev
            rw [List.getElem?_map] at ev
            cases g : ks[i]? with
            | none => rw [g] at ev; cases ev
            | some a =>
              rw [g] at ev
              obtain rfl : V.str a = v := Option.some.inj ev
              have ha := short a (List.mem_of_getElem? g)
              have fd2 := firstV_drop g
              rw [fe] at fd2
              have k3 : Ext Hc (upd H2 T (.tup [.int (i : Nat), .str a])) := k2.new hT
              refine ⟨T, _, rfl, SqT.of upd_same, rfl, _, _, rfl, _, _, rfl, rfl, ?_⟩
              generalize upd H2 T (.tup [.int (i : Nat), .str a]) = H4 at k3 ⊢
              have ep4 := k3 _ _ (kc _ _ ep)
              refine ⟨_, rfl, _, rfl, _, _, rfl, rfl, _, rfl, p, _, rfl, ep4, fun c H5 k5 ec => ?_⟩
              have k5 : Ext H4 H5 := k5
              have ecut : cutV (ks.map V.str) (some ((i : Int) + 1)) none = (ks.drop (i + 1)).map V.str := by
                have z : ((i : Int) + 1) = ((i + 1 : Nat) : Int) := by omega
                rw [z, cut_from, List.map_drop]
              rw [ecut] at ec
              have kH5 := k3.trans k5
              have sub : ∀ b ∈ ks.drop (i + 1), b.length ≤ 4096 := fun b m => short b (List.mem_of_mem_drop m)
              generalize hrest : ks.drop (i + 1) = rest at ec fd2 sub ⊢
              refine ⟨c, rfl, ⟨_, SqT.of ec⟩, ?_⟩
              refine for_it walk_tup (fun j σ H6 => ∃ o1 o4, σ = [some (.ref p), o1, some (.int (i : Nat)), some (.str a), o4] ∧ Ext H5 H6 ∧ ∀ b ∈ rest.take j, meetB a b = false) ⟨_, _, rfl, Ext.refl _, fun b m => by simp at m⟩ (fun j σ H6 _ z => by obtain ⟨_, _, _, y, _⟩ := z; exact SqT.of (y _ _ ec)) ?_ ?_
              · rintro j x σ H6 H7 hj ⟨o1, o4, rfl, k6, no⟩ ⟨rfl, ex⟩
                rw [List.getElem?_map] at ex
                cases gj : rest[j]? with
                | none => rw [gj] at ex; cases ex
                | some b =>
                  rw [gj] at ex
                  obtain rfl : V.str b = x := Option.some.inj ex
                  have hb := sub b (List.mem_of_getElem? gj)
                  refine ⟨_, rfl, _, rfl, a, b, rfl, by omega, by omega, ?_⟩
                  refine ⟨_, rfl, ?_⟩
                  cases m : meetB a b with
                  | true =>
                    rw [find_at gj m no] at fd2
                    refine iteT ⟨_, rfl, _, rfl, by show 2 ≤ sizeLine; decide, fun r hr2 => ?_⟩
                    exact qs a b r _ fd2 (free_back (kc.trans (kH5.trans k6)) hr2) ((kc.trans (kH5.trans k6)).new hr2) upd_same
                  | false =>
                    refine iteF ⟨_, _, rfl, k6, fun y my => ?_⟩
                    rw [take_more gj] at my
                    rcases List.mem_append.mp my with my | my
                    · exact no y my
                    · rw [List.mem_singleton.mp my]
                      exact m
              · rintro σ H6 ⟨o1, o4, rfl, k6, no⟩
                rw [List.length_map, List.take_length] at no
                rw [find_no no] at fd2
                exact ⟨_, _, _, _, rfl, kH5.trans k6, fd2.symm⟩
          · rintro σ H2 ⟨o1, o2, o3, o4, rfl, k2, fe⟩
            rw [List.length_map, List.drop_length] at fe
            exact qn fe.symm _ (kc.trans k2)
end
end B17

/-! books that are refused, whatever is given -/
namespace B17
open PySem PySem.Spec PyProof.Rows L2 XSt NX XB XE
open PySem.W (Frag)
abbrev sClashC : Stmt := top 10
abbrev sInitC : Stmt := inClass sClashC 0
abbrev sManyC : Stmt := top 9
abbrev sInitM : Stmt := inClass sManyC 0
def spInitC (K : Frag) (C : Addr) : Sp := fun vs H Q _ => ∃ (a fI : Addr) (v u : V), vs = [.ref a, v, u] ∧ InitC K C fI ∧ PySem.W.takerIn K C "one" = some none ∧ PySem.W.takerIn K C "other" = some none ∧ H a = some (exo a C none) ∧
  ∀ d H', H d = none → d ≠ a → (∀ b, b ≠ a → b ≠ d → H' b = H b) → H' a = some (exo a C (some d)) → H' d = some (exd d [("other", u), ("one", v)]) → Q .non H'
/-- the class Clash, what the text has of it -/
structure ClashK (P : Program) (w : World) (K : Frag) (mg : Str → Option Value) (base : Heap) (cC : Addr) : Prop where
  at_ : mg "Clash" = some (.ref cC)
  sub : PySem.W.subIn K (.ref cC) (.type "BaseException") = some true
  ty : PySem.W.typeIn K (.ref cC) = some (.type "type")
  t1 : PySem.W.takerIn K cC "one" = some none
  t2 : PySem.W.takerIn K cC "other" = some none
  f1 : PySem.W.findIn K (.ref cC) "one" = some none
  f2 : PySem.W.findIn K (.ref cC) "other" = some none
  xf : XfC K cC
  init : ∃ fI fd, InitC K cC fI ∧ FnOk P w K mg base CX0 1 fI fd ["self", "one", "other"] (spInitC K cC) ∧ Binds K fd ["self", "one", "other"] []
def clashF (u v : Str) : List (Str × V) := [("other", .str v), ("one", .str u)]
def spInitM (K : Frag) (C : Addr) : Sp := fun vs H Q _ => ∃ (a fI : Addr) (v : V), vs = [.ref a, v] ∧ InitC K C fI ∧ PySem.W.takerIn K C "limit" = some none ∧ H a = some (exo a C none) ∧
  ∀ d, H d = none → d ≠ a → Q .non (upd (upd H d (exd d [("limit", v)])) a (exo a C (some d)))
/-- the class TooMany, what the text has of it -/
structure ManyK (P : Program) (w : World) (K : Frag) (mg : Str → Option Value) (base : Heap) (cM : Addr) : Prop where
  at_ : mg "TooMany" = some (.ref cM)
  sub : PySem.W.subIn K (.ref cM) (.type "BaseException") = some true
  ty : PySem.W.typeIn K (.ref cM) = some (.type "type")
  t1 : PySem.W.takerIn K cM "limit" = some none
  f1 : PySem.W.findIn K (.ref cM) "limit" = some none
  xf : XfC K cM
  init : ∃ fI fd, InitC K cM fI ∧ FnOk P w K mg base CX0 1 fI fd ["self", "limit"] (spInitM K cM) ∧ Binds K fd ["self", "limit"] []
def manyF : List (Str × V) := [("limit", .int 400)]
def spInitY (K : Frag) (C cL cW cO cC cM : Addr) : Sp := fun vs H Q E => ∃ (b dx : Addr) (u v : V), vs = [.ref b, u, v] ∧ H b = some (.ins C dx []) ∧ Asked K H u ∧
  ((lettersV u = false ∧ ∀ H', Ext H H' → E (.ref cL) none H') ∨
   (lettersV u = true ∧ NoTuple K H v ∧ ∀ H', Ext H H' → E (.ref cO) none H') ∨
   ∃ x p zs, u = .str x ∧ lettersV u = true ∧ v = .ref p ∧ p ≠ b ∧ SqT K H p zs ∧ zs.length < 4096 ∧ (∀ z ∈ zs, Asked K H z) ∧
    (((∃ z ∈ zs, wordV x 400 z = false) ∧ ∀ H', Ext H H' → E (.ref cW) none H') ∨
     ∃ ys : List Str, zs = ys.map V.str ∧ (∀ y ∈ ys, wordV x 400 (.str y) = true) ∧ ys.length < 4096 ∧
      (400 < (ordT ys).length → ∀ d H', Ext H H' → H' d = some (.xd manyF) → E (.ref cM) (some d) H') ∧
      ((ordT ys).length ≤ 400 → firstV (ordT ys) = none → ∀ H', (∀ c o, c ≠ b → H c = some o → H' c = some o) → BookAt H' b C x (ordT ys) → Q .non H') ∧
      ((ordT ys).length ≤ 400 → ∀ u v, firstV (ordT ys) = some (u, v) → ∀ d H', (∀ c o, c ≠ b → H c = some o → H' c = some o) → H' d = some (.xd (clashF u v)) → E (.ref cC) (some d) H')))
section
variable {P : Program} {w : World} {K : Frag} {mg : Str → Option Value} {base : Heap} {f fO fC fW fI C cC cO cL cW cM : Addr} {fd dO dC dW dI : FuncData}
theorem scInitC : FnScope ["self", "one", "other"] ["self", "one", "other"] (defScope sInitC) := ⟨rfl, rfl, rfl, by decide +kernel, rfl, by decide +kernel, by decide +kernel⟩
theorem scInitM : FnScope ["self", "limit"] ["self", "limit"] (defScope sInitM) := ⟨rfl, rfl, rfl, by decide +kernel, rfl, by decide +kernel, by decide +kernel⟩
theorem ok_initM (F : FnM K "__init__" "TooMany.__init__" sInitM f fd) : FnOk P w K mg base CX0 1 f fd ["self", "limit"] (spInitM K C) := by
  refine F.ok scInitM (fun vs H Q E h => ?_) (fun cdv A outer s H vs Q E hr h => ?_)
  · obtain ⟨a, fI, v, rfl, _⟩ := h
    rfl
  · obtain ⟨a, fI, v, rfl, T, tn, ha, q⟩ := h
    exact ⟨_, PSs.nox (pss_one (ps_put (pv 0) (pv 1))), _, rfl, _, rfl, a, C, fI, rfl, T, tn, .inl ⟨ha, q⟩⟩
theorem ok_initC (F : FnM K "__init__" "Clash.__init__" sInitC f fd) : FnOk P w K mg base CX0 1 f fd ["self", "one", "other"] (spInitC K C) := by
  refine F.ok scInitC (fun vs H Q E h => ?_) (fun cdv A outer s H vs Q E hr h => ?_)
  · obtain ⟨a, fI, v, u, rfl, _⟩ := h
    rfl
  · obtain ⟨a, fI, v, u, rfl, T, t1, t2, ha, q⟩ := h
    refine ⟨_, PSs.nox (pss_cons (ps_put (pv 0) (pv 1)) (pss_one (ps_put (pv 0) (pv 2)))), _, rfl, _, rfl, a, C, fI, rfl, T, t1, .inl ⟨ha, fun d hd hne => ?_⟩⟩
    refine ⟨_, rfl, _, rfl, a, C, fI, rfl, T, t2, .inr ⟨d, _, upd_same, (upd_ne hne).trans upd_same, by show 1 ≤ 900; decide, ?_⟩⟩
    refine q d _ hd hne (fun b n1 n2 => ?_) ?_ upd_same
    · rw [upd_ne n2, upd_ne n1, upd_ne n2]
    · rw [upd_ne (Ne.symm hne)]
      exact upd_same

theorem ok_initY (F : FnM K "__init__" "Book.__init__" sInit f fd) (B : BookK K C) (CK : ClashK P w K mg base cC) (MM : ManyK P w K mg base cM) (M : Free mg) (gW : ∃ t, mg "MAX_WORDS" = some (.int 400 t))
    (FO : FnOk P w K mg base (L2.CX P w) 5 fO dO ["letters", "words"] (spOrderedWordsX K cL cW cO)) (gO : mg "ordered_words" = some (.ref fO)) (kO : PySem.W.keepIn K (.ref fO) = true) (bO : Binds K dO ["letters", "words"] [])
    (FC : FnOk P w K mg base CX0 2 fC dC ["words"] (spFirst K)) (gC : mg "first_clash" = some (.ref fC)) (kC : PySem.W.keepIn K (.ref fC) = true) (bC : Binds K dC ["words"] []) :
    FnOk P w K mg base (L2.CX P w) 6 f fd ["self", "letters", "words"] (spInitY K C cL cW cO cC cM) := by
  obtain ⟨tk, gW⟩ := gW
  obtain ⟨fI, dI, TC, FI, bI⟩ := CK.init
  obtain ⟨fJ, dJ, TJ, FJ, bJ⟩ := MM.init
  refine F.ok scInit (fun vs H Q E h => ?_) (fun cdv A outer s H vs Q E hr h => ?_)
  · obtain ⟨b, dx, u, v, rfl, _⟩ := h
    rfl
  · obtain ⟨b, dx, u0, v0, rfl, eb, a0, modes⟩ := h
    have hs : sizeLine = 16777216 := sizeLine_eq
    refine ⟨_, (pss_cons (ps_set (i := 3) scInit.nd rfl (.inl rfl) (pe_call FO hr (by rfl) gO kO bO .nil (passes_call (takes_of rfl rfl rfl rfl) (fun _ _ _ _ z => z)) (pa_cons (pv 1) (pa_cons (pv 2) pa_nil))))
      (pss_cons (ps_if (pt_cmpR op_gt (pe_callB call_len_seq (by rfl) M.len PySem.boot_len (pa_cons (pv 3) pa_nil)) (pe_glob (v := .int 400) (by rfl) gW ⟨tk, rfl⟩) (nomark _)) (pss_one (ps_raise (W := fun cls d _ H => E cls d H) rfl (takes_of rfl rfl rfl rfl) (pmk_new TJ (raises_own MM.sub MM.ty) FJ (hr.mono (by decide)) bJ (by rfl) MM.at_ (pa_cons (pe_glob (v := .int 400) (by rfl) gW ⟨tk, rfl⟩) pa_nil)))) pss_nil)
      (pss_cons (ps_set (i := 4) scInit.nd rfl (.inl rfl) (pe_call FC (hr.mono (by decide)) (by rfl) gC kC bC .nil pass0 (pa_cons (pv 3) pa_nil)))
      (pss_cons (ps_if (pt_cmpR op_notN (pv 4) pe_non (nomark _)) (pss_one (ps_raise (W := fun cls d _ H => E cls d H) rfl (takes_of rfl rfl rfl rfl) (pmk_new TC (raises_own CK.sub CK.ty) FI (hr.mono (by decide)) bI (by rfl) CK.at_ (pa_cons (pe_ix ix_tup (pv 4) pe_int (fun _ _ => rfl)) (pa_cons (pe_ix ix_tup (pv 4) pe_int (fun _ _ => rfl)) pa_nil))))) pss_nil)
      (pss_cons (ps_fld (pv 0) (pv 1) rfl) (pss_cons (ps_fld (pv 0) (pv 3) rfl)
      (pss_one (ps_fld (pv 0) (pe_dc (own := [("word", 5)]) (g := gName 5) (tt := tYes) (tk := tVar 5) (tv := tC (.bl true)) rfl scInit.nd (pi_tup (pv 3)) (blkOk_by (N := ["self", "letters", "words", "different", "clash", "word"]) (sc := defScope sInit) (by decide +kernel))
        (fun _ _ _ _ _ => pg_name (i := 5) scInit.nd rfl (Or.inl rfl)) (fun _ _ _ _ _ => pts_nil) (fun _ _ _ _ _ => pv 5) (fun _ _ _ _ _ => pe_bl)) rfl)))))))), ?_⟩
    have nb : ∀ {d : Addr}, H d = none → d ≠ b := fun {d} hd z => by
      rw [z, eb] at hd
      cases hd
    rcases modes with ⟨m, q⟩ | ⟨m, nt, q⟩ | ⟨x, p, zs, rfl, m, rfl, npb, sq, lz, all, rest⟩
    · exact ⟨_, rfl, _, rfl, u0, v0, rfl, a0, Or.inl ⟨m, q⟩⟩
    · exact ⟨_, rfl, _, rfl, u0, v0, rfl, a0, Or.inr (Or.inl ⟨m, nt, q⟩)⟩
    rcases rest with ⟨bad, q⟩ | ⟨ys, rfl, fine, few, qm, q, qe⟩
    · exact ⟨_, rfl, _, rfl, _, _, rfl, a0, Or.inr (Or.inr ⟨x, p, zs, rfl, m, rfl, sq, lz, all, Or.inl ⟨bad, q⟩⟩)⟩
    refine ⟨_, rfl, _, rfl, _, _, rfl, a0, Or.inr (Or.inr ⟨x, p, _, rfl, m, rfl, sq, lz, all, Or.inr ⟨ys, rfl, fine, few, fun d H1 hd k1 e1 => ?_⟩⟩)⟩
    have gw : ∀ y ∈ ys, y.length ≤ 400 := fun y my => by
      have z2 : (decide (Txt.stripChars y x = ⟨#[]⟩) && (decide (1 ≤ y.length) && decide (y.length ≤ 400))) = true := fine y my
      rw [Bool.and_eq_true, Bool.and_eq_true, decide_eq_true_eq, decide_eq_true_eq, decide_eq_true_eq] at z2
      exact z2.2.2
    have ltw := ordT_len ys
    have eb1 := k1 _ _ eb
    have nbd : d ≠ b := fun z => by
      rw [z, eb] at hd
      cases hd
    refine ⟨_, rfl, d, _, rfl, .inr (SqT.of e1), _, _, rfl, rfl, _, rfl, ?_⟩
    rw [List.length_map]
    by_cases big : 400 < (ordT ys).length
    · rw [decide_eq_true (show ((ordT ys).length : Int) > 400 by omega)]
      refine iteT ⟨by show 1 ≤ 1000; decide, fun e he => ⟨e, fJ, .int 400, rfl, TJ, MM.t1, upd_same, fun dd hd1 hne => ⟨rfl, dd, _, upd_same, by rw [upd_ne hne]; exact upd_same, ?_, qm big dd _ (fun c o z => ?_) upd_same⟩⟩⟩
      · rw [upd_ne hne] at hd1
        exact hd1
      · have z1 := k1 _ _ z
        have n1 := ne_of_none z1 he
        rw [upd_ne hne] at hd1
        have n2 := ne_of_none z1 hd1
        rw [upd_ne n2, del_ne n1, upd_ne n1, upd_ne n2, upd_ne n1]
        exact z1
    have lim : (ordT ys).length ≤ 400 := by omega
    rw [decide_eq_false (show ¬ (((ordT ys).length : Int) > 400) by omega)]
    refine iteF ⟨_, rfl, d, ordT ys, rfl, e1, by omega, fun k m => Nat.le_trans (gw k (ordT_mem.mp m)) (by decide), ordT_nodup ys, fun fv H2 k2 => ?_, fun u v r H2 fv hr2 k2 er => ?_⟩
    · have eb2 := k2 _ _ eb1
      have e2 := k2 _ _ e1
      refine ⟨.non, rfl, rfl, _, rfl, iteF ?_⟩
      refine ⟨_, rfl, _, rfl, b, C, dx, [], rfl, eb2, B.cls, B.nl, by decide, ?_⟩
      refine ⟨_, rfl, _, rfl, b, C, dx, [("_letters", .str x)], rfl, upd_same, B.cls, B.nw, (by show 1 < 1000; decide), ?_⟩
      generalize eH3 : upd (upd H2 b (.ins C dx (putF "_letters" (.str x) []))) b (.ins C dx (putF "_words" (.ref d) [("_letters", .str x)])) = H3
      have off : ∀ c o, c ≠ b → H c = some o → H3 c = some o := fun c o n e => by
        rw [← eH3, upd_ne n, upd_ne n]
        exact k2 _ _ (k1 _ _ e)
      have e3 : H3 d = some (.tup ((ordT ys).map V.str)) := by
        rw [← eH3, upd_ne nbd, upd_ne nbd]
        exact e2
      have eb3 : H3 b = some (.ins C dx [("_letters", .str x), ("_words", .ref d)]) := by
        rw [← eH3]
        exact upd_same
      refine ⟨_, rfl, d, rfl, ⟨_, SqT.of e3⟩, fun D hD => ?_⟩
      have nDd : d ≠ D := ne_of_none e3 hD
      have nDb : b ≠ D := ne_of_none eb3 hD
      have nd := ordT_nodup ys
      have q := q lim fv
      have q := q
      generalize ordT ys = ws at e3 lim nd q ⊢
      refine dc_tup (K := K) (a := d) (xs := ws.map V.str) (fun i H4 => H4 D = some (.dK (knownK (ws.take i))) ∧ Ext H3 H4) ⟨upd_same, (Ext.refl _).new hD⟩ (fun i H4 _ z => SqT.of (z.2 _ _ e3)) ?_ ?_
      · rintro i v H4 ev ⟨f1, f2⟩
        rw [List.getElem?_map] at ev
        cases g : ws[i]? with
        | none => rw [g] at ev; cases ev
        | some k =>
          rw [g] at ev
          obtain rfl : V.str k = v := Option.some.inj ev
          have new : valV (knownK (ws.take i)) (Sum.inr k) = none := by
            have y := known_val k (ws.take i)
            have nm : ¬ k ∈ ws.take i := fresh_take nd g
            rw [decide_eq_false nm] at y
            cases z : valV (knownK (ws.take i)) (Sum.inr k) with
            | none => rfl
            | some u => rw [z] at y; cases y
          refine ⟨rfl, _, rfl, _, Sum.inr k, rfl, f1, by unfold knownK; rw [List.length_map]; have := List.length_take_le i ws; have := (List.getElem?_eq_some_iff.mp g).1; omega, ?_, fun c o e => ?_⟩
          · rw [putK_new _ new, take_more g]
            unfold knownK
            rw [List.map_append]
            exact upd_same
          · rw [upd_ne (ne_of_none e hD)]
            exact f2 _ _ e
      · rintro H4 ⟨f1, f2⟩
        rw [List.length_map, List.take_length] at f1
        refine ⟨_, rfl, b, C, dx, _, rfl, f2 _ _ eb3, B.cls, B.nk, (by show 2 < 1000; decide), ?_⟩
        refine q _ (fun c o n e => ?_) ⟨dx, d, D, upd_same, ?_, ?_⟩
        · rw [upd_ne n]
          exact f2 _ _ (off c o n e)
        · rw [upd_ne nbd]
          exact f2 _ _ e3
        · rw [upd_ne nDb.symm]
          exact f1
    · refine ⟨.ref r, rfl, rfl, _, rfl, iteT ?_⟩
      refine ⟨_, rfl, r, _, _, _, rfl, rfl, SqT.of er, atI_nat (j := 0) (v := V.str u) rfl, _, rfl, r, _, _, _, rfl, rfl, SqT.of er, atI_nat (j := 1) (v := V.str v) rfl, ?_⟩
      refine ⟨by show 2 ≤ 1000; decide, fun e he => ⟨e, fI, .str u, .str v, rfl, TC, CK.t1, CK.t2, upd_same, fun dd H' hd1 hne rest h1 h2 => ⟨rfl, dd, _, h1, h2, ?_, qe lim u v fv dd _ (fun c o nc z => ?_) upd_same⟩⟩⟩
      · rw [upd_ne hne] at hd1
        exact hd1
      · have z1 := k2 _ _ (k1 _ _ z)
        have n1 := ne_of_none z1 he
        rw [upd_ne hne] at hd1
        have n2 := ne_of_none z1 hd1
        rw [upd_ne n2, del_ne n1, rest c n1 n2, upd_ne n1]
        exact z1
end
end B17

/-! numbers, texts and books that are refused -/
namespace B17
open PySem PySem.Spec PyProof.Rows L2 XSt NX XB XE
open PySem.W (Frag)
abbrev sNumC : Stmt := top 8
abbrev sInitN : Stmt := inClass sNumC 0
def spInitN (K : Frag) (C : Addr) : Sp := fun vs H Q _ => ∃ (a fI : Addr) (v : V), vs = [.ref a, v] ∧ InitC K C fI ∧ PySem.W.takerIn K C "value" = some none ∧ H a = some (exo a C none) ∧
  ∀ d, H d = none → d ≠ a → Q .non (upd (upd H d (exd d [("value", v)])) a (exo a C (some d)))
/-- the class InvalidNumber, what the text has of it -/
structure NumK (P : Program) (w : World) (K : Frag) (mg : Str → Option Value) (base : Heap) (cN : Addr) : Prop where
  at_ : mg "InvalidNumber" = some (.ref cN)
  sub : PySem.W.subIn K (.ref cN) (.type "BaseException") = some true
  ty : PySem.W.typeIn K (.ref cN) = some (.type "type")
  t1 : PySem.W.takerIn K cN "value" = some none
  f1 : PySem.W.findIn K (.ref cN) "value" = some none
  xf : XfC K cN
  init : ∃ fI fd, InitC K cN fI ∧ FnOk P w K mg base CX0 1 fI fd ["self", "value"] (spInitN K cN) ∧ Binds K fd ["self", "value"] []
def numF (v : V) : List (Str × V) := [("value", v)]
def numV (lo hi : Int) : V → Bool
  | .int i => longV (.int i) && (decide (lo ≤ i) && decide (i ≤ hi))
  | _ => false
def spCheckNumberX (K : Frag) (cN : Addr) : Sp := fun vs H Q E => ∃ (v : V) (lo hi : Int), vs = [v, .int lo, .int hi] ∧ Asked K H v ∧ (numV lo hi v = true → ∀ H', Ext H H' → Q .non H') ∧ (numV lo hi v = false → ∀ d H', Ext H H' → H' d = some (.xd (numF v)) → E (.ref cN) (some d) H')
section
variable {P : Program} {w : World} {K : Frag} {mg : Str → Option Value} {base : Heap} {f fL fS fI fT fR fO C : Addr} {fd dL dS dI dT dR dO : FuncData} {cL cT cO cN cB : Addr}
theorem scInitN : FnScope ["self", "value"] ["self", "value"] (defScope sInitN) := ⟨rfl, rfl, rfl, by decide +kernel, rfl, by decide +kernel, by decide +kernel⟩
theorem ok_initN (F : FnM K "__init__" "InvalidNumber.__init__" sInitN f fd) : FnOk P w K mg base CX0 1 f fd ["self", "value"] (spInitN K C) := by
  refine F.ok scInitN (fun vs H Q E h => ?_) (fun cdv A outer s H vs Q E hr h => ?_)
  · obtain ⟨a, fI, v, rfl, _⟩ := h
    rfl
  · obtain ⟨a, fI, v, rfl, T, tn, ha, q⟩ := h
    exact ⟨_, PSs.nox (pss_one (ps_put (pv 0) (pv 1))), _, rfl, _, rfl, a, C, fI, rfl, T, tn, .inl ⟨ha, q⟩⟩
theorem ok_check_numberX (F : FnP K "check_number" sCheckNumber f fd) (NN : NumK P w K mg base cN) (FI : FnOk P w K mg base CX0 1 fI dI ["value"] (spIsInteger K)) (gI : mg "is_integer" = some (.ref fI)) (kI : PySem.W.keepIn K (.ref fI) = true) (bI : Binds K dI ["value"] []) :
    FnOk P w K mg base (L2.CX P w) 3 f fd ["value", "low", "high"] (spCheckNumberX K cN) := by
  obtain ⟨fJ, dJ, TJ, FJ, bJ⟩ := NN.init
  refine F.ok scCheckNumber (fun vs H Q E h => ?_) (fun cdv A outer s H vs Q E hr h => ?_)
  · obtain ⟨v, lo, hi, rfl, _⟩ := h
    rfl
  · obtain ⟨v, lo, hi, rfl, ask, q1, q2⟩ := h
    refine ⟨_, (pss_one (ps_if (PW.pt (pw_or (pt_not (pt_val (pe_call FI (hr.mono (by decide)) (by rfl) gI kI bI .nil pass0 (pa_cons (pv 0) pa_nil)))) (pw_or1 (pt_not (pt_chain op_le op_le (pv 1) (pv 0) (pv 2)))))) (pss_one (ps_raise (W := fun cls d _ H => E cls d H) rfl (takes_of rfl rfl rfl rfl) (pmk_new TJ (raises_own NN.sub NN.ty) FJ (hr.mono (by decide)) bJ (by rfl) NN.at_ (pa_cons (pv 0) pa_nil)))) pss_nil)), ?_⟩
    have refuse : numV lo hi v = false → tNewX cN (spInitN K cN) (tCons (tVar 0) tNil) [some v, some (.int lo), some (.int hi)] H (fun cls d H => E cls d H) := fun bad => by
      refine ⟨_, rfl, by show 1 ≤ 1000; decide, fun e he => ⟨e, fJ, v, rfl, TJ, NN.t1, upd_same, fun dd hd1 hne => ⟨rfl, dd, _, upd_same, by rw [upd_ne hne]; exact upd_same, ?_, q2 bad dd _ (fun c o z => ?_) upd_same⟩⟩⟩
      · rw [upd_ne hne] at hd1
        exact hd1
      · have n1 := ne_of_none z he
        rw [upd_ne hne] at hd1
        have n2 := ne_of_none z hd1
        rw [upd_ne n2, del_ne n1, upd_ne n1, upd_ne n2, upd_ne n1]
        exact z
    refine ⟨_, rfl, _, rfl, ask, _, rfl, ?_⟩
    cases v with
    | int i =>
      have e : numV lo hi (.int i) = (longV (.int i) && (decide (lo ≤ i) && decide (i ≤ hi))) := rfl
      rw [e] at q1 refuse
      generalize longV (.int i) = g at q1 refuse ⊢
      cases g with
      | false => exact iteT (iteT (refuse rfl))
      | true =>
        refine iteF ⟨_, rfl, _, rfl, _, _, rfl, rfl, _, rfl, ?_⟩
        by_cases h1 : lo ≤ i
        · rw [decide_eq_true h1] at q1 refuse ⊢
          refine iteT ⟨_, rfl, _, _, rfl, rfl, _, rfl, ?_⟩
          by_cases h2 : i ≤ hi
          · rw [decide_eq_true h2] at q1 refuse ⊢
            exact iteF (q1 rfl _ (Ext.refl _))
          · rw [decide_eq_false h2] at q1 refuse ⊢
            exact iteT (refuse rfl)
        · rw [decide_eq_false h1] at q1 refuse ⊢
          exact iteF ⟨_, rfl, iteT (refuse rfl)⟩
    | bl b => exact iteT (iteT (refuse rfl))
    | str b => exact iteT (iteT (refuse rfl))
    | non => exact iteT (iteT (refuse rfl))
    | ref b => exact iteT (iteT (refuse rfl))
    | _ => exact ask.elim
end
end B17

/-! o[i] of an own class, which may be refused -/
namespace XB
open PySem PySem.Spec PyProof.Rows L2 PySem.Calls
section
variable {X : Cx} {CX : CXT} {pins : List (Addr × Obj)} {σ : L2.St} {H : Hp} {s : Shared} {a C dx f : Addr} {fs : List (Str × V)} {k : Nat} {fd : FuncData} {ps : List Str} {sp : Sp} {Ex : XK}
theorem run_ownX {A : Around} {Q : VK} {us : List Value} {vs : List V} (F : FnOk X.prog X.w X.K X.mg X.base CX k f fd ps sp) (hr : Room k A) (e0 : Env0 X.prog X.w X.K X.mg X.base A X.stack s H) (hb : Binds X.K fd ps []) (hx : Passes CX X Ex)
    (I : Inv X pins σ H s) (r : Vals vs us) (h : sp vs H Q Ex) : wpAny (model X.prog X.w) A (call (.ref f) us) (EP X pins σ Q) X.xe s := by
  have hl : us.length = ps.length := by rw [← r.length]; exact F.len _ _ _ _ h
  have bound := hb s us I.kIn (by simpa using hl)
  rw [List.append_nil] at bound
  refine wpAny_call (codeAny_mono (F.run A X.stack s H ⟨us, []⟩ us vs Q Ex hr e0 bound r h) fun r s' done => ?_)
  cases r with
  | error er => exact hx pins σ _ _ er s' I done
  | ok fl =>
    cases fl with
    | ret u => exact I.after done
    | next => exact False.elim done
    | brk => exact False.elim done
    | cont => exact False.elim done
def rIxOX (C : Addr) (sp : Sp) (Ex : XK) : R2 := fun x y H Q => ∃ a dx fs, x = .ref a ∧ H a = some (.ins C dx fs) ∧ sp [.ref a, y] H Q Ex
theorem pe_ixOX {e1 e2 : Expr} {ta tb : TE} {pos : Pos} (F : FnOk X.prog X.w X.K X.mg X.base CX k f fd ps sp) (hr : Room (k + 1) X.A) (O : Own X.K C "__getitem__" f) (hf : PySem.W.fnIn X.K f = true) (hb : Binds X.K fd ps []) (hx : Passes CX X Ex) (h1 : PE X e1 ta) (h2 : PE X e2 tb)
    (hsl : ∀ o i, subscripted e2 true o i = runValue (.builtin "lifetime.subscript" ⟨[o, i], []⟩) := by intro _ _; with_unfolding_all rfl) : PE X (.Subscript e1 e2 pos) (tOp (rIxOX C sp Ex) ta tb) := by
  refine ⟨fun pins s σ H Q I h => ?_⟩
  refine Subscript_ (binT h1 h2 I h fun v u s2 x y H2 I2 rx ry q => ?_)
  obtain ⟨a, dx, fs, rfl, ea, q⟩ := q
  obtain rfl : v = Value.ref a := rx
  obtain ⟨ox, od, J⟩ := ins_inst I2 ea
  obtain ⟨m, hF⟩ := I2.fr
  exact PySem.W.sub_K hF I2.ok.mod.kin J O.at_ hf O.fn (run_ownX F hr.in1 I2.env0.in1 hb hx I2 (.cons (rel_ref a) (.cons ry .nil)) q) (hsl _ _)
end
end XB

/-! texts and books that are refused; an index that is refused; whether a text can stand -/
namespace B17
open PySem PySem.Spec PyProof.Rows L2 XSt NX XB XE
open PySem.W (Frag)
abbrev sIsText : Stmt := top 18
abbrev sCheckText : Stmt := top 24
abbrev sCheckBook : Stmt := top 29
def textV (s : Str) (n : Nat) : V → Bool
  | .str y => decide (Txt.stripChars y s = ⟨#[]⟩) && decide (y.length ≤ n)
  | _ => false
def spIsTextX (K : Frag) (cL : Addr) : Sp := fun vs H Q E => ∃ u v, vs = [u, v] ∧ Asked K H u ∧ Asked K H v ∧ (lettersV u = false → ∀ H', Ext H H' → E (.ref cL) none H') ∧ (∀ x, u = .str x → lettersV u = true → ∀ H', Ext H H' → Q (.bl (textV x 4000 v)) H')
def spCheckTextX (K : Frag) (cT : Addr) : Sp := fun vs H Q E => ∃ x v, vs = [.str x, v] ∧ Asked K H (.str x) ∧ Asked K H v ∧ lettersV (.str x) = true ∧ (textV x 4000 v = true → ∀ H', Ext H H' → Q .non H') ∧ (textV x 4000 v = false → ∀ H', Ext H H' → E (.ref cT) none H')
def spCheckBookX (K : Frag) (C cB : Addr) : Sp := fun vs H Q E => ∃ v, vs = [v] ∧ ((NoBook K H v ∧ E (.ref cB) none H) ∨ ∃ b x ws, v = .ref b ∧ BookAt H b C x ws ∧ Q .non H)
def spAtX (K : Frag) (C cN : Addr) : Sp := fun vs H Q E => ∃ b x ws v, vs = [.ref b, v] ∧ BookAt H b C x ws ∧ ws.length ≤ 4096 ∧ Asked K H v ∧
  (numV 0 ((ws.length : Int) - 1) v = false → ∀ d H', Ext H H' → H' d = some (.xd (numF v)) → E (.ref cN) (some d) H') ∧ (∀ (i : Nat) k, v = .int (i : Int) → ws[i]? = some k → ∀ H', Ext H H' → Q (.str k) H')
/-- whether a text can stand beside words -/
def standB (ws : List Str) (y : Str) : Bool := !decide (y = Str.ofString "") && !ws.any fun k => meetB k y
def spCanStandX (K : Frag) (C cB cT : Addr) : Sp := fun vs H Q E => ∃ u v, vs = [u, v] ∧
  ((NoBook K H u ∧ E (.ref cB) none H) ∨ ∃ b x ws, u = .ref b ∧ BookAt H b C x ws ∧ ws.length ≤ 4096 ∧ (∀ k ∈ ws, k.length ≤ 400) ∧ Asked K H (.str x) ∧ Asked K H v ∧ lettersV (.str x) = true ∧
    (textV x 4000 v = false → ∀ H', Ext H H' → E (.ref cT) none H') ∧ (∀ y, v = .str y → textV x 4000 v = true → ∀ H', Ext H H' → Q (.bl (standB ws y)) H'))
section
variable {P : Program} {w : World} {K : Frag} {mg : Str → Option Value} {base : Heap} {f fL fS fI fT fR fO fN fB fM C : Addr} {fd dL dS dI dT dR dO dN dB dM gd : FuncData} {g cL cT cO cN cB : Addr}
theorem scIsText : FnScope ["letters", "value"] ["letters", "value"] (defScope sIsText) := ⟨rfl, rfl, rfl, by decide +kernel, rfl, by decide +kernel, by decide +kernel⟩
theorem scCheckText : FnScope ["letters", "text"] ["letters", "text"] (defScope sCheckText) := ⟨rfl, rfl, rfl, by decide +kernel, rfl, by decide +kernel, by decide +kernel⟩
theorem ok_is_textX (F : FnP K "is_text" sIsText f fd) (M : Free mg) (gM : ∃ t, mg "MAX_TEXT" = some (.int 4000 t)) (FL : FnOk P w K mg base (L2.CX P w) 2 fL dL ["letters"] (spCheckLettersX K cL)) (gL : mg "check_letters" = some (.ref fL)) (kL : PySem.W.keepIn K (.ref fL) = true) (bL : Binds K dL ["letters"] [])
    (FS : FnOk P w K mg base CX0 1 fS dS ["letters", "value"] (spIsSpelled K)) (gS : mg "_is_spelled" = some (.ref fS)) (kS : PySem.W.keepIn K (.ref fS) = true) (bS : Binds K dS ["letters", "value"] []) :
    FnOk P w K mg base (L2.CX P w) 3 f fd ["letters", "value"] (spIsTextX K cL) := by
  obtain ⟨tk, gM⟩ := gM
  refine F.ok scIsText (fun vs H Q E h => ?_) (fun cdv A outer s H vs Q E hr h => ?_)
  · obtain ⟨u, v, rfl, _⟩ := h
    rfl
  · obtain ⟨u, v, rfl, a1, a2, q1, q2⟩ := h
    refine ⟨_, pss_cons (ps_expr (pe_call FL hr (by rfl) gL kL bL .nil (passes_call (takes_of rfl rfl rfl rfl) (fun _ _ _ _ z => z)) (pa_cons (pv 0) pa_nil)))
      (pss_one (ps_ret (pe_and (pe_call FS (hr.mono (by decide)) (by rfl) gS kS bS .nil pass0 (pa_cons (pv 0) (pa_cons (pv 1) pa_nil))) (pe_one (pe_cmpR op_le (pe_callB call_len (by rfl) M.len PySem.boot_len (pa_cons (pv 1) pa_nil)) (pe_glob (v := .int 4000) (by rfl) gM ⟨tk, rfl⟩) (nomark _)))))), ?_⟩
    refine ⟨u, rfl, u, rfl, a1, fun c H' k => ?_, fun c H' k => q1 c H' k⟩
    obtain ⟨x, rfl⟩ := letters_txt c
    have q3 := q2 x rfl c H' k
    refine ⟨_, rfl, _, rfl, x, v, rfl, asked_ext k a2, _, rfl, ?_⟩
    cases v with
    | str y =>
      have hy : y.length ≤ 8000 := a2.1
      have hs : sizeLine = 16777216 := sizeLine_eq
      have e : textV x 4000 (.str y) = (spelledV x (.str y) && decide (y.length ≤ 4000)) := rfl
      rw [e] at q3
      generalize spelledV x (.str y) = g at q3 ⊢
      cases g with
      | false => exact iteF q3
      | true =>
        refine iteT ⟨.str y, rfl, _, y.length, rfl, ⟨by omega, rfl⟩, _, _, rfl, rfl, ?_⟩
        have e2 : decide ((y.length : Int) ≤ 4000) = decide (y.length ≤ 4000) := by
          by_cases z : y.length ≤ 4000
          · rw [decide_eq_true z, decide_eq_true (by omega)]
          · rw [decide_eq_false z, decide_eq_false (by omega)]
        show Q (.bl (decide ((y.length : Int) ≤ 4000))) H'
        rw [e2]
        exact q3
    | int i => exact iteF q3
    | bl b => exact iteF q3
    | non => exact iteF q3
    | ref a => exact iteF q3
    | _ => exact a2.elim

theorem ok_check_textX (F : FnP K "check_text" sCheckText f fd) (RT : Plain K mg "InvalidText" cT) (FT : FnOk P w K mg base (L2.CX P w) 3 fT dT ["letters", "value"] (spIsTextX K cL)) (gT : mg "is_text" = some (.ref fT)) (kT : PySem.W.keepIn K (.ref fT) = true) (bT : Binds K dT ["letters", "value"] []) :
    FnOk P w K mg base (L2.CX P w) 4 f fd ["letters", "text"] (spCheckTextX K cT) := by
  refine F.ok scCheckText (fun vs H Q E h => ?_) (fun cdv A outer s H vs Q E hr h => ?_)
  · obtain ⟨x, v, rfl, _⟩ := h
    rfl
  · obtain ⟨x, v, rfl, a1, a2, c, q1, q2⟩ := h
    refine ⟨_, pss_one (ps_if (pt_not (pt_val (pe_call FT hr (by rfl) gT kT bT .nil (passes_call (takes_of rfl rfl rfl rfl) (fun _ _ _ _ z => z)) (pa_cons (pv 0) (pa_cons (pv 1) pa_nil)))))
      (pss_one (ps_raise rfl (takes_of rfl rfl rfl rfl) (pmk_own PySem.F.excBase_ValueError RT.exc RT.at_ RT.keep (raises_own RT.sub RT.ty) (by exact rfl)))) pss_nil), ?_⟩
    refine ⟨_, rfl, _, rfl, .str x, v, rfl, a1, a2, fun z => (by rw [c] at z; cases z), fun y ey _ H' k => ⟨_, rfl, ?_⟩⟩
    injection ey with ey
    subst ey
    cases g : textV x 4000 v with
    | true => exact iteF (q1 g H' k)
    | false => exact iteT (q2 g H' k)

def spInOrder (K : Frag) (cL cT cO : Addr) : Sp := fun vs H Q E => ∃ u v, vs = [u, v] ∧ Asked K H u ∧
  ((lettersV u = false ∧ ∀ H', Ext H H' → E (.ref cL) none H') ∨
   (lettersV u = true ∧ NoTuple K H v ∧ ∀ H', Ext H H' → E (.ref cO) none H') ∨
   ∃ x p zs, u = .str x ∧ lettersV u = true ∧ v = .ref p ∧ SqT K H p zs ∧ (∀ z ∈ zs, Asked K H z) ∧
    (((∃ z ∈ zs, textV x 4000 z = false) ∧ ∀ H', Ext H H' → E (.ref cT) none H') ∨
     ∃ ys : List Str, zs = ys.map V.str ∧ (∀ y ∈ ys, textV x 4000 (.str y) = true) ∧ ys.length < 4096 ∧ ∀ q H', H q = none → Ext H H' → H' q = some (.tup ((ordT ys).map V.str)) → Q (.ref q) H'))
theorem scCheckBook : FnScope ["book"] ["book"] (defScope sCheckBook) := ⟨rfl, rfl, rfl, by decide +kernel, rfl, by decide +kernel, by decide +kernel⟩
theorem ok_check_bookX (F : FnP K "check_book" sCheckBook f fd) (B : BookK K C) (M : Free mg) (gC : mg "Book" = some (.ref C)) (RB : Plain K mg "InvalidBook" cB) : FnOk P w K mg base (L2.CX P w) 1 f fd ["book"] (spCheckBookX K C cB) := by
  refine F.ok scCheckBook (fun vs H Q E h => ?_) (fun cdv A outer s H vs Q E hr h => ?_)
  · obtain ⟨v, rfl, _⟩ := h
    rfl
  · obtain ⟨v, rfl, way⟩ := h
    refine ⟨_, pss_one (ps_if (pt_not (pt_val (pe_callB call_isi (by rfl) M.isi (by decide +kernel) (pa_cons (pv 0) (pa_cons (pe_glob (v := .ref C) (by rfl) gC rfl) pa_nil)))))
      (pss_one (ps_raise rfl (takes_of rfl rfl rfl rfl) (pmk_own PySem.F.excBase_ValueError RB.exc RB.at_ RB.keep (raises_own RB.sub RB.ty) (by exact rfl)))) pss_nil), ?_⟩
    rcases way with ⟨nb, q⟩ | ⟨b, x, ws, rfl, bk, q⟩
    · obtain ⟨T, mT, ty⟩ := noBook_ty nb
      exact ⟨_, rfl, _, _, _, _, _, rfl, .own C, ty, (B.others T mT).1, _, rfl, iteT q⟩
    · exact ⟨_, rfl, _, _, _, _, _, rfl, .own C, bk.ty (K := K) B, B.own, _, rfl, iteF q⟩
theorem ok_atX (F : FnM K "__getitem__" "Book.__getitem__" sAt f fd) (B : BookK K C) (M : Free mg) (FN : FnOk P w K mg base (L2.CX P w) 3 fN dN ["value", "low", "high"] (spCheckNumberX K cN)) (gN : mg "check_number" = some (.ref fN)) (kN : PySem.W.keepIn K (.ref fN) = true) (bN : Binds K dN ["value", "low", "high"] []) :
    FnOk P w K mg base (L2.CX P w) 4 f fd ["self", "index"] (spAtX K C cN) := by
  refine F.ok scAt (fun vs H Q E h => ?_) (fun cdv A outer s H vs Q E hr h => ?_)
  · obtain ⟨b, x, ws, v, rfl, _⟩ := h
    rfl
  · obtain ⟨b, x, ws, v, rfl, ⟨dx, p, d, h1, h2, h3⟩, few, ask, q1, q2⟩ := h
    refine ⟨_, (pss_cons (ps_expr (pe_call FN hr (by rfl) gN kN bN .nil (passes_call (takes_of rfl rfl rfl rfl) (fun _ _ _ _ z => z)) (pa_cons (pv 1) (pa_cons pe_int (pa_cons (pe_op op_sub (pe_callB call_len_seq (by rfl) M.len PySem.boot_len (pa_cons (pe_fld (pv 0) rfl) pa_nil)) pe_int) pa_nil)))))
      (pss_one (ps_ret (pe_ix ix_tup (pe_fld (pv 0) rfl) (pv 1) (fun _ _ => rfl))))), ?_⟩
    refine ⟨_, rfl, _, rfl, b, C, dx, _, _, rfl, h1, B.cls, B.nw, rfl, p, _, rfl, .inr (SqT.of h2), _, _, rfl, rfl, v, 0, ((ws.map V.str).length : Int) - 1, rfl, ask, fun g H' k => ?_, fun g d H' k e => ?_⟩
    · rw [List.length_map] at g
      cases v with
      | int i =>
        have e : (longV (.int i) && (decide (0 ≤ i) && decide (i ≤ (ws.length : Int) - 1))) = true := g
        rw [Bool.and_eq_true, Bool.and_eq_true, decide_eq_true_eq, decide_eq_true_eq] at e
        obtain ⟨n, rfl⟩ : ∃ n : Nat, i = (n : Int) := ⟨i.toNat, by omega⟩
        have hi : n < ws.length := by omega
        have gk : ws[n]? = some ws[n] := List.getElem?_eq_getElem hi
        exact ⟨_, rfl, b, C, dx, _, _, rfl, k _ _ h1, B.cls, B.nw, rfl, _, rfl, p, _, _, _, rfl, rfl, SqT.of (k _ _ h2), atI_nat (v := .str ws[n]) (by rw [List.getElem?_map, gk]; rfl), q2 n _ rfl gk H' k⟩
      | _ => cases g
    · rw [List.length_map] at g
      exact q1 g d H' k e
end
end B17

/-! words put in, taken out, with all that is refused -/
namespace B17
open PySem PySem.Spec PyProof.Rows L2 XSt NX XB XE
open PySem.W (Frag)
theorem word_str {x : Str} {z : V} (h : wordV x 400 z = true) : ∃ y, z = .str y := by
  cases z with
  | str y => exact ⟨y, rfl⟩
  | _ => cases h
theorem word_len {x y : Str} (h : wordV x 400 (.str y) = true) : 1 ≤ y.length ∧ y.length ≤ 400 := by
  have z2 : (decide (Txt.stripChars y x = ⟨#[]⟩) && (decide (1 ≤ y.length) && decide (y.length ≤ 400))) = true := h
  rw [Bool.and_eq_true, Bool.and_eq_true, decide_eq_true_eq, decide_eq_true_eq, decide_eq_true_eq] at z2
  exact z2.2
def spWithX (K : Frag) (C cW cO cC cM : Addr) : Sp := fun vs H Q E => ∃ (b : Addr) (x : Str) (ws : List Str) (v : V), vs = [.ref b, v] ∧ BookAt H b C x ws ∧ Asked K H v ∧ GoodL x ∧ (∀ k ∈ ws, GoodW x k) ∧ ws.length ≤ 400 ∧
  (wordV x 400 v = false → ∀ H', Ext H H' → E (.ref cW) none H') ∧
  (∀ y, v = .str y → wordV x 400 v = true →
    (y ∈ ws → ∀ H', Ext H H' → E (.ref cO) none H') ∧
    (¬ y ∈ ws → 400 < (ordT (ws ++ [y])).length → ∀ d H', Ext H H' → H' d = some (.xd manyF) → E (.ref cM) (some d) H') ∧
    (¬ y ∈ ws → (ordT (ws ++ [y])).length ≤ 400 → firstV (ordT (ws ++ [y])) = none → ∀ b' H', H b' = none → Ext H H' → BookAt H' b' C x (ordT (ws ++ [y])) → Q (.ref b') H') ∧
    (¬ y ∈ ws → (ordT (ws ++ [y])).length ≤ 400 → ∀ u v, firstV (ordT (ws ++ [y])) = some (u, v) → ∀ d H', Ext H H' → H' d = some (.xd (clashF u v)) → E (.ref cC) (some d) H'))
def spWithoutX (K : Frag) (C cW cO : Addr) : Sp := fun vs H Q E => ∃ (b : Addr) (x : Str) (ws : List Str) (v : V), vs = [.ref b, v] ∧ BookAt H b C x ws ∧ Asked K H v ∧ GoodL x ∧ (∀ k ∈ ws, GoodW x k) ∧ ws.length ≤ 400 ∧ ordT ws = ws ∧ firstV ws = none ∧
  (wordV x 400 v = false → ∀ H', Ext H H' → E (.ref cW) none H') ∧
  (∀ y, v = .str y → wordV x 400 v = true →
    (¬ y ∈ ws → ∀ H', Ext H H' → E (.ref cO) none H') ∧
    (y ∈ ws → ∀ b' H', H b' = none → Ext H H' → BookAt H' b' C x (ws.filter fun k => decide (k ≠ y)) → Q (.ref b') H'))
section
variable {P : Program} {w : World} {K : Frag} {mg : Str → Option Value} {base : Heap} {f fO fC fW fI C cC cO cL cW cM : Addr} {fd dO dC dW dI : FuncData}
theorem upd_ext {H H' : Hp} {b dx : Addr} {C : Addr} (hb : H b = none) (hdx : H dx = none) (off : ∀ c o, c ≠ b → (upd (upd H dx (.own b)) b (.ins C dx [])) c = some o → H' c = some o) : Ext H H' := fun c o e => by
  have n1 := ne_of_none e hb
  have n2 := ne_of_none e hdx
  exact off c o n1 (by rw [upd_ne n1, upd_ne n2]; exact e)
end
end B17

/-! uniform books -/
namespace B17
open PySem PySem.Spec PyProof.Rows L2 XSt NX XB
open PySem.W (Frag)
abbrev sUniform : Stmt := inClass sBook 1
def spUniform (K : Frag) (C : Addr) : Sp := fun vs H Q _ => ∃ (x : Str) (n : Nat), vs = [.ref C, .str x, .int (n : Int)] ∧ Abc x ∧ 1 ≤ n ∧ n ≤ 400 ∧ (∀ i, i ≤ n → x.length ^ i ≤ 400) ∧ ∀ b H', H b = none → Ext H H' → BookAt H' b C x (unif x n) → Q (.ref b) H'
section
variable {P : Program} {w : World} {K : Frag} {mg : Str → Option Value} {base : Heap} {f fL fN fI C : Addr} {fd dL dN dI : FuncData}
theorem scUniform : FnScope ["cls", "letters", "size", "words", "_", "word", "letter"] ["cls", "letters", "size"] (defScope sUniform) := ⟨rfl, rfl, rfl, by decide +kernel, rfl, by decide +kernel, by decide +kernel⟩
theorem ok_uniform (F : FnM K "uniform" "Book.uniform" sUniform f fd) (MK : Mk K C fI) (M : Free mg) (Z : Sizes mg) (mR : mg "range" = none) (gW : ∃ t, mg "MAX_WORDS" = some (.int 400 t))
    (FL : FnOk P w K mg base CX0 2 fL dL ["letters"] spCheckLetters) (gL : mg "check_letters" = some (.ref fL)) (kL : PySem.W.keepIn K (.ref fL) = true) (bL : Binds K dL ["letters"] [])
    (FN : FnOk P w K mg base CX0 2 fN dN ["value", "low", "high"] spCheckNumber) (gN : mg "check_number" = some (.ref fN)) (kN : PySem.W.keepIn K (.ref fN) = true) (bN : Binds K dN ["value", "low", "high"] [])
    (FI : FnOk P w K mg base CX0 6 fI dI ["self", "letters", "words"] (spInit K C)) (bI : Binds K dI ["self", "letters", "words"] []) : FnOk P w K mg base CX0 8 f fd ["cls", "letters", "size"] (spUniform K C) := by
  obtain ⟨tk, gW⟩ := gW
  obtain ⟨tz, gZ⟩ := Z.word
  refine F.ok scUniform (fun vs H Q E h => ?_) (fun cdv A outer s H vs Q E hr h => ?_)
  · obtain ⟨x, n, rfl, _⟩ := h
    rfl
  · obtain ⟨x, n, rfl, abc, n1, n4, pw, q⟩ := h
    have hs : sizeLine = 16777216 := sizeLine_eq
    refine ⟨_, PSs.nox (pss_cons (ps_expr (pe_call FL (hr.mono (by decide)) (by rfl) gL kL bL .nil pass0 (pa_cons (pv 1) pa_nil)))
      (pss_cons (ps_expr (pe_call FN (hr.mono (by decide)) (by rfl) gN kN bN .nil pass0 (pa_cons (pv 2) (pa_cons pe_int (pa_cons (pe_glob (v := .int 400) (by rfl) gZ ⟨tz, rfl⟩) pa_nil)))))
      (pss_cons (ps_set (i := 3) scUniform.nd rfl (.inl rfl) (pe_lst (pa_cons pe_str pa_nil)))
      (pss_cons (ps_for PassesOwn.never rfl (pi_range1 (by rfl) mR (pa_cons (pv 2) pa_nil)) (pg_name (i := 4) scUniform.nd rfl (.inl rfl))
        (pss_cons (ps_setLc2 (i := 3) (own := [("word", 5), ("letter", 6)]) (vs1 := [6]) (g := gName 5) (g1 := gName 6) (tt := tYes) (tt1 := tYes) (te := tOp rAddS (tVar 5) (tVar 6)) rfl scUniform.nd rfl rfl (sw_true rfl rfl rfl (by decide +kernel)) (pi_list (pv 3))
          (blkOk_by (N := ["cls", "letters", "size", "words", "_", "word", "letter"]) (sc := defScope sUniform) (by decide +kernel)) (by decide)
          (fun _ _ _ _ _ => pg_name (i := 5) scUniform.nd rfl (Or.inl rfl)) (fun _ _ _ _ _ => pts_nil) (fun _ _ _ _ _ => by exact pi_str (pv 1)) (fun _ _ _ _ _ => pg_name (i := 6) scUniform.nd rfl (Or.inl rfl)) (fun _ _ _ _ _ => pts_nil)
          (fun _ _ _ _ _ => by exact pe_op op_addS (pv 5) (pv 6)))
        (pss_one (ps_if (pt_cmpR op_gt (pe_callB call_len_seq (by rfl) M.len PySem.boot_len (pa_cons (pv 3) pa_nil)) (pe_glob (v := .int 400) (by rfl) gW ⟨tk, rfl⟩) (nomark _)) (pss_one ps_never) pss_nil))))
      (pss_one (ps_ret (pe_makeL (i := 0) MK FI hr rfl (.inl rfl) bI (pa_cons (pv 1) (pa_cons (pe_callTy call_tuple_of (by rfl) M.tuple (by decide +kernel) (pa_cons (pv 3) pa_nil)) pa_nil))))))))), ?_⟩
    refine ⟨_, rfl, _, rfl, abc.good, fun H1 k1 => ?_⟩
    refine ⟨_, rfl, (n : Int), 1, 400, rfl, by omega, by omega, by decide, by decide, ?_⟩
    refine ⟨by show 1 ≤ sizeLine; decide, fun w0 hw0 => ?_⟩
    refine ⟨_, rfl, _, rfl, by omega, by omega, ?_⟩
    refine for_range (n := n) (fun i σ H2 => ∃ o4 o5 o6 l, σ = [some (.ref C), some (.str x), some (.int (n : Int)), some (.ref l), o4, o5, o6] ∧ H2 l = some (.lst ((unif x i).map V.str)) ∧ Ext H H2) ⟨_, _, _, w0, rfl, upd_same, k1.new hw0⟩ ?_ ?_
    · rintro i σ H2 hi ⟨o4, o5, o6, l, rfl, el, k2⟩
      have lenI : (unif x i).length ≤ 400 := by
        rw [unif_len]
        exact pw _ (by omega)
      have lenJ : (unif x (i + 1)).length ≤ 400 := by
        rw [unif_len]
        exact pw _ (by omega)
      have few3 := abc.few
      refine ⟨_, rfl, l, rfl, ⟨_, SqL.of el⟩, fun D hD => ?_⟩
      refine walk_it walk_list (fun a H3 => H3 D = some (.lst ((((unif x i).take a).flatMap fun k => (XSt.signs x).map fun c => k ++ c).map V.str)) ∧ Ext H2 H3) ⟨upd_same, (Ext.refl _).new hD⟩ (fun a H3 _ z => SqL.of (z.2 _ _ el)) ?_ ?_
      · rintro a v H3 H4 ha ⟨f1, f2⟩ ⟨rfl, ex⟩
        rw [List.getElem?_map] at ex
        cases g : (unif x i)[a]? with
        | none => rw [g] at ex; cases ex
        | some k =>
          rw [g] at ex
          obtain rfl : V.str k = v := Option.some.inj ex
          have lk := (unif_mem (List.mem_of_getElem? g)).1
          have lp : (((unif x i).take a).flatMap fun k => (XSt.signs x).map fun c => k ++ c).length ≤ 1200 := by
            rw [flat_len]
            have z := List.length_take_le a (unif x i)
            have z2 : ((unif x i).take a).length ≤ 400 := Nat.le_trans (List.length_take_le' a (unif x i)) lenI
            exact Nat.le_trans (Nat.mul_le_mul z2 few3) (by decide)
          generalize eP : (((unif x i).take a).flatMap fun k => (XSt.signs x).map fun c => k ++ c) = prev at f1 lp
          refine ⟨rfl, _, rfl, _, rfl, ?_⟩
          refine walk_it walk_str (fun j H5 => H5 D = some (.lst ((prev ++ ((XSt.signs x).take j).map fun c => k ++ c).map V.str)) ∧ Ext H2 H5) ⟨by simpa using f1, f2⟩ (fun _ _ _ _ => trivial) ?_ ?_
          · rintro j v H5 H6 hj ⟨f3, f4⟩ ⟨rfl, c, hc, rfl⟩
            have gs : (XSt.signs x)[j]? = some ⟨#[c]⟩ := by
              unfold XSt.signs
              rw [List.getElem?_map, Array.getElem?_toList, hc]
              rfl
            refine ⟨rfl, _, rfl, _, rfl, k, _, rfl, rfl, by show k.length + 1 ≤ sizeLine; omega, ?_⟩
            refine ⟨_, f3, ?_, ?_, fun b u e => ?_⟩
            · have z := List.length_take_le j (XSt.signs x)
              have hj' : j < x.length := hj
              rw [List.length_map, List.length_append, List.length_map]
              omega
            · have e9 : (prev ++ ((XSt.signs x).take (j + 1)).map fun c => k ++ c).map V.str = (prev ++ ((XSt.signs x).take j).map fun c => k ++ c).map V.str ++ [V.str (k ++ ⟨#[c]⟩)] := by
                rw [take_more gs]
                simp only [List.map_append, List.map_cons, List.map_nil, List.append_assoc]
              rw [e9]
              exact upd_same
            · rw [upd_ne (ne_of_none e hD)]
              exact f4 b u e
          · rintro H5 ⟨f3, f4⟩
            refine ⟨?_, f4⟩
            rw [take_more g, List.flatMap_append, eP, List.flatMap_singleton]
            have all : (XSt.signs x).take x.cps.size = XSt.signs x := List.take_of_length_le (by rw [signs_count]; exact Nat.le_refl _)
            rw [all] at f3
            exact f3
      · rintro H3 ⟨f1, f2⟩
        rw [List.length_map, List.take_length] at f1
        have f1 : H3 D = some (.lst ((unif x (i + 1)).map V.str)) := f1
        refine ⟨_, rfl, D, _, rfl, .inl (SqL.of f1), _, _, rfl, rfl, _, rfl, ?_⟩
        rw [List.length_map, decide_eq_false (show ¬ (((unif x (i + 1)).length : Int) > 400) by omega)]
        exact iteF ⟨_, _, _, D, rfl, f1, k2.trans f2⟩
    · rintro σ H2 ⟨o4, o5, o6, l, rfl, el, k2⟩
      have lenN : (unif x n).length ≤ 400 := by
        rw [unif_len]
        exact pw _ (Nat.le_refl _)
      refine ⟨rfl, _, rfl, _, rfl, l, _, rfl, .inl ⟨SqL.of el, fun tp htp => ?_⟩⟩
      intro b dx hb hdx ndx
      have e3 : (upd H2 tp (.tup ((unif x n).map V.str))) tp = some (.tup ((unif x n).map V.str)) := upd_same
      have ntb : tp ≠ b := ne_of_none e3 hb
      have ntd : tp ≠ dx := ne_of_none e3 hdx
      have k3 : Ext H (upd H2 tp (.tup ((unif x n).map V.str))) := k2.new htp
      refine ⟨b, dx, tp, x, unif x n, rfl, upd_same, abc.good, SqT.of (by rw [upd_ne ntb, upd_ne ntd]; exact e3), ntb, fun y my => ?_, by omega, ?_, pre_same fun k m => (unif_mem m).1, suf_same fun k m => (unif_mem m).1, fun H' off bk => ⟨rfl, q b H' (free_back k3 hb) (fun c o e => ?_) ?_⟩⟩
      · obtain ⟨e1, e2⟩ := unif_mem my
        exact goodW_of abc e2 (by omega) (by omega)
      · have := ordT_len (unif x n)
        omega
      · have z := k3 _ _ e
        have n1 : c ≠ b := ne_of_none z hb
        have n2 : c ≠ dx := ne_of_none z hdx
        exact off c o n1 (by rw [upd_ne n1, upd_ne n2]; exact z)
      · rw [ordT_unif abc.asc] at bk
        exact bk
end
end B17

/-! a promise that tells of refusals, where none is met; and one of a def that never raises, taken as one of a def that may -/
namespace XC0
open PySem PySem.Spec PyProof.Rows L2
open PySem.W (Frag)
theorem calm {P : Program} {w : World} {K : Frag} {mg : Str → Option Value} {base : Heap} {k : Nat} {f : Addr} {fd : FuncData} {ps : List Str} {sp sp' : Sp} (F : FnOk P w K mg base (L2.CX P w) k f fd ps sp)
    (h : ∀ vs H Q E, sp' vs H Q E → sp vs H Q fun _ _ _ => False) : FnOk P w K mg base CX0 k f fd ps sp' :=
  ⟨fun vs H Q E q => F.len _ _ _ _ (h vs H Q E q), fun A outer s H args us vs Q E hr he hb hv hs =>
    codeAny_mono (F.run A outer s H args us vs Q (fun _ _ _ => False) hr he hb hv (h _ _ _ _ hs)) fun r s' z => by
      cases r with
      | ok fl =>
        cases fl with
        | ret u => exact z
        | _ => exact False.elim z
      | error e =>
        obtain ⟨_, _, _, _, _, _, _, _, _, _, _, _, hE⟩ := z
        exact False.elim hE⟩
theorem wild {P : Program} {w : World} {K : Frag} {mg : Str → Option Value} {base : Heap} {k : Nat} {f : Addr} {fd : FuncData} {ps : List Str} {sp : Sp} (F : FnOk P w K mg base CX0 k f fd ps sp) : FnOk P w K mg base (L2.CX P w) k f fd ps sp :=
  ⟨F.len, fun A outer s H args us vs Q E hr he hb hv hs =>
    codeAny_mono (F.run A outer s H args us vs Q E hr he hb hv hs) fun r s' z => by
      cases r with
      | ok fl =>
        cases fl with
        | ret u => exact z
        | _ => exact False.elim z
      | error e => exact False.elim z⟩
end XC0

/-! uniform books, with all that is refused -/
namespace B17
open PySem PySem.Spec PyProof.Rows L2 XSt NX XB XE
open PySem.W (Frag)
def spUniformX (K : Frag) (C cL cN cM : Addr) : Sp := fun vs H Q E => ∃ u v, vs = [.ref C, u, v] ∧ Asked K H u ∧ Asked K H v ∧
  ((lettersV u = false ∧ ∀ H', Ext H H' → E (.ref cL) none H') ∨
   (lettersV u = true ∧ numV 1 400 v = false ∧ ∀ d H', Ext H H' → H' d = some (.xd (numF v)) → E (.ref cN) (some d) H') ∨
   ∃ (x : Str) (n : Nat), u = .str x ∧ Abc x ∧ v = .int (n : Int) ∧ 1 ≤ n ∧ n ≤ 400 ∧
    ((∃ i, i ≤ n ∧ 400 < x.length ^ i) → ∀ d H', Ext H H' → H' d = some (.xd manyF) → E (.ref cM) (some d) H') ∧
    ((∀ i, i ≤ n → x.length ^ i ≤ 400) → ∀ b H', H b = none → Ext H H' → BookAt H' b C x (unif x n) → Q (.ref b) H'))
theorem long_i {i : Int} (h0 : 0 ≤ i) (h : i ≤ 100000) : longV (.int i) = true := by
  show decide ((if i < 0 then -i else i) < (10 ^ 50) ^ 4) = true
  rw [if_neg (by omega)]
  exact decide_eq_true (Int.lt_of_le_of_lt (show i ≤ 100000 by omega) (by decide +kernel))
theorem long_n {n : Nat} (h : n ≤ 100000) : longV (.int (n : Int)) = true := long_i (by omega) (by omega)
theorem num_good {n : Nat} (h1 : 1 ≤ n) (h2 : n ≤ 400) : numV 1 400 (.int (n : Int)) = true := by
  show (longV (.int (n : Int)) && (decide ((1 : Int) ≤ (n : Int)) && decide ((n : Int) ≤ 400))) = true
  rw [long_n (by omega), decide_eq_true (show (1 : Int) ≤ (n : Int) by omega), decide_eq_true (show (n : Int) ≤ 400 by omega)]
  rfl
section
variable {P : Program} {w : World} {K : Frag} {mg : Str → Option Value} {base : Heap} {f fL fN fI C cL cN cM cW cO cC : Addr} {fd dL dN dI : FuncData}
theorem init_calm (FI : FnOk P w K mg base (L2.CX P w) 6 fI dI ["self", "letters", "words"] (spInitY K C cL cW cO cC cM)) : FnOk P w K mg base CX0 6 fI dI ["self", "letters", "words"] (spInit K C) := XC0.calm FI fun vs H Q E h => by
  obtain ⟨b, dx, p, x, ys, rfl, eb, gl, sq, npb, gw, few, lim, np, ns, q⟩ := h
  have fv := firstV_none (ordT_nodup ys) (np.perm fun _ => ordT_mem) (ns.perm fun _ => ordT_mem)
  refine ⟨b, dx, _, _, rfl, eb, gl.ask, .inr (.inr ⟨x, p, _, rfl, gl.2.2, rfl, npb, sq, by rw [List.length_map]; exact few, fun z m => by obtain ⟨k, mk, rfl⟩ := List.mem_map.mp m; exact (gw k mk).ask, .inr ⟨ys, rfl, fun k m => (gw k m).2.2, few, fun big => by omega, fun _ _ H' off bk => q H' off bk, fun _ u v fv2 => ?_⟩⟩)⟩
  rw [fv] at fv2
  cases fv2
theorem abc_pow {x : Str} (h : x.length ≤ 3) {n : Nat} (hn : n ≤ 5) : ∀ i, i ≤ n → x.length ^ i ≤ 400 := fun i hi => Nat.le_trans (pow_few h (by omega)) (by decide)
theorem ok_uniformX (F : FnM K "uniform" "Book.uniform" sUniform f fd) (MK : Mk K C fI) (MM : ManyK P w K mg base cM) (M : Free mg) (Z : Sizes mg) (mR : mg "range" = none) (gW : ∃ t, mg "MAX_WORDS" = some (.int 400 t))
    (FL : FnOk P w K mg base (L2.CX P w) 2 fL dL ["letters"] (spCheckLettersX K cL)) (gL : mg "check_letters" = some (.ref fL)) (kL : PySem.W.keepIn K (.ref fL) = true) (bL : Binds K dL ["letters"] [])
    (FN : FnOk P w K mg base (L2.CX P w) 3 fN dN ["value", "low", "high"] (spCheckNumberX K cN)) (gN : mg "check_number" = some (.ref fN)) (kN : PySem.W.keepIn K (.ref fN) = true) (bN : Binds K dN ["value", "low", "high"] [])
    (FI : FnOk P w K mg base CX0 6 fI dI ["self", "letters", "words"] (spInit K C)) (bI : Binds K dI ["self", "letters", "words"] []) : FnOk P w K mg base (L2.CX P w) 8 f fd ["cls", "letters", "size"] (spUniformX K C cL cN cM) := by
  obtain ⟨tk, gW⟩ := gW
  obtain ⟨tz, gZ⟩ := Z.word
  obtain ⟨fJ, dJ, TJ, FJ, bJ⟩ := MM.init
  refine F.ok scUniform (fun vs H Q E h => ?_) (fun cdv A outer s H vs Q E hr h => ?_)
  · obtain ⟨u, v, rfl, _⟩ := h
    rfl
  · obtain ⟨u, v, rfl, a1, a2, modes⟩ := h
    have hs : sizeLine = 16777216 := sizeLine_eq
    refine ⟨_, (pss_cons (ps_expr (pe_call FL (hr.mono (by decide)) (by rfl) gL kL bL .nil (passes_call (takes_of rfl rfl rfl rfl) (fun _ _ _ _ z => z)) (pa_cons (pv 1) pa_nil)))
      (pss_cons (ps_expr (pe_call FN (hr.mono (by decide)) (by rfl) gN kN bN .nil (passes_call (takes_of rfl rfl rfl rfl) (fun _ _ _ _ z => z)) (pa_cons (pv 2) (pa_cons pe_int (pa_cons (pe_glob (v := .int 400) (by rfl) gZ ⟨tz, rfl⟩) pa_nil)))))
      (pss_cons (ps_set (i := 3) scUniform.nd rfl (.inl rfl) (pe_lst (pa_cons pe_str pa_nil)))
      (pss_cons (ps_for (passes_of rfl) rfl (pi_range1 (by rfl) mR (pa_cons (pv 2) pa_nil)) (pg_name (i := 4) scUniform.nd rfl (.inl rfl))
        (pss_cons (ps_setLc2 (i := 3) (own := [("word", 5), ("letter", 6)]) (vs1 := [6]) (g := gName 5) (g1 := gName 6) (tt := tYes) (tt1 := tYes) (te := tOp rAddS (tVar 5) (tVar 6)) rfl scUniform.nd rfl rfl (sw_true rfl rfl rfl (by decide +kernel)) (pi_list (pv 3))
          (blkOk_by (N := ["cls", "letters", "size", "words", "_", "word", "letter"]) (sc := defScope sUniform) (by decide +kernel)) (by decide)
          (fun _ _ _ _ _ => pg_name (i := 5) scUniform.nd rfl (Or.inl rfl)) (fun _ _ _ _ _ => pts_nil) (fun _ _ _ _ _ => by exact pi_str (pv 1)) (fun _ _ _ _ _ => pg_name (i := 6) scUniform.nd rfl (Or.inl rfl)) (fun _ _ _ _ _ => pts_nil)
          (fun _ _ _ _ _ => by exact pe_op op_addS (pv 5) (pv 6)))
        (pss_one (ps_if (pt_cmpR op_gt (pe_callB call_len_seq (by rfl) M.len PySem.boot_len (pa_cons (pv 3) pa_nil)) (pe_glob (v := .int 400) (by rfl) gW ⟨tk, rfl⟩) (nomark _)) (pss_one (ps_raise (W := fun cls d _ H => E cls d H) rfl (takes_of rfl rfl rfl rfl) (pmk_new TJ (raises_own MM.sub MM.ty) FJ (hr.mono (by decide)) bJ (by rfl) MM.at_ (pa_cons (pe_glob (v := .int 400) (by rfl) gW ⟨tk, rfl⟩) pa_nil)))) pss_nil))))
      (pss_one (ps_ret (pe_makeL (i := 0) MK FI hr rfl (.inl rfl) bI (pa_cons (pv 1) (pa_cons (pe_callTy call_tuple_of (by rfl) M.tuple (by decide +kernel) (pa_cons (pv 3) pa_nil)) pa_nil))))))))), ?_⟩
    refine ⟨u, rfl, u, rfl, a1, fun gl H1 k1 => ?_, fun bl H1 k1 => ?_⟩
    rotate_left
    · rcases modes with ⟨_, q⟩ | ⟨m, _⟩ | ⟨x, n, rfl, abc, _⟩
      · exact q _ k1
      · rw [bl] at m
        cases m
      · rw [abc.good.2.2] at bl
        cases bl
    refine ⟨v, rfl, v, 1, 400, rfl, asked_ext k1 a2, fun gn H2 k2 => ?_, fun bn d H2 k2 ed => ?_⟩
    rotate_left
    · rcases modes with ⟨m, _⟩ | ⟨_, _, q⟩ | ⟨x, n, rfl, abc, rfl, n1, n4, _⟩
      · rw [gl] at m
        cases m
      · exact q d _ (k1.trans k2) ed
      · rw [num_good n1 n4] at bn
        cases bn
    replace k1 := k1.trans k2
    generalize H2 = H1 at k1 ⊢
    rcases modes with ⟨m, _⟩ | ⟨_, m, _⟩ | ⟨x, n, rfl, abc, rfl, n1, n4, qm, q⟩
    · rw [gl] at m
      cases m
    · rw [gn] at m
      cases m
    refine ⟨by show 1 ≤ sizeLine; decide, fun w0 hw0 => ?_⟩
    refine ⟨_, rfl, _, rfl, by omega, by omega, ?_⟩
    refine for_range (n := n) (fun i σ H2 => ∃ o4 o5 o6 l, σ = [some (.ref C), some (.str x), some (.int (n : Int)), some (.ref l), o4, o5, o6] ∧ H2 l = some (.lst ((unif x i).map V.str)) ∧ Ext H H2 ∧ ∀ k, k ≤ i → x.length ^ k ≤ 400) ⟨_, _, _, w0, rfl, upd_same, k1.new hw0, fun k hk => by rw [Nat.le_zero.mp hk]; exact Nat.le_trans (Nat.le_of_eq (Nat.pow_zero _)) (by decide)⟩ ?_ ?_
    · rintro i σ H2 hi ⟨o4, o5, o6, l, rfl, el, k2, pw⟩
      have lenI : (unif x i).length ≤ 400 := by
        rw [unif_len]
        exact pw _ (by omega)
      have few3 := abc.few
      refine ⟨_, rfl, l, rfl, ⟨_, SqL.of el⟩, fun D hD => ?_⟩
      refine walk_it walk_list (fun a H3 => H3 D = some (.lst ((((unif x i).take a).flatMap fun k => (XSt.signs x).map fun c => k ++ c).map V.str)) ∧ Ext H2 H3) ⟨upd_same, (Ext.refl _).new hD⟩ (fun a H3 _ z => SqL.of (z.2 _ _ el)) ?_ ?_
      · rintro a v H3 H4 ha ⟨f1, f2⟩ ⟨rfl, ex⟩
        rw [List.getElem?_map] at ex
        cases g : (unif x i)[a]? with
        | none => rw [g] at ex; cases ex
        | some k =>
          rw [g] at ex
          obtain rfl : V.str k = v := Option.some.inj ex
          have lk := (unif_mem (List.mem_of_getElem? g)).1
          have lp : (((unif x i).take a).flatMap fun k => (XSt.signs x).map fun c => k ++ c).length ≤ 1200 := by
            rw [flat_len]
            have z := List.length_take_le a (unif x i)
            have z2 : ((unif x i).take a).length ≤ 400 := Nat.le_trans (List.length_take_le' a (unif x i)) lenI
            exact Nat.le_trans (Nat.mul_le_mul z2 few3) (by decide)
          generalize eP : (((unif x i).take a).flatMap fun k => (XSt.signs x).map fun c => k ++ c) = prev at f1 lp
          refine ⟨rfl, _, rfl, _, rfl, ?_⟩
          refine walk_it walk_str (fun j H5 => H5 D = some (.lst ((prev ++ ((XSt.signs x).take j).map fun c => k ++ c).map V.str)) ∧ Ext H2 H5) ⟨by simpa using f1, f2⟩ (fun _ _ _ _ => trivial) ?_ ?_
          · rintro j v H5 H6 hj ⟨f3, f4⟩ ⟨rfl, c, hc, rfl⟩
            have gs : (XSt.signs x)[j]? = some ⟨#[c]⟩ := by
              unfold XSt.signs
              rw [List.getElem?_map, Array.getElem?_toList, hc]
              rfl
            refine ⟨rfl, _, rfl, _, rfl, k, _, rfl, rfl, by show k.length + 1 ≤ sizeLine; omega, ?_⟩
            refine ⟨_, f3, ?_, ?_, fun b u e => ?_⟩
            · have z := List.length_take_le j (XSt.signs x)
              have hj' : j < x.length := hj
              rw [List.length_map, List.length_append, List.length_map]
              omega
            · have e9 : (prev ++ ((XSt.signs x).take (j + 1)).map fun c => k ++ c).map V.str = (prev ++ ((XSt.signs x).take j).map fun c => k ++ c).map V.str ++ [V.str (k ++ ⟨#[c]⟩)] := by
                rw [take_more gs]
                simp only [List.map_append, List.map_cons, List.map_nil, List.append_assoc]
              rw [e9]
              exact upd_same
            · rw [upd_ne (ne_of_none e hD)]
              exact f4 b u e
          · rintro H5 ⟨f3, f4⟩
            refine ⟨?_, f4⟩
            rw [take_more g, List.flatMap_append, eP, List.flatMap_singleton]
            have all : (XSt.signs x).take x.cps.size = XSt.signs x := List.take_of_length_le (by rw [signs_count]; exact Nat.le_refl _)
            rw [all] at f3
            exact f3
      · rintro H3 ⟨f1, f2⟩
        rw [List.length_map, List.take_length] at f1
        have f1 : H3 D = some (.lst ((unif x (i + 1)).map V.str)) := f1
        refine ⟨_, rfl, D, _, rfl, .inl (SqL.of f1), _, _, rfl, rfl, _, rfl, ?_⟩
        rw [List.length_map]
        by_cases big : 400 < (unif x (i + 1)).length
        · rw [decide_eq_true (show ((unif x (i + 1)).length : Int) > 400 by omega)]
          have big2 := big
          rw [unif_len] at big2
          have kH := k2.trans f2
          refine iteT ⟨by show 1 ≤ 1000; decide, fun e he => ⟨e, fJ, .int 400, rfl, TJ, MM.t1, upd_same, fun dd hd1 hne => ⟨rfl, dd, _, upd_same, by rw [upd_ne hne]; exact upd_same, ?_, qm ⟨i + 1, by omega, big2⟩ dd _ (fun c o z => ?_) upd_same⟩⟩⟩
          · rw [upd_ne hne] at hd1
            exact hd1
          · have z1 := kH _ _ z
            have n1 := ne_of_none z1 he
            rw [upd_ne hne] at hd1
            have n2 := ne_of_none z1 hd1
            rw [upd_ne n2, del_ne n1, upd_ne n1, upd_ne n2, upd_ne n1]
            exact z1
        · rw [decide_eq_false (show ¬ (((unif x (i + 1)).length : Int) > 400) by omega)]
          refine iteF ⟨_, _, _, D, rfl, f1, k2.trans f2, fun k hk => ?_⟩
          rcases Nat.lt_or_ge i k with h1 | h1
          · obtain rfl : k = i + 1 := by omega
            rw [unif_len] at big
            omega
          · exact pw k h1
    · rintro σ H2 ⟨o4, o5, o6, l, rfl, el, k2, pw⟩
      have lenN : (unif x n).length ≤ 400 := by
        rw [unif_len]
        exact pw _ (Nat.le_refl _)
      refine ⟨rfl, _, rfl, _, rfl, l, _, rfl, .inl ⟨SqL.of el, fun tp htp => ?_⟩⟩
      intro b dx hb hdx ndx
      have e3 : (upd H2 tp (.tup ((unif x n).map V.str))) tp = some (.tup ((unif x n).map V.str)) := upd_same
      have ntb : tp ≠ b := ne_of_none e3 hb
      have ntd : tp ≠ dx := ne_of_none e3 hdx
      have k3 : Ext H (upd H2 tp (.tup ((unif x n).map V.str))) := k2.new htp
      refine ⟨b, dx, tp, x, unif x n, rfl, upd_same, abc.good, SqT.of (by rw [upd_ne ntb, upd_ne ntd]; exact e3), ntb, fun y my => ?_, by omega, ?_, pre_same fun k m => (unif_mem m).1, suf_same fun k m => (unif_mem m).1, fun H' off bk => ⟨rfl, q pw b H' (free_back k3 hb) (fun c o e => ?_) ?_⟩⟩
      · obtain ⟨e1, e2⟩ := unif_mem my
        exact goodW_of abc e2 (by omega) (by omega)
      · have := ordT_len (unif x n)
        omega
      · have z := k3 _ _ e
        have n1 : c ≠ b := ne_of_none z hb
        have n2 : c ≠ dx := ne_of_none z hdx
        exact off c o n1 (by rw [upd_ne n1, upd_ne n2]; exact z)
      · rw [ordT_unif abc.asc] at bk
        exact bk
end
end B17

/-! a + b, a * b, .. of two objects of one own class -/
namespace XB
open PySem PySem.Spec PyProof.Rows L2 PySem.Calls
section
variable {X : Cx} {CX : CXT} {pins : List (Addr × Obj)} {σ : L2.St} {H : Hp} {s : Shared} {a C dx f : Addr} {fs : List (Str × V)} {k : Nat} {fd : FuncData} {ps : List Str} {sp : Sp} {Ex : XK}
def rBinO (C : Addr) (sp : Sp) (Ex : XK) : R2 := fun x y H Q => ∃ a dx fs b dy gs, x = .ref a ∧ y = .ref b ∧ H a = some (.ins C dx fs) ∧ H b = some (.ins C dy gs) ∧ sp [.ref a, .ref b] H (fun v H' => ∃ r, v = .ref r ∧ Q (.ref r) H') Ex
theorem op_binO {op : Operator} (F : FnOk X.prog X.w X.K X.mg X.base CX k f fd ps sp) (hr : Room k X.A) (O : Own X.K C (PySem.dunder op.info.2) f) (hc : PySem.W.selfFirst X.K C = true) (hb : Binds X.K fd ps []) (hx : Passes CX X Ex) : OpR X (binaryOp op) (rBinO C sp Ex) := by
  intro pins s σ H x y v u Q I rx ry h
  obtain ⟨a, dx, fs, b, dy, gs, rfl, rfl, ea, eb, q⟩ := h
  obtain rfl : v = Value.ref a := rx
  obtain rfl : u = Value.ref b := ry
  obtain ⟨ox, od, J⟩ := ins_inst I ea
  obtain ⟨oy, od2, J2⟩ := ins_inst I eb
  obtain ⟨m, hF⟩ := I.fr
  refine PySem.W.binop_K hF I.ok.mod.kin J J2.type hc O.at_ O.fn (wpAny_mono (run_ownX F hr I.env0 hb hx I (.cons (rel_ref a) (.cons (rel_ref b) .nil)) q) (fun r s' z => ?_) (fun _ _ z => z))
  obtain ⟨y, H', I', ry, r0, rfl, q'⟩ := z
  obtain rfl : r = Value.ref r0 := ry
  exact ⟨.ref r0, H', I', rfl, q'⟩
end
end XB

/-! joint words of two books -/
namespace B17
open PySem PySem.Spec PyProof.Rows L2 XSt NX XB XE
open PySem.W (Frag)
abbrev sMul : Stmt := inClass sBook 13
def prodW (ws zs : List Str) : List Str := ws.flatMap fun k => zs.map fun l => k ++ l
def spMulX (K : Frag) (C cO cM : Addr) : Sp := fun vs H Q E => ∃ (b1 b2 : Addr) (x y : Str) (ws zs : List Str), vs = [.ref b1, .ref b2] ∧ BookAt H b1 C x ws ∧ BookAt H b2 C y zs ∧ GoodL x ∧ (∀ k ∈ ws, GoodW x k) ∧ (∀ k ∈ zs, GoodW y k) ∧ ws.length ≤ 400 ∧ zs.length ≤ 400 ∧
  (x ≠ y → ∀ H', Ext H H' → E (.ref cO) none H') ∧
  (x = y → (400 < ws.length * zs.length ∨ 400 < lastLen ws + lastLen zs) → ∀ d H', Ext H H' → H' d = some (.xd manyF) → E (.ref cM) (some d) H') ∧
  (x = y → ws.length * zs.length ≤ 400 → lastLen ws + lastLen zs ≤ 400 → (∀ k ∈ prodW ws zs, GoodW x k) ∧ firstV (ordT (prodW ws zs)) = none ∧ ∀ b' H', H b' = none → Ext H H' → BookAt H' b' C x (ordT (prodW ws zs)) → Q (.ref b') H')
theorem prod_mem {ws zs : List Str} {y : Str} (h : y ∈ prodW ws zs) : ∃ k ∈ ws, ∃ l ∈ zs, y = k ++ l := by
  obtain ⟨k, mk, h⟩ := List.mem_flatMap.mp h
  obtain ⟨l, ml, rfl⟩ := List.mem_map.mp h
  exact ⟨k, mk, l, ml, rfl⟩
theorem prod_pre {ws zs : List Str} (p : NoPre ws) (q : NoPre zs) : NoPre (prodW ws zs) := by
  intro a ma b mb ne h
  obtain ⟨k1, m1, l1, n1, rfl⟩ := prod_mem ma
  obtain ⟨k2, m2, l2, n2, rfl⟩ := prod_mem mb
  rw [cs_app, cs_app] at h
  have a1 : cs k1 <+: cs k2 ++ cs l2 := (List.prefix_append _ _).trans h
  have a2 : cs k2 <+: cs k2 ++ cs l2 := List.prefix_append _ _
  have e : k1 = k2 := by
    by_cases z : k1 = k2
    · exact z
    · rcases Nat.le_total (cs k1).length (cs k2).length with g | g
      · exact absurd (List.prefix_of_prefix_length_le a1 a2 g) (p k1 m1 k2 m2 z)
      · exact absurd (List.prefix_of_prefix_length_le a2 a1 g) (p k2 m2 k1 m1 (Ne.symm z))
  subst e
  have h2 : cs l1 <+: cs l2 := (List.prefix_append_right_inj _).mp h
  by_cases z : l1 = l2
  · exact ne (by rw [z])
  · exact q l1 n1 l2 n2 z h2
theorem prod_suf {ws zs : List Str} (p : NoSuf ws) (q : NoSuf zs) : NoSuf (prodW ws zs) := by
  intro a ma b mb ne h
  obtain ⟨k1, m1, l1, n1, rfl⟩ := prod_mem ma
  obtain ⟨k2, m2, l2, n2, rfl⟩ := prod_mem mb
  rw [cs_app, cs_app] at h
  have a1 : cs l1 <:+ cs k2 ++ cs l2 := (List.suffix_append _ _).trans h
  have a2 : cs l2 <:+ cs k2 ++ cs l2 := List.suffix_append _ _
  have e : l1 = l2 := by
    by_cases z : l1 = l2
    · exact z
    · rcases Nat.le_total (cs l1).length (cs l2).length with g | g
      · exact absurd (List.suffix_of_suffix_length_le a1 a2 g) (q l1 n1 l2 n2 z)
      · exact absurd (List.suffix_of_suffix_length_le a2 a1 g) (q l2 n2 l1 n1 (Ne.symm z))
  subst e
  have h2 : cs k1 <:+ cs k2 := List.reverse_prefix.mp ((List.prefix_append_right_inj _).mp (by rw [← List.reverse_append, ← List.reverse_append]; exact List.reverse_prefix.mpr h))
  by_cases z : k1 = k2
  · exact ne (by rw [z])
  · exact p k1 m1 k2 m2 z h2
theorem prod_none {ws zs : List Str} (p1 : NoPre ws) (p2 : NoPre zs) (s1 : NoSuf ws) (s2 : NoSuf zs) : firstV (ordT (prodW ws zs)) = none :=
  firstV_none (ordT_nodup _) ((prod_pre p1 p2).perm fun _ => ordT_mem) ((prod_suf s1 s2).perm fun _ => ordT_mem)
section
variable {P : Program} {w : World} {K : Frag} {mg : Str → Option Value} {base : Heap} {f fI C cC cO cL cW cM : Addr} {fd dI : FuncData}
theorem scMul : FnScope ["self", "other", "word", "behind"] ["self", "other"] (defScope sMul) := ⟨rfl, rfl, rfl, by decide +kernel, rfl, by decide +kernel, by decide +kernel⟩
theorem ok_mulX (F : FnM K "__mul__" "Book.__mul__" sMul f fd) (B : BookK K C) (M : Free mg) (gB : mg "Book" = some (.ref C)) (RO : Plain K mg "InvalidOperation" cO) (MM : ManyK P w K mg base cM) (gW : ∃ t, mg "MAX_WORDS" = some (.int 400 t)) (gV : ∃ t, mg "MAX_WORD" = some (.int 400 t))
    (lo : ∃ p g fd, PropOf K C "longest" p g ∧ FnOk P w K mg base CX0 1 g fd ["self"] (spLongest C) ∧ Binds K fd ["self"] [])
    (MK : Mk K C fI) (FI : FnOk P w K mg base (L2.CX P w) 6 fI dI ["self", "letters", "words"] (spInitY K C cL cW cO cC cM)) (bI : Binds K dI ["self", "letters", "words"] []) :
    FnOk P w K mg base (L2.CX P w) 8 f fd ["self", "other"] (spMulX K C cO cM) := by
  obtain ⟨tk, gW⟩ := gW
  obtain ⟨tv, gV⟩ := gV
  obtain ⟨p3, g3, d3, P3, F3, b3⟩ := lo
  obtain ⟨fJ, dJ, TJ, FJ, bJ⟩ := MM.init
  refine F.ok scMul (fun vs H Q E h => ?_) (fun cdv A outer s H vs Q E hr h => ?_)
  · obtain ⟨b1, b2, x, y, ws, zs, rfl, _⟩ := h
    rfl
  · obtain ⟨b1, b2, x, y, ws, zs, rfl, bk1, bk2, gl, gws, gzs, f1, f2, q1, q2, q3⟩ := h
    have hs : sizeLine = 16777216 := sizeLine_eq
    refine ⟨_, pss_cons (ps_if (PW.pt (pw_or (pt_not (pt_val (pe_callB call_isi (by rfl) M.isi (by decide +kernel) (pa_cons (pv 1) (pa_cons (pe_glob (v := .ref C) (by rfl) gB rfl) pa_nil))))) (pw_or1 (pt_cmpR op_ne (pe_fld (pv 0) rfl) (pe_fld (pv 1) rfl) (nomark _)))))
        (pss_one (ps_raise rfl (takes_of rfl rfl rfl rfl) (pmk_own PySem.F.excBase_ValueError RO.exc RO.at_ RO.keep (raises_own RO.sub RO.ty) (by exact rfl)))) pss_nil)
      (pss_cons (ps_if (pt_cmpR op_gt (pe_op op_mul (pe_callB call_len_seq (by rfl) M.len PySem.boot_len (pa_cons (pe_fld (pv 0) rfl) pa_nil)) (pe_callB call_len_seq (by rfl) M.len PySem.boot_len (pa_cons (pe_fld (pv 1) rfl) pa_nil))) (pe_glob (v := .int 400) (by rfl) gW ⟨tk, rfl⟩) (nomark _))
        (pss_one (ps_raise (W := fun cls d _ H => E cls d H) rfl (takes_of rfl rfl rfl rfl) (pmk_new TJ (raises_own MM.sub MM.ty) FJ (hr.mono (by decide)) bJ (by rfl) MM.at_ (pa_cons (pe_glob (v := .int 400) (by rfl) gW ⟨tk, rfl⟩) pa_nil)))) pss_nil)
      (pss_cons (ps_if (pt_cmpR op_gt (pe_op op_add (pe_prop (pv 0) B.cls P3 F3 (hr.mono (by decide)) b3 .nil pass0 rfl) (pe_prop (pv 1) B.cls P3 F3 (hr.mono (by decide)) b3 .nil pass0 rfl)) (pe_glob (v := .int 400) (by rfl) gV ⟨tv, rfl⟩) (nomark _))
        (pss_one (ps_raise (W := fun cls d _ H => E cls d H) rfl (takes_of rfl rfl rfl rfl) (pmk_new TJ (raises_own MM.sub MM.ty) FJ (hr.mono (by decide)) bJ (by rfl) MM.at_ (pa_cons (pe_glob (v := .int 400) (by rfl) gV ⟨tv, rfl⟩) pa_nil)))) pss_nil)
      (pss_one (ps_ret (pe_make MK FI hr (by rfl) gB bI .nil (passes_call (takes_of rfl rfl rfl rfl) (fun _ _ _ _ z => z)) (pa_cons (pe_fld (pv 0) rfl) (pa_cons (pe_callTy call_tuple_of (by rfl) M.tuple (by decide +kernel) (pa_cons
        (pe_lc2 (wi1 := iTup K (tFld K (tVar 1) "_words")) (own := [("word", 2), ("behind", 3)]) (vs1 := [3]) (g := gName 2) (g1 := gName 3) (tt := tYes) (tt1 := tYes) (te := tOp rAddS (tVar 2) (tVar 3)) rfl scMul.nd (pi_tup (pe_fld (pv 0) rfl)) (blkOk_by (N := ["self", "other", "word", "behind"]) (sc := defScope sMul) (by decide +kernel)) (by decide)
          (fun _ _ _ _ _ => pg_name (i := 2) scMul.nd rfl (Or.inl rfl)) (fun _ _ _ _ _ => pts_nil) (fun _ _ _ _ _ => by exact pi_tup (pe_fld (pv 1) rfl)) (fun _ _ _ _ _ => pg_name (i := 3) scMul.nd rfl (Or.inl rfl)) (fun _ _ _ _ _ => pts_nil)
          (fun _ _ _ _ _ => by exact pe_op op_addS (pv 2) (pv 3))) pa_nil)) pa_nil))))))), ?_⟩
    have bk1' := bk1
    have bk2' := bk2
    obtain ⟨dx, p, d, h1, h2, h3⟩ := bk1'
    obtain ⟨dy, r, e, i1, i2, i3⟩ := bk2'
    have lws : ∀ k ∈ ws, k.length ≤ 400 := fun k m => (gws k m).1
    have lzs : ∀ k ∈ zs, k.length ≤ 400 := fun k m => (gzs k m).1
    have refuse : (400 < ws.length * zs.length ∨ 400 < lastLen ws + lastLen zs) → x = y → ∀ (σ : L2.St), tNewX cM (spInitM K cM) (tCons (tC (.int 400)) tNil) σ H (fun cls d H => E cls d H) := fun big exy σ => by
      refine ⟨by show 1 ≤ 1000; decide, fun e0 he => ⟨e0, fJ, .int 400, rfl, TJ, MM.t1, upd_same, fun dd hd1 hne => ⟨rfl, dd, _, upd_same, by rw [upd_ne hne]; exact upd_same, ?_, q2 exy big dd _ (fun c o z => ?_) upd_same⟩⟩⟩
      · rw [upd_ne hne] at hd1
        exact hd1
      · have n1 := ne_of_none z he
        rw [upd_ne hne] at hd1
        have n2 := ne_of_none z hd1
        rw [upd_ne n2, del_ne n1, upd_ne n1, upd_ne n2, upd_ne n1]
        exact z
    refine ⟨_, rfl, _, _, _, _, _, rfl, .own C, bk2.ty (K := K) B, B.own, _, rfl, iteF ?_⟩
    refine ⟨_, rfl, b1, C, dx, _, _, rfl, h1, B.cls, B.nl, rfl, _, rfl, b2, C, dy, _, _, rfl, i1, B.cls, B.nl, rfl, rfl, _, rfl, ?_⟩
    show if (!decide (V.str x = V.str y)) = true then _ else _
    have exy : decide (V.str x = V.str y) = decide (x = y) := by simp
    by_cases xy : x = y
    · rw [exy, decide_eq_true xy]
      refine iteF ⟨_, rfl, b1, C, dx, _, _, rfl, h1, B.cls, B.nw, rfl, p, _, rfl, .inr (SqT.of h2), _, rfl, b2, C, dy, _, _, rfl, i1, B.cls, B.nw, rfl, r, _, rfl, .inr (SqT.of i2), _, _, rfl, rfl, .inl ⟨by omega, by rw [List.length_map]; omega⟩, _, _, rfl, rfl, _, rfl, ?_⟩
      rw [List.length_map, List.length_map]
      have em : ((ws.length : Int) * (zs.length : Int)) = ((ws.length * zs.length : Nat) : Int) := (Int.natCast_mul _ _).symm
      rw [em]
      by_cases c1 : 400 < ws.length * zs.length
      · rw [decide_eq_true (show (400 : Int) < ((ws.length * zs.length : Nat) : Int) by omega)]
        exact iteT (refuse (.inl c1) xy _)
      rw [decide_eq_false (show ¬ (400 : Int) < ((ws.length * zs.length : Nat) : Int) by omega)]
      refine iteF ⟨_, rfl, b1, dx, _, rfl, h1, b1, x, ws, rfl, bk1, lws, _, rfl, b2, dy, _, rfl, i1, b2, y, zs, rfl, bk2, lzs, _, _, rfl, rfl, _, _, rfl, rfl, _, rfl, ?_⟩
      by_cases c2 : 400 < lastLen ws + lastLen zs
      · rw [decide_eq_true (show (400 : Int) < (lastLen ws : Int) + (lastLen zs : Int) by omega)]
        exact iteT (refuse (.inr c2) xy _)
      rw [decide_eq_false (show ¬ (400 : Int) < (lastLen ws : Int) + (lastLen zs : Int) by omega)]
      obtain ⟨good, fv, q⟩ := q3 xy (by omega) (by omega)
      refine iteF ⟨_, rfl, b1, C, dx, _, _, rfl, h1, B.cls, B.nl, rfl, _, rfl, b1, C, dx, _, _, rfl, h1, B.cls, B.nw, rfl, p, rfl, ⟨_, SqT.of h2⟩, fun D hD => ?_⟩
      have flen : ∀ l : List Str, (l.flatMap fun k => zs.map fun z => k ++ z).length = l.length * zs.length := fun l => by
        induction l with
        | nil => simp
        | cons a l ih => rw [List.flatMap_cons, List.length_append, List.length_map, ih, List.length_cons, Nat.succ_mul]; omega
      refine walk_it walk_tup (fun a H3 => H3 D = some (.lst (((ws.take a).flatMap fun k => zs.map fun z => k ++ z).map V.str)) ∧ Ext H H3) ⟨upd_same, (Ext.refl _).new hD⟩ (fun a H3 _ z => SqT.of (z.2 _ _ h2)) ?_ ?_
      · rintro a v H3 H4 ha ⟨g1, g2⟩ ⟨rfl, ex⟩
        rw [List.getElem?_map] at ex
        cases gk : ws[a]? with
        | none => rw [gk] at ex; cases ex
        | some k =>
          rw [gk] at ex
          obtain rfl : V.str k = v := Option.some.inj ex
          have lk := lws k (List.mem_of_getElem? gk)
          have lp : ((ws.take a).flatMap fun k => zs.map fun z => k ++ z).length ≤ 400 * 400 := by
            rw [flen]
            exact Nat.mul_le_mul (Nat.le_trans (List.length_take_le' a ws) f1) f2
          generalize eP : ((ws.take a).flatMap fun k => zs.map fun z => k ++ z) = prev at g1 lp
          refine ⟨rfl, _, rfl, b2, C, dy, _, _, rfl, g2 _ _ i1, B.cls, B.nw, rfl, r, rfl, ⟨_, SqT.of (g2 _ _ i2)⟩, ?_⟩
          refine walk_it walk_tup (fun j H5 => H5 D = some (.lst ((prev ++ (zs.take j).map fun z => k ++ z).map V.str)) ∧ Ext H H5) ⟨by simpa using g1, g2⟩ (fun j H5 _ z => SqT.of (z.2 _ _ i2)) ?_ ?_
          · rintro j v H5 H6 hj ⟨g3, g4⟩ ⟨rfl, ex2⟩
            rw [List.getElem?_map] at ex2
            cases gz : zs[j]? with
            | none => rw [gz] at ex2; cases ex2
            | some z =>
              rw [gz] at ex2
              obtain rfl : V.str z = v := Option.some.inj ex2
              have lz := lzs z (List.mem_of_getElem? gz)
              refine ⟨rfl, _, rfl, _, rfl, k, _, rfl, rfl, by omega, ?_⟩
              refine ⟨_, g3, ?_, ?_, fun b u e => ?_⟩
              · have := List.length_take_le' j zs
                rw [List.length_map, List.length_append, List.length_map]
                omega
              · have e9 : (prev ++ (zs.take (j + 1)).map fun z => k ++ z).map V.str = (prev ++ (zs.take j).map fun z => k ++ z).map V.str ++ [V.str (k ++ z)] := by
                  rw [take_more gz]
                  simp only [List.map_append, List.map_cons, List.map_nil, List.append_assoc]
                rw [e9]
                exact upd_same
              · rw [upd_ne (ne_of_none e hD)]
                exact g4 b u e
          · rintro H5 ⟨g3, g4⟩
            rw [List.length_map, List.take_length] at g3
            refine ⟨?_, g4⟩
            rw [take_more gk, List.flatMap_append, eP, List.flatMap_singleton]
            exact g3
      · rintro H3 ⟨g1, g2⟩
        rw [List.length_map, List.take_length] at g1
        have lens := flen ws
        have g1 : H3 D = some (.lst ((prodW ws zs).map V.str)) := g1
        have lens : (prodW ws zs).length = ws.length * zs.length := lens
        generalize prodW ws zs = ys at g1 good fv q lens
        refine ⟨D, _, rfl, .inl ⟨SqL.of g1, fun T hT => ?_⟩⟩
        have k2 : Ext H (upd H3 T (.tup (ys.map V.str))) := g2.new hT
        have et' : (upd H3 T (.tup (ys.map V.str))) T = some (.tup (ys.map V.str)) := upd_same
        generalize upd H3 T (.tup (ys.map V.str)) = H4 at k2 et' ⊢
        intro c1' dx1 hb1 hdx1 _
        have nt := ne_of_none et' hb1
        have ntx := ne_of_none et' hdx1
        have kx : Ext H (upd (upd H4 dx1 (.own c1')) c1' (.ins C dx1 [])) := fun c o e => by
          have z := k2 c o e
          rw [upd_ne (ne_of_none z hb1), upd_ne (ne_of_none z hdx1)]
          exact z
        have lo2 := ordT_len ys
        refine ⟨c1', dx1, .str x, .ref T, rfl, upd_same, asked_ext kx gl.ask, .inr (.inr ⟨x, T, _, rfl, gl.2.2, rfl, nt, SqT.of (by rw [upd_ne nt, upd_ne ntx]; exact et'), by rw [List.length_map]; omega, fun z m => by obtain ⟨k, mk, rfl⟩ := List.mem_map.mp m; exact (good k mk).ask, .inr ⟨ys, rfl, fun k m => (good k m).2.2, by omega, fun big dd H5 k4 ed => ?_, fun lim fv H5 off bk => ⟨rfl, ?_⟩, fun lim u v fv2 dd H5 off ed => ?_⟩⟩)⟩
        · omega
        · exact q c1' H5 (free_back k2 hb1) (k2.trans (upd_ext hb1 hdx1 off)) bk
        · rw [fv] at fv2
          cases fv2
    · rw [exy, decide_eq_false xy]
      exact iteT (q1 xy _ (Ext.refl _))
end
end B17

/-! repr of data; isinstance, fields and str of an own exception that is held -/
namespace XE
open PySem PySem.Spec PyProof.Rows L2
open PySem.W (Frag)
/-! ### repr -/
/-- a value as data; the empty dict, too -/
inductive RepV (K : Frag) (H : Hp) : V → PyData → Prop
  | dat {v : V} {d : PyData} (h : Dp K H v d) : RepV K H v d
  | nul {a : Addr} (h : H a = some (.dK [])) : RepV K H (.ref a) (.dict [])
def rRepr (K : Frag) : List V → Hp → VK → Prop := fun xs H Q => ∃ x d, xs = [x] ∧ RepV K H x d ∧ d.showable = true ∧ d.depth ≤ 60 ∧ d.shown.length ≤ sizeLine ∧ Q (.str d.shown) H
mutual
theorem dp_nodict {K : Frag} {H : Hp} : ∀ (d : PyData) (v : V), Dp K H v d → d.hasDict = false
  | .none, _, h => rfl
  | .bool _, _, h => rfl
  | .int _, _, h => rfl
  | .str _, _, h => rfl
  | .list ds, _, h => by
    cases h with
    | lst _ ha => exact dpAll_nodict ds _ ha
  | .tuple ds, _, h => by
    cases h with
    | tup _ ha => exact dpAll_nodict ds _ ha
  | .dict _, _, h => by cases h
theorem dpAll_nodict {K : Frag} {H : Hp} : ∀ (ds : List PyData) (vs : List V), DpAll K H vs ds → PyData.hasDictAll ds = false
  | [], _, _ => rfl
  | d :: ds, _, h => by
    cases h with
    | cons h1 h2 =>
      show (d.hasDict || PyData.hasDictAll ds) = false
      rw [dp_nodict d _ h1, dpAll_nodict ds _ h2]
      rfl
end
theorem repV_reads {X : Cx} {pins : List (Addr × Obj)} {σ : L2.St} {H : Hp} {s : Shared} (I : Inv X pins σ H s) {v : V} {d : PyData} {u : Value} (h : RepV X.K H v d) (r : RelV v u) : ∃ as, Reads s.heap u d as ∧ (d.hasDict = true → sysModules ∉ as) := by
  cases h with
  | dat h =>
    obtain ⟨as, rd⟩ := Dp.reads I d v u h r
    exact ⟨as, rd, fun z => by rw [dp_nodict d v h] at z; cases z⟩
  | @nul a h =>
    obtain rfl : u = Value.ref a := r
    obtain ⟨_, ns, vs, kv, o, es, ep, e1, e2, e3, _, e5, _⟩ := (show ObjOk X.prog X.w H s.heap a (.dK []) from I.hok a _ h)
    cases kv
    have nil : es.toList = [] := by
      cases q : es.toList with
      | nil => rfl
      | cons x xs =>
        rw [q] at e5
        cases e5
    have rd : Reads s.heap (.ref a) (.dict []) ([a] ++ []) := .dict (as := []) (bs := []) e1 e2.1 e3 (by rw [nil]; exact .nil) (by rw [nil]; exact .nil)
    refine ⟨_, rd, fun _ hm => ?_⟩
    have same : sysModules = a := by simpa using hm
    rw [← same] at ns
    simp at ns
theorem call_repr {X : Cx} (hg0 : X.A.guards = some []) (hu : X.A.units + 64 < cLine) : CallR X (.builtin "repr") (rRepr X.K) := by
  intro pins s σ H xs us Q I r h
  obtain ⟨x, d, rfl, hd, sh, dep, sz, q⟩ := h
  obtain ⟨u, rfl, rx⟩ := vals1 r
  obtain ⟨as, rd, nd⟩ := repV_reads I hd rx
  have fin : ∀ h' t t', (∀ b o, s.heap.get? b = some o → h'.get? b = some o) → EP X pins σ Q (.str d.shown t) { s with heap := h', toks := t' } := fun h' t t' k => ⟨.str d.shown, H, I.kept (t' := t') k, ⟨t, rfl⟩, q⟩
  cases u with
  | ref a => exact repr_of_reads' rd sh nd hg0 (by omega) (fun _ _ e => e) (fun h' t tk k => fin h' t tk k) sz
  | none =>
    cases rd
    exact P.repr_of_none (fin s.heap _ _ fun _ _ z => z)
  | bool b =>
    cases rd
    exact P.repr_of_bool (fin s.heap _ _ fun _ _ z => z)
  | int i t =>
    cases rd
    exact P.repr_of_int (by simpa [PyData.showable] using sh) (fin s.heap _ _ fun _ _ z => z)
  | str y t =>
    cases rd
    exact P.repr_of_str (fin s.heap _ _ fun _ _ z => z) sz
  | _ => cases rd
/-! ### an own exception that is held -/
/-- at a: an exception of the class at C: with a message alone, or with fields in its own dict -/
inductive Held (H : Hp) (a C : Addr) : Prop
  | bare (h : H a = some (ExO (.ref C) a))
  | dict {d : Addr} {fs : List (Str × V)} (h : H a = some (exo a C (some d))) (hd : H d = some (exd d fs))
theorem held_inst {X : Cx} {pins : List (Addr × Obj)} {σ : L2.St} {H : Hp} {s : Shared} {a C : Addr} (I : Inv X pins σ H s) (h : Held H a C) : ∃ ox od, PySem.W.InstAt s.heap a ox C od := by
  cases h with
  | bare h =>
    obtain ⟨⟨oe, vs, e1, z, e2, _⟩, _, _⟩ := (show ObjOk X.prog X.w H s.heap a (ExO (.ref C) a) from I.hok a _ h)
    exact ⟨oe, none, e1, z.1, by unfold PySem.W.notCls; rw [e2], by rw [z.2]; trivial⟩
  | @dict d fs h hd =>
    obtain ⟨t1, e1⟩ := exo_at I.hok h
    obtain ⟨mA, ⟨oD, es, ep, e2, _⟩, _⟩ := exd_at I.hok hd
    exact ⟨_, some oD, e1, rfl, rfl, e2⟩
/-- isinstance(e, c) -/
def rIsH (K : Frag) : List V → Hp → VK → Prop := fun xs H Q => ∃ (a C : Addr) (c : V) (cv : Value) (b : Bool), xs = [.ref a, c] ∧ ExcC K C ∧ Held H a C ∧ ClsV c cv ∧ PySem.W.kitOne K (.ref C) cv = some b ∧ Q (.bl b) H
theorem call_isH {X : Cx} : CallR X (.builtin "isinstance") (rIsH X.K) := by
  intro pins s σ H xs us Q I r h
  obtain ⟨a, C, c, cv, b, rfl, T, hh, k, e, q⟩ := h
  obtain ⟨u1, u2, rfl, r1, r2⟩ := vals2 r
  obtain rfl : u1 = Value.ref a := r1
  obtain rfl := k.eq r2
  obtain ⟨ox, od, J⟩ := held_inst I hh
  obtain ⟨cd, hcd, _⟩ := PySem.W.any_some T.hd
  exact PySem.W.kia_one (PySem.W.kitx_exc (by rw [hcd]; rfl) T.hg T.hk T.hs T.ha T.hn T.ht T.hm) I.kIn J e (fun z => nomatch z) fun tk => ⟨.bl b, H, I.tok tk, rfl, q⟩
/-- e.f -/
def tHeld (K : Frag) (f : Str) (te : TE) : TE := fun σ H Q => te σ H fun x H1 => ∃ (a C d : Addr) (fs : List (Str × V)) (v : V), x = .ref a ∧ ExcC K C ∧ PySem.W.findIn K (.ref C) f = some none ∧ H1 a = some (exo a C (some d)) ∧ H1 d = some (exd d fs) ∧ fs.lookup f = some v ∧ Q v H1
theorem pe_held {X : Cx} {e : Expr} {f : Str} {te : TE} {pos : Pos} (he : PE X e te) (hb : attributeBase e f X.env (eval e X.env) = eval e X.env := by rfl) : PE X (.Attribute e f pos) (tHeld X.K f te) := by
  refine ⟨fun pins s σ H Q I h => attr_of hb (thn (he.run pins s σ H _ I h) fun u s1 ⟨x, H1, I1, rx, a, C, d, fs, v, ex, T, no, ea, ed, hl, q⟩ => ?_)⟩
  subst ex
  obtain rfl : u = Value.ref a := rx
  obtain ⟨t1, e1⟩ := exo_at I1.hok ea
  obtain ⟨mA, hns, rel⟩ := exd_at I1.hok ed
  obtain ⟨oD, hoD, hlook⟩ := lookIn_ns hns
  obtain ⟨w, hw, rw'⟩ := RelO.some_of (v := v) (o := mA f) (by rw [← hl]; exact rel f)
  exact PX.exc_get I1.kIn (ox := { cls := .ref C, dict := some d, data := .fields #[.ref t1, .none, .none, .none, .bool false, .none] }) ⟨e1, rfl, rfl, hoD⟩ T.hg T.hk T.hs (PySem.W.findObj_own T.hd no rfl (by rw [hlook, hw])) (handed_of rw') ⟨v, H1, I1.tok _, rw', q⟩
/-! ### str(e), e's class with its own __str__ -/
def rStrH (C : Addr) (sp : Sp) : List V → Hp → VK → Prop := fun xs H Q => ∃ a, xs = [.ref a] ∧ Held H a C ∧ sp [.ref a] H (fun v H' => ∃ z, v = .str z ∧ Q (.str z) H') E0
theorem call_strH {X : Cx} {k : Nat} {C f : Addr} {fd : FuncData} {sp : Sp} (F : FnG X.prog X.w X.K X.mg X.base CX0 k f fd ["self"] sp) (hg0 : X.A.guards = some []) (hr : Room (k + 2) X.A) (hs : PySem.W.findIn X.K (.ref C) "__str__" = some (some (.ref f)))
    (hf : PySem.W.isFn X.K (.ref f) = true) (hb : Binds X.K fd ["self"] []) : CallR X (.type "str") (rStrH C sp) := by
  intro pins s σ H xs us Q I r h
  obtain ⟨a, rfl, hh, q⟩ := h
  obtain ⟨u, rfl, rx⟩ := vals1 r
  obtain rfl : u = Value.ref a := rx
  obtain ⟨ox, od, J⟩ := held_inst I hh
  have room2 : Room k X.A.in1.in1 := (Room.in1 hr).in1
  refine PySem.W.kso_call room2.units0 I.kIn J hs hf ?_
  have e2 := I.env0.in1.in1
  have bound := hb s [Value.ref a] I.kIn rfl
  refine wpAny_call (codeAny_mono (F.run X.A.in1.in1 X.stack s H ⟨[.ref a], []⟩ [.ref a] [.ref a] _ _ hg0 room2 e2 bound (.cons rfl .nil) q) fun r s' done => ?_)
  cases r with
  | error er => exact False.elim done
  | ok fl =>
    cases fl with
    | ret u =>
      obtain ⟨v, H', I', rv, z, rfl, q'⟩ := I.after done
      obtain ⟨t, rfl⟩ := rv
      exact ⟨.str z, H', I', ⟨t, rfl⟩, q'⟩
    | next => exact False.elim done
    | brk => exact False.elim done
    | cont => exact False.elim done
end XE

/-! tuples that are sorted, picked from; what goes on -/
namespace B17
open PySem PySem.Spec PyProof.Rows L2 XSt NX XB LamX
open PySem.W (Frag)
def spSortedT (K : Frag) : Sp := fun vs H Q _ => ∃ (l : Addr) (ys : List Str), vs = [.ref l] ∧ SqT K H l (ys.map V.str) ∧ ys.length < 64 ∧ (∀ y ∈ ys, y.length ≤ 8000) ∧ ∀ q H', H q = none → Ext H H' → H' q = some (.tup ((ordT ys).map V.str)) → Q (.ref q) H'
def spPickT (K : Frag) : Sp := fun vs H Q _ => ∃ (j p : Addr) (xs : List V), vs = [.ref j, .ref p] ∧ JugAt H j ∧ SqT K H p xs ∧ p ≠ j ∧ xs ≠ [] ∧ xs.length ≤ 1000 ∧ ∀ y H', y ∈ xs → Kj j H H' → Q y H'
/-- what goes on: all but the jug and the tables stands -/
structure Go (T : List (Addr × Str)) (j : Addr) (H H' : Hp) : Prop where
  keep : ∀ b o, b ≠ j → (∀ ps, o ≠ .tbl ps) → H b = some o → H' b = some o
  jug : JugAt H' j
  tabs : Tabs T H'
theorem tabs_kj {T : List (Addr × Str)} {H H' : Hp} {j : Addr} (t : Tabs T H) (h : JugAt H j) (k : Kj j H H') : Tabs T H' := fun p hp => by
  obtain ⟨u, v, w, ej, _⟩ := h
  obtain ⟨ps, h1, h2, h3⟩ := t p hp
  refine ⟨ps, k.1 _ _ (fun z => ?_) h1, h2, fun pos cv hc => ?_⟩
  · rw [z, ej] at h1
    cases h1
  · obtain ⟨c, e1, e2⟩ := h3 pos cv hc
    refine ⟨c, e1, k.1 _ _ (fun z => ?_) e2⟩
    rw [z, ej] at e2
    unfold CodeO at e2
    cases e2
theorem jug_n {H H' : Hp} {j : Addr} (h : JugAt H j) (k : ExtN H H') : JugAt H' j := by
  obtain ⟨a, b, c, e, z⟩ := h
  exact ⟨a, b, c, k _ _ e (fun ps y => by cases y), z⟩
theorem jug_e {H H' : Hp} {j : Addr} (h : JugAt H j) (k : Ext H H') : JugAt H' j := by
  obtain ⟨a, b, c, e, z⟩ := h
  exact ⟨a, b, c, k _ _ e, z⟩
section
variable {T : List (Addr × Str)} {j : Addr} {H H1 H2 : Hp}
theorem Go.refl (h : JugAt H j) (t : Tabs T H) : Go T j H H := ⟨fun _ _ _ _ e => e, h, t⟩
theorem Go.k (g : Go T j H H1) (k : Kj j H1 H2) : Go T j H H2 := ⟨fun b o n m z => k.1 _ _ n (g.keep b o n m z), k.2, tabs_kj g.tabs g.jug k⟩
theorem Go.e (g : Go T j H H1) (e : Ext H1 H2) : Go T j H H2 := ⟨fun b o n m z => e _ _ (g.keep b o n m z), jug_e g.jug e, g.tabs.ext e⟩
theorem Go.n (g : Go T j H H1) (e : ExtN H1 H2) (t : Tabs T H2) : Go T j H H2 := ⟨fun b o n m z => e _ _ (g.keep b o n m z) m, jug_n g.jug e, t⟩
theorem Go.trans (g : Go T j H H1) (k : Go T j H1 H2) : Go T j H H2 := ⟨fun b o n m z => k.keep _ _ n m (g.keep b o n m z), k.jug, k.tabs⟩
theorem not_j {o : HO} {b : Addr} (h : JugAt H j) (e : H b = some o) (n : ∀ a b c : Int, o ≠ .lst [.int a, .int b, .int c]) : b ≠ j := fun z => by
  obtain ⟨u, v, w, ej, _⟩ := h
  rw [z, ej] at e
  exact n u v w (Option.some.inj e).symm
theorem Go.tup (g : Go T j H H1) (h : JugAt H j) {p : Addr} {xs : List V} (e : H p = some (.tup xs)) : H1 p = some (.tup xs) := g.keep _ _ (not_j h e fun _ _ _ z => by cases z) (fun ps z => by cases z) e
theorem Go.book (g : Go T j H H1) (h : JugAt H j) {b C : Addr} {x : Str} {ws : List Str} (e : BookAt H b C x ws) : BookAt H1 b C x ws := by
  obtain ⟨dx, p, d, h1, h2, h3⟩ := e
  exact ⟨dx, p, d, g.keep _ _ (not_j h h1 fun _ _ _ z => by cases z) (fun ps z => by cases z) h1, g.tup h h2, g.keep _ _ (not_j h h3 fun _ _ _ z => by cases z) (fun ps z => by cases z) h3⟩
end
section
variable {P : Program} {w : World} {K : Frag} {mg : Str → Option Value} {base : Heap} {f fB fS : Addr} {fd dB dS : FuncData}
theorem ok_pickT (F : FnP K "_law_pick" sPick f fd) (FB : FnOk P w K mg base CX0 1 fB dB ["jug", "much"] spBit) (gB : mg "_law_bit" = some (.ref fB)) (kB : PySem.W.keepIn K (.ref fB) = true) (bB : Binds K dB ["jug", "much"] []) (M : Free mg) :
    FnOk P w K mg base CX0 2 f fd ["jug", "items"] (spPickT K) := by
  refine F.ok scPick (fun vs H Q E h => ?_) (fun cdv A outer s H vs Q E hr h => ?_)
  · obtain ⟨j, p, xs, rfl, _⟩ := h
    rfl
  · obtain ⟨j, p, xs, rfl, hj, sq, hpj, ne, few, q⟩ := h
    have hs : sizeLine = 16777216 := sizeLine_eq
    refine ⟨_, PSs.nox (pss_one (ps_ret (pe_ix ix_tup (pv 1) (pe_call FB hr rfl gB kB bB .nil pass0 (pa_cons (pv 0) (pa_cons (pe_callB call_len_seq (by rfl) M.len PySem.boot_len (pa_cons (pv 1) pa_nil)) pa_nil))) (fun _ _ => rfl)))), ?_⟩
    have h0 : 0 < xs.length := List.length_pos_iff.mpr ne
    refine ⟨_, rfl, _, rfl, _, rfl, p, xs, rfl, .inr sq, j, _, rfl, hj, by omega, by omega, fun r H' r0 r1 hk => ?_⟩
    have hi : r.toNat < xs.length := by omega
    have er : r = ((r.toNat : Nat) : Int) := by omega
    rw [er]
    have sq' : SqT K H' p xs := by
      rcases sq with (h | ⟨o, h⟩) | h
      · exact Or.inl (Or.inl (hk.1 _ _ hpj h))
      · exact Or.inl (Or.inr ⟨o, hk.1 _ _ hpj h⟩)
      · exact Or.inr h
    exact ⟨_, _, _, _, rfl, rfl, sq', atI_nat (List.getElem?_eq_getElem hi), q _ _ (List.getElem_mem hi) hk⟩
theorem ok_law_sortedT (F : FnP K "_law_sorted" sSorted f fd) (M : Free mg) : FnOk P w K mg base CX0 1 f fd ["lot"] (spSortedT K) := by
  refine F.ok scSorted (fun vs H Q E h => ?_) (fun cdv A outer s H vs Q E hr h => ?_)
  · obtain ⟨l, ys, rfl, _⟩ := h
    rfl
  · obtain ⟨l, ys, rfl, sq, few, short, q⟩ := h
    have hs : sizeLine = 16777216 := sizeLine_eq
    refine ⟨_, PSs.nox (pss_one (ps_ret (pe_callTy call_tuple_of (by rfl) M.tuple (by decide +kernel) (pa_cons (pe_lc (own := [("pair", 1)]) (g := gName 1) (tt := tYes) (te := tOp (rIxT K) (tVar 1) (tC (.int 1))) rfl scSorted.nd
        (pi_list (pe_callB (cr_sortedP rfl hr.units) (by rfl) M.sorted (by decide +kernel) (pa_cons (pe_callTy (cr_setP rfl hr.units) (by rfl) M.set (by decide +kernel)
          (pa_cons (pe_lc (own := [("piece", 2)]) (g := gName 2) (tt := tYes) (te := tTup (tCons (tCB (rLen K) (tCons (tVar 2) tNil)) (tCons (tVar 2) tNil))) rfl scSorted.nd (pi_tup (pv 0)) (blkOk_by (N := ["lot", "pair", "piece"]) (sc := defScope sSorted) (by decide +kernel))
            (fun _ _ _ _ _ => pg_name (i := 2) scSorted.nd rfl (Or.inl rfl)) (fun _ _ _ _ _ => pts_nil) (fun _ _ _ _ _ => by exact pe_tup (pa_cons (pe_callB call_len (by rfl) M.len PySem.boot_len (pa_cons (pv 2) pa_nil)) (pa_cons (pv 2) pa_nil)))) pa_nil)) pa_nil)))
        (blkOk_by (N := ["lot", "pair", "piece"]) (sc := defScope sSorted) (by decide +kernel))
        (fun _ _ _ _ _ => pg_name (i := 1) scSorted.nd rfl (Or.inl rfl)) (fun _ _ _ _ _ => pts_nil) (fun _ _ _ _ _ => by exact pe_ix ix_tup (pv 1) pe_int (fun _ _ => rfl))) pa_nil)))), ?_⟩
    refine ⟨_, rfl, l, rfl, ⟨_, sq⟩, fun D hD => ?_⟩
    refine lc_it walk_tup (fun i H2 => ∃ ks : List (Addr × Int × Str), H2 D = some (.lst (ks.map fun p => V.ref p.1)) ∧ ks.map (·.2) = (ys.take i).map lenOf ∧ (∀ p ∈ ks, H2 p.1 = some (.tup [.int p.2.1, .str p.2.2])) ∧ Ext H H2)
      ⟨[], upd_same, rfl, fun _ z => (by cases z), (Ext.refl H).new hD⟩ (fun i H2 _ z => by obtain ⟨ks, _, _, _, k⟩ := z; exact sqT_ext k sq) ?_ ?_
    · rintro i x H2 H3 hi ⟨ks, e1, e2, e3, e4⟩ ⟨rfl, ex⟩
      rw [List.getElem?_map] at ex
      cases g : ys[i]? with
      | none => rw [g] at ex; cases ex
      | some y =>
        rw [g] at ex
        obtain rfl : V.str y = x := Option.some.inj ex
        have sy := short y (List.mem_of_getElem? g)
        refine ⟨rfl, _, rfl, _, y.length, rfl, ⟨by omega, rfl⟩, _, rfl, by show 2 ≤ sizeLine; omega, fun T hT => ?_⟩
        have nTD : D ≠ T := ne_of_none e1 hT
        have kl : ks.length = ((ys.take i).map lenOf).length := by rw [← e2, List.length_map]
        refine ⟨ks.map fun p => V.ref p.1, by rw [upd_ne nTD]; exact e1, by rw [List.length_map, kl, List.length_map]; have := List.length_take_le i ys; rw [List.length_map] at hi; omega, ks ++ [(T, lenOf y)], ?_, ?_, fun p m => ?_, fun b u e => ?_⟩
        · rw [List.map_append]
          exact upd_same
        · rw [List.map_append, e2, take_more g, List.map_append]
          rfl
        · rcases List.mem_append.mp m with m | m
          · have z := e3 p m
            have n1 : p.1 ≠ D := fun n => by
              rw [n, e1] at z
              cases z
            rw [upd_ne n1, upd_ne (ne_of_none z hT)]
            exact z
          · rw [List.mem_singleton.mp m]
            rw [upd_ne (Ne.symm nTD)]
            exact upd_same
        · have z := e4 b u e
          rw [upd_ne (ne_of_none e hD), upd_ne (ne_of_none z hT)]
          exact z
    · rintro H2 ⟨ks, e1, e2, e3, e4⟩
      rw [List.length_map, List.take_length] at e2
      have klen : ks.length = ys.length := by
        have z := congrArg List.length e2
        simpa using z
      refine ⟨D, ks, rfl, SqL.of e1, fun p m => SqT.of (e3 p m), by omega, fun a L ha sub pL => ?_⟩
      refine ⟨a, L, rfl, upd_same, fun p m => SqT.of (by rw [upd_ne (ne_of_none (e3 p (sub p m)) ha)]; exact e3 p (sub p m)), fun p L' hp pm eL => ?_⟩
      have told : L'.map (fun z => z.2.2) = ordT ys := by
        have z := congrArg (List.map Prod.snd) eL
        rw [List.map_map] at z
        rw [e2] at pL
        rw [← pairs_sorted pL, ← z]
        rfl
      have here : ∀ z ∈ L', (upd (upd H2 a (SO (prKit P w) a L)) p (.lst (L'.map fun q => V.ref q.1))) z.1 = some (.tup [.int z.2.1, .str z.2.2]) := fun z m => by
        have y := e3 z (sub z (pm.mem_iff.mp m))
        have y2 : (upd H2 a (SO (prKit P w) a L)) z.1 = some (.tup [.int z.2.1, .str z.2.2]) := by
          rw [upd_ne (ne_of_none y ha)]
          exact y
        rw [upd_ne (ne_of_none y2 hp)]
        exact y2
      have ext : Ext H (upd (upd H2 a (SO (prKit P w) a L)) p (.lst (L'.map fun q => V.ref q.1))) := (e4.new ha).new hp
      have lenL : L'.length ≤ 64 := by
        have z := congrArg List.length told
        rw [List.length_map] at z
        rw [z]
        unfold ordT
        rw [List.length_mergeSort]
        have := once_len ys
        omega
      obtain ⟨H3, eH⟩ : ∃ H3, upd (upd H2 a (SO (prKit P w) a L)) p (.lst (L'.map fun q => V.ref q.1)) = H3 := ⟨_, rfl⟩
      have at_ : H3 p = some (.lst (L'.map fun q => V.ref q.1)) := by rw [← eH]; exact upd_same
      rw [eH] at here ext
      refine ⟨_, rfl, ⟨_, SqL.of upd_same⟩, fun D2 hD2 => ?_⟩
      have hD2 : H3 D2 = none := by rw [← eH]; exact hD2
      refine lc_it walk_list (fun i H4 => H4 D2 = some (.lst (((L'.take i).map fun z => z.2.2).map V.str)) ∧ Ext H3 H4) ⟨upd_same, by rw [← eH] at hD2 ⊢; exact (Ext.refl _).new hD2⟩ (fun i H4 _ z => SqL.of (z.2 _ _ at_)) ?_ ?_
      · rintro i x H4 H5 hi ⟨f1, f2⟩ ⟨rfl, ex⟩
        rw [List.getElem?_map] at ex
        cases g : L'[i]? with
        | none => rw [g] at ex; cases ex
        | some z =>
          rw [g] at ex
          obtain rfl : V.ref z.1 = x := Option.some.inj ex
          have hz := f2 _ _ (here z (List.mem_of_getElem? g))
          refine ⟨rfl, _, rfl, z.1, _, _, _, rfl, rfl, SqT.of hz, atI_nat (j := 1) rfl, ?_⟩
          refine ⟨_, f1, by rw [List.length_map, List.length_map]; have := List.length_take_le i L'; have z9 := (List.getElem?_eq_some_iff.mp g).1; omega, ?_, fun b u e => ?_⟩
          · rw [take_more g, List.map_append, List.map_append]
            exact upd_same
          · rw [upd_ne (ne_of_none e hD2)]
            exact f2 b u e
      · rintro H4 ⟨f1, f2⟩
        rw [List.length_map, List.take_length, told] at f1
        refine ⟨D2, _, rfl, Or.inl ⟨SqL.of f1, fun t ht => ?_⟩⟩
        have e5 := (ext.trans f2)
        refine q t _ ?_ (e5.new ht) upd_same
        cases z : H t with
        | none => rfl
        | some o =>
          have y := ht.symm.trans (e5 _ _ z)
          cases y
end
end B17

/-! comprehensions as filters and maps: the walk once for all -/
namespace XF
open PySem PySem.Spec PyProof.Rows L2 XSt NX
open PySem.W (Frag)
/-- a relation that a comprehension's own list at D does not disturb -/
structure KeepsL (R : Hp → Hp → Prop) (H1 : Hp) (D : Addr) : Prop where
  start : R H1 (upd H1 D (.lst []))
  put : ∀ H o, R H1 H → R H1 (upd H D o)
  keep : ∀ H H' l, R H H' → H D = some (.lst l) → H' D = some (.lst l)
  trans : ∀ a b c, R a b → R b c → R a c
theorem takeM {α : Type} {xs : List α} {i : Nat} {v : α} (h : xs[i]? = some v) : xs.take (i + 1) = xs.take i ++ [v] := by
  rw [List.take_add_one, h]
  rfl
theorem lc_fm {J : It} {n : Nat} {G : Hp → Prop} {Y : Nat → Hp → V → Hp → Prop} (w : Walk J n G Y) {B : V → Hp → (Hp → Prop) → Prop} {H1 : Hp} {D : Addr} {Qd : Hp → Prop}
    (R : Hp → Hp → Prop) (rk : KeepsL R H1 D) (xs : List V) (hn : n = xs.length) (small : xs.length ≤ sizeLine) (b : V → Bool) (f : V → V) (hG : ∀ H, R H1 H → G H)
    (hY : ∀ (i : Nat) H v H', i < n → Y i H v H' → H' = H ∧ xs[i]? = some v)
    (turn : ∀ (i : Nat) (v : V) (H' : Hp) (Nx : Hp → Prop), xs[i]? = some v → R H1 H' → (b v = false → ∀ H'', R H' H'' → Nx H'') →
      (b v = true → ∀ H'', R H' H'' → ∃ acc, H'' D = some (.lst acc) ∧ acc.length < sizeLine ∧ Nx (upd H'' D (.lst (acc ++ [f v])))) → B v H' Nx)
    (done : ∀ H', H' D = some (.lst ((xs.filter b).map f)) → R H1 H' → Qd H') :
    ∃ W : Nat → Nat → Hp → Prop, (∃ m, W 0 m (upd H1 D (.lst []))) ∧ ∀ i m H, W i m H → (J.stop i H ∧ Qd H) ∨ (J.go i H ∧ ∃ Nx : Hp → Prop, (∀ H', Nx H' → ∃ m', m' < m ∧ W (i + 1) m' H') ∧ ∀ x H', J.yld i H x H' → B x H' Nx) := by
  refine walk_it w (fun i H => H D = some (.lst (((xs.take i).filter b).map f)) ∧ R H1 H) ⟨upd_same, rk.start⟩ (fun i H _ z => hG H z.2) ?_ ?_
  · rintro i v H H' hi ⟨f1, f2⟩ y
    obtain ⟨rfl, ex⟩ := hY i H v H' hi y
    refine turn i v H' _ ex f2 (fun hb H'' k => ⟨?_, rk.trans _ _ _ f2 k⟩) fun hb H'' k => ⟨_, rk.keep _ _ _ k f1, ?_, ?_, rk.put _ _ (rk.trans _ _ _ f2 k)⟩
    · rw [takeM ex, List.filter_append, List.filter_cons_of_neg (by rw [hb]; decide), List.filter_nil, List.append_nil]
      exact rk.keep _ _ _ k f1
    · have z1 := List.length_filter_le b (xs.take i)
      have z2 := List.length_take_le i xs
      have z3 := (List.getElem?_eq_some_iff.mp ex).1
      rw [List.length_map]
      omega
    · rw [takeM ex, List.filter_append, List.filter_cons_of_pos hb, List.filter_nil, List.map_append]
      exact upd_same
  · rintro H ⟨f1, f2⟩
    rw [hn, List.take_length] at f1
    exact done H f1 f2
/-- a comprehension whose elements are told of one by one -/
theorem lc_some {J : It} {n : Nat} {G : Hp → Prop} {Y : Nat → Hp → V → Hp → Prop} (w : Walk J n G Y) {B : V → Hp → (Hp → Prop) → Prop} {H1 : Hp} {D : Addr} {Qd : Hp → Prop}
    (R : Hp → Hp → Prop) (rk : KeepsL R H1 D) (small : n ≤ sizeLine) (hG : ∀ H, R H1 H → G H) (P : Hp → Nat → V → Prop)
    (Pm : ∀ H H' i y, R H H' → P H i y → P H' i y) (Pd : ∀ H i y l l', H D = some (.lst l) → P H i y → P (upd H D (.lst l')) i y)
    (turn : ∀ (i : Nat) (v : V) (H H' : Hp) (Nx : Hp → Prop), i < n → Y i H v H' → R H1 H → (∀ H'' y, R H H'' → P H'' i y → ∃ acc, H'' D = some (.lst acc) ∧ acc.length < sizeLine ∧ Nx (upd H'' D (.lst (acc ++ [y])))) → B v H' Nx)
    (done : ∀ (H' : Hp) (ys : List V), H' D = some (.lst ys) → ys.length = n → (∀ (i : Nat) (y : V), ys[i]? = some y → P H' i y) → R H1 H' → Qd H') :
    ∃ W : Nat → Nat → Hp → Prop, (∃ m, W 0 m (upd H1 D (.lst []))) ∧ ∀ i m H, W i m H → (J.stop i H ∧ Qd H) ∨ (J.go i H ∧ ∃ Nx : Hp → Prop, (∀ H', Nx H' → ∃ m', m' < m ∧ W (i + 1) m' H') ∧ ∀ x H', J.yld i H x H' → B x H' Nx) := by
  refine walk_it w (fun i H => ∃ ys, H D = some (.lst ys) ∧ ys.length = i ∧ (∀ a y, ys[a]? = some y → P H a y) ∧ R H1 H) ⟨[], upd_same, rfl, fun a y z => (by simp at z), rk.start⟩ (fun i H _ z => by obtain ⟨_, _, _, _, k⟩ := z; exact hG H k) ?_ ?_
  · rintro i v H H' hi ⟨ys, f1, f2, f3, f4⟩ y
    refine turn i v H H' _ hi y f4 fun H'' y k p => ⟨ys, rk.keep _ _ _ k f1, by omega, ys ++ [y], upd_same, by rw [List.length_append, f2]; rfl, fun a z hz => ?_, rk.put _ _ (rk.trans _ _ _ f4 k)⟩
    have e := rk.keep _ _ _ k f1
    by_cases ha : a < ys.length
    · rw [List.getElem?_append_left ha] at hz
      exact Pd _ _ _ _ _ e (Pm _ _ _ _ k (f3 a z hz))
    · rw [List.getElem?_append_right (by omega)] at hz
      have ea : a = i := by
        have := (List.getElem?_eq_some_iff.mp hz).1
        simp at this
        omega
      subst ea
      rw [f2, Nat.sub_self] at hz
      obtain rfl := Option.some.inj hz
      exact Pd _ _ _ _ _ e p
  · rintro H ⟨ys, f1, f2, f3, f4⟩
    exact done H ys f1 f2 f3 f4
end XF

/-! a list of any values beside an empty list: == and != -/
namespace XNil
open PySem PySem.Spec PyProof.Rows L2
open PySem.W (Frag)
def rEqE (K : Frag) : R2 := fun x y H Q => ∃ p xs q, x = .ref p ∧ y = .ref q ∧ SqL K H p xs ∧ SqL K H q [] ∧ Q (.bl xs.isEmpty) H
def rNeE (K : Frag) : R2 := fun x y H Q => ∃ p xs q, x = .ref p ∧ y = .ref q ∧ SqL K H p xs ∧ SqL K H q [] ∧ Q (.bl (!xs.isEmpty)) H
theorem op_eqE {X : Cx} (hu : X.A.units + 64 < cLine) : OpR X (compareOp .Eq) (rEqE X.K) := by
  intro pins s σ H x y v u Q I rx ry h
  obtain ⟨p, xs, q, rfl, rfl, hp, hq, k⟩ := h
  obtain ⟨its, r1, ⟨o, n, e1, e2, e3, e4⟩, _⟩ := I.list hp
  obtain ⟨jts, r2, ⟨o2, n2, g1, g2, g3, g4⟩, _⟩ := I.list hq
  cases rx
  cases ry
  have l1 := r1.length
  have l2 := r2.length
  have A : s.heap.IsList p its.toArray := ⟨o, e1, e2, n, e4⟩
  have B : s.heap.IsList q jts.toArray := ⟨o2, g1, g2, n2, g4⟩
  cases xs with
  | nil =>
    have z1 : its.toArray.size = 0 := by rw [List.size_toArray]; simpa using l1.symm
    have z2 : jts.toArray.size = 0 := by rw [List.size_toArray]; simpa using l2.symm
    refine SeqAt.eq_listAt (e := fun _ => true) A B (z1.trans z2.symm) (by omega) (fun j h1 => by omega) ?_
    rw [z1]
    exact ⟨.bl _, H, I, rfl, k⟩
  | cons a r =>
    have z1 : its.toArray.size = r.length + 1 := by rw [List.size_toArray]; simpa using l1.symm
    have z2 : jts.toArray.size = 0 := by rw [List.size_toArray]; simpa using l2.symm
    exact SeqAt.eq_list_lengthsAt A B (by rw [z1, z2]; simp) (by omega) ⟨.bl _, H, I, rfl, k⟩
theorem op_neE {X : Cx} (hu : X.A.units + 64 < cLine) : OpR X (compareOp .NotEq) (rNeE X.K) := by
  intro pins s σ H x y v u Q I rx ry h
  obtain ⟨p, xs, q, rfl, rfl, hp, hq, k⟩ := h
  obtain ⟨its, r1, ⟨o, n, e1, e2, e3, e4⟩, _⟩ := I.list hp
  obtain ⟨jts, r2, ⟨o2, n2, g1, g2, g3, g4⟩, _⟩ := I.list hq
  cases rx
  cases ry
  have l1 := r1.length
  have l2 := r2.length
  have A : s.heap.IsList p its.toArray := ⟨o, e1, e2, n, e4⟩
  have B : s.heap.IsList q jts.toArray := ⟨o2, g1, g2, n2, g4⟩
  cases xs with
  | nil =>
    have z1 : its.toArray.size = 0 := by rw [List.size_toArray]; simpa using l1.symm
    have z2 : jts.toArray.size = 0 := by rw [List.size_toArray]; simpa using l2.symm
    refine SeqAt.RcNeAt.lists (e := fun _ => true) A B (z1.trans z2.symm) (by omega) (fun j h1 => by omega) X.prog X.w _ _ ?_
    rw [z1]
    exact ⟨.bl _, H, I, rfl, k⟩
  | cons a r =>
    have z1 : its.toArray.size = r.length + 1 := by rw [List.size_toArray]; simpa using l1.symm
    have z2 : jts.toArray.size = 0 := by rw [List.size_toArray]; simpa using l2.symm
    exact SeqAt.RcNeAt.lists_lengths A B (by rw [z1, z2]; simp) (by omega) X.prog X.w _ _ ⟨.bl _, H, I, rfl, k⟩
end XNil

/-! what a comprehension's list leaves as it is -/
namespace B17
open PySem PySem.Spec PyProof.Rows L2 XSt NX XB XF
open PySem.W (Frag)
theorem Ext.put {H1 H : Hp} {D : Addr} {o : HO} (k : Ext H1 H) (hD : H1 D = none) : Ext H1 (upd H D o) := fun b u e => by
  rw [upd_ne (ne_of_none e hD)]
  exact k b u e
theorem ext_keeps {H1 : Hp} {D : Addr} (hD : H1 D = none) : KeepsL Ext H1 D := ⟨(Ext.refl _).put hD, fun H o k => k.put hD, fun H H' l k e => k _ _ e, fun a b c x y => x.trans y⟩
theorem kj_keeps {H1 : Hp} {D j : Addr} (hj : JugAt H1 j) (hD : H1 D = none) : KeepsL (Kj j) H1 D := ⟨(Kj.refl hj).new hD (jug_none hj hD), fun H o k => k.new hD (jug_none hj hD), fun H H' l k e => k.1 _ _ (jug_none hj hD) e, fun a b c x y => x.trans y⟩
theorem at_own {n : Nat} {xs : List V} : ∀ i H v H', i < n → YAt xs i H v H' → H' = H ∧ xs[i]? = some v := fun _ _ _ _ _ y => y
theorem at_str {n : Nat} {z : Str} : ∀ (i : Nat) (H : Hp) (v : V) (H' : Hp), i < n → (H' = H ∧ ∃ c, z.cps[i]? = some c ∧ v = V.str ⟨#[c]⟩) → H' = H ∧ ((XSt.signs z).map V.str)[i]? = some v := by
  rintro i H v H' _ ⟨rfl, c, hc, rfl⟩
  refine ⟨rfl, ?_⟩
  unfold XSt.signs
  rw [List.getElem?_map, List.getElem?_map, Array.getElem?_toList, hc]
  rfl
end B17

/-! sum of a tuple of whole numbers -/
namespace XSm
open PySem PySem.Spec PyProof.Rows L2
section
variable {prog : Program} {w : World} {A : Around} {E : Value → Shared → Prop} {s : Shared} {l : Addr} {Q : Value → Shared → Prop}
theorem tuple_sum {its : List Value} {ns : List Int} (hh : A.handled = none) (hl : s.heap.IsTuple l its.toArray) (hi : IntsAre its ns)
    (h : ∀ h' tk t', (∀ b o, s.heap.get? b = some o → h'.get? b = some o) → Q (.int ns.sum t') { s with heap := h', toks := tk }) : wpAny (model prog w) A (call (.builtin "sum") [.ref l]) Q E s := by
  obtain ⟨xs, e⟩ := hi.allInts.items
  have hn : numsOf (intItems xs).toList = ns := by rw [← e]; exact hi.numsOf
  rw [nums_intItems] at hn
  rw [e] at hl
  have lt : l < s.heap.objs.size := by
    obtain ⟨_, g, _⟩ := hl
    exact Heap.lt_size g
  refine call_sum_walkG (wpAny_pyIter_tuple hl ?_)
  refine ⟨_, [s.heap.objs.size, l], [s.heap.objs.size], _, _, _, numAt xs, rfl, Walks.tuple (A := A.in1) hh _ l (Nat.ne_of_lt lt) (intItems xs), ⟨⟨_, Heap.get?_push_size _ rfl, rfl, rfl⟩, hl.push _⟩, fun b hb => ?_, fun _ _ => intItems_at, fun h' tk t' hk => ?_⟩
  · rw [Heap.size_push]
    rcases List.mem_cons.mp hb with rfl | hb
    · exact Nat.lt_succ_self _
    · rw [List.mem_singleton.mp hb]
      exact Nat.lt_succ_of_lt lt
  · have z := h h' tk t' fun b o g => hk b o (by rw [List.mem_singleton]; exact Nat.ne_of_lt (Heap.lt_size g)) (Heap.get?_push_of_some _ g)
    have e2 : preSum (numAt xs) (intItems xs).size = ns.sum := by
      rw [← hn, preSum_eq, List.take_of_length_le (by simp [intItems])]
    rw [e2]
    exact z
end
def rSumT (K : PySem.W.Frag) : List V → Hp → VK → Prop := fun vs H Q => ∃ (a : Addr) (ns : List Int), vs = [V.ref a] ∧ SqT K H a (ns.map V.int) ∧ Q (.int ns.sum) H
theorem cr_sumT {X : Cx} (hc : X.calm = true) : CallR X (.builtin "sum") (rSumT X.K) := by
  intro pins s σ H vs us Q I r h
  obtain ⟨a, ns, rfl, hs, q⟩ := h
  obtain ⟨its, rv, ⟨o, ho, hcl, n, hd⟩, _⟩ := I.tuple hs
  rw [Vals.ref1 r]
  exact tuple_sum (I.ok.hd hc) ⟨o, ho, hcl, n, hd⟩ rv.ints fun h' tk t' hk => ⟨.int _, H, I.kept hk, ⟨_, rfl⟩, q⟩
end XSm

/-! chances, with all that is refused -/
namespace B17
open PySem PySem.Spec PyProof.Rows L2 XSt NX XB XE XSm
open PySem.W (Frag)
def chV : V → Bool
  | .int i => longV (.int i) && decide (0 ≤ i)
  | _ => false
def spCheckChancesX (K : Frag) (cO : Addr) : Sp := fun vs H Q E => ∃ x v, vs = [.str x, v] ∧ x.length ≤ 3 ∧ ((NoTuple K H v ∧ ∀ H', Ext H H' → E (.ref cO) none H') ∨ ∃ p zs, v = .ref p ∧ SqT K H p zs ∧ zs.length ≤ 4000 ∧ (∀ z ∈ zs, Asked K H z) ∧
  ((zs.length ≠ x.length ∧ ∀ H', Ext H H' → E (.ref cO) none H') ∨ (zs.length = x.length ∧
    (((∃ z ∈ zs, chV z = false) ∧ ∀ H', Ext H H' → E (.ref cO) none H') ∨ ∃ ns : List Int, zs = ns.map V.int ∧ (∀ n ∈ ns, chV (.int n) = true) ∧ (ns.sum = 0 → ∀ H', Ext H H' → E (.ref cO) none H') ∧ (ns.sum ≠ 0 → ∀ H', Ext H H' → Q .non H')))))
section
variable {P : Program} {w : World} {K : Frag} {mg : Str → Option Value} {base : Heap} {f fI cO : Addr} {fd dI : FuncData}
end
end B17

/-! what is said of a call that may be refused, all its clauses -/
namespace B17
open PySem PySem.Spec PyProof.Rows L2 XSt NX XB XE LamX
open PySem.W (Frag)
theorem exm_any {K : Frag} {cls c : Value} {b : Bool} (h : PySem.W.exmOne K cls c = some b) : PySem.W.exmAny K cls [c] = some b := by
  unfold PySem.W.exmAny
  rw [h]
  cases b <;> rfl
/-- the ten classes, by their place in the clauses -/
structure Ten (K : Frag) (mg : Str → Option Value) (cl : Nat → Addr) : Prop where
  a0 : mg "InvalidLetters" = some (.ref (cl 0))
  a1 : mg "InvalidText" = some (.ref (cl 1))
  a2 : mg "InvalidWord" = some (.ref (cl 2))
  a3 : mg "InvalidBook" = some (.ref (cl 3))
  a4 : mg "InvalidPlan" = some (.ref (cl 4))
  a5 : mg "InvalidOperation" = some (.ref (cl 5))
  a6 : mg "InvalidNumber" = some (.ref (cl 6))
  a7 : mg "NotFull" = some (.ref (cl 7))
  a8 : mg "Clash" = some (.ref (cl 8))
  a9 : mg "TooMany" = some (.ref (cl 9))
  x6 : XfC K (cl 6)
  x7 : XfC K (cl 7)
  x8 : XfC K (cl 8)
  x9 : XfC K (cl 9)
  f6 : PySem.W.findIn K (.ref (cl 6)) "value" = some none
  f7 : PySem.W.findIn K (.ref (cl 7)) "text" = some none
  f8 : PySem.W.findIn K (.ref (cl 8)) "one" = some none
  f8' : PySem.W.findIn K (.ref (cl 8)) "other" = some none
  f9 : PySem.W.findIn K (.ref (cl 9)) "limit" = some none
  exm : ∀ i j, i < 10 → j ≤ i → PySem.W.exmOne K (.ref (cl i)) (.ref (cl j)) = some (decide (i = j))
def saidPlain : Nat → Str
  | 0 => "letters" | 1 => "text" | 2 => "word" | 3 => "book" | 4 => "plan" | _ => "operation"
def clashD (u v : Str) : PyData := .tuple [.str u, .str v]
/-- what a value's repr is -/
def ShowsV (K : Frag) (H : Hp) (v : V) (s : Str) : Prop := ∃ d : PyData, RepV K H v d ∧ d.showable = true ∧ d.depth ≤ 60 ∧ d.shown.length ≤ 100000 ∧ s = d.shown
/-- what an error comes to -/
def saidW (K : Frag) (cl : Nat → Addr) (Q : VK) : XK := fun cls d H' => (∃ i, i < 6 ∧ cls = .ref (cl i) ∧ Q (.str (saidPlain i)) H') ∨
  (cls = .ref (cl 8) ∧ ∃ dd u v, d = some dd ∧ H' dd = some (.xd (clashF u v)) ∧ (clashD u v).showable = true ∧ (clashD u v).shown.length ≤ 100000 ∧ ∀ H'', Ext H' H'' → Q (.str (Str.ofString "clash " ++ (clashD u v).shown)) H'') ∨
  (cls = .ref (cl 9) ∧ ∃ dd v s, d = some dd ∧ H' dd = some (.xd [("limit", v)]) ∧ ShowsV K H' v s ∧ Q (.str (Str.ofString "many " ++ s)) H') ∨
  (cls = .ref (cl 6) ∧ ∃ dd v s, d = some dd ∧ H' dd = some (.xd [("value", v)]) ∧ ShowsV K H' v s ∧ Q (.str (Str.ofString "number " ++ s)) H') ∨
  (cls = .ref (cl 7) ∧ ∃ dd v s, d = some dd ∧ H' dd = some (.xd [("text", v)]) ∧ ShowsV K H' v s ∧ Q (.str (Str.ofString "not full " ++ s)) H')
def TSaid (K : Frag) (cl : Nat → Addr) : (XK → Hp → VK → Prop) → Hp → VK → Prop := fun tl H Q => tl (saidW K cl Q) H fun _ H' => Q (.str "fine") H'
section
variable {P : Program} {w : World} {K : Frag} {mg : Str → Option Value} {base : Heap} {cl : Nat → Addr} {T : List (Addr × Str)}
end
end B17

/-! _law_said(lambda: ..) -/
namespace B17
open PySem PySem.Spec PyProof.Rows L2 XSt NX XB XE LamX
open PySem.W (Frag)
section
variable {T : List (Addr × Str)} {cl : Nat → Addr}
end
end B17

/-! a drawn plain book -/
namespace B17
open PySem PySem.Spec PyProof.Rows L2 XSt NX XB
open PySem.W (Frag)
abbrev sLot : Stmt := top 54
def spLotN : Sp := fun vs H Q _ => ∃ (j : Addr) (x : Str) (m n : Nat), vs = [.ref j, .str x, .int (m : Int), .int (n : Int)] ∧ JugAt H j ∧ Abc x ∧ 1 ≤ m ∧ m ≤ 60 ∧ 1 ≤ n ∧ n ≤ 400 ∧
  ∀ p ws H', H p = none → Kj j H H' → H' p = some (.tup (ws.map V.str)) → LotOk x n ws → ws ≠ [] → ws.length ≤ m → Q (.ref p) H'
section
variable {P : Program} {w : World} {K : Frag} {mg : Str → Option Value} {base : Heap} {f fB fP fL fM fS : Addr} {fd dB dP dL dM dS : FuncData}
theorem scLot : FnScope ["jug", "signs", "much", "most", "found", "turn", "piece", "one"] ["jug", "signs", "much", "most"] (defScope sLot) := ⟨rfl, rfl, rfl, by decide +kernel, rfl, by decide +kernel, by decide +kernel⟩
theorem ok_lot (F : FnP K "_law_lot" sLot f fd) (M : Free mg) (mR : mg "range" = none) (FP : FnOk P w K mg base CX0 2 fP dP ["jug", "items"] (spPickS K)) (gP : mg "_law_pick" = some (.ref fP)) (kP : PySem.W.keepIn K (.ref fP) = true) (bP : Binds K dP ["jug", "items"] [])
    (FL : FnOk P w K mg base CX0 3 fL dL ["jug", "signs", "most"] spLine) (gL : mg "_law_line" = some (.ref fL)) (kL : PySem.W.keepIn K (.ref fL) = true) (bL : Binds K dL ["jug", "signs", "most"] [])
    (FM : FnOk P w K mg base CX0 1 fM dM ["one", "two"] spMeet) (gM : mg "_law_meet" = some (.ref fM)) (kM : PySem.W.keepIn K (.ref fM) = true) (bM : Binds K dM ["one", "two"] [])
    (FS : FnOk P w K mg base CX0 1 fS dS ["lot"] (spSorted K)) (gS : mg "_law_sorted" = some (.ref fS)) (kS : PySem.W.keepIn K (.ref fS) = true) (bS : Binds K dS ["lot"] []) :
    FnOk P w K mg base CX0 4 f fd ["jug", "signs", "much", "most"] spLot := by
  refine F.ok scLot (fun vs H Q E h => ?_) (fun cdv A outer s H vs Q E hr h => ?_)
  · obtain ⟨j, x, m, n, rfl, _⟩ := h
    rfl
  · obtain ⟨j, x, m, n, rfl, hj, abc, m60, n1, n400, q⟩ := h
    have hs : sizeLine = 16777216 := sizeLine_eq
    refine ⟨_, PSs.nox (pss_cons (ps_set (i := 4) scLot.nd rfl (.inl rfl) (pe_lst pa_nil))
      (pss_cons (ps_for PassesOwn.never rfl (pi_range1 (by rfl) mR (pa_cons (pv 2) pa_nil)) (pg_name (i := 5) scLot.nd rfl (.inl rfl))
        (pss_cons (ps_set (i := 6) scLot.nd rfl (.inr rfl) (pe_op op_addS (pe_call FP (hr.mono (by decide)) (by rfl) gP kP bP .nil pass0 (pa_cons (pv 0) (pa_cons (pv 1) pa_nil))) (pe_call FL hr (by rfl) gL kL bL .nil pass0 (pa_cons (pv 0) (pa_cons (pv 1) (pa_cons (pe_op op_sub (pv 3) pe_int) pa_nil))))))
        (pss_one (ps_if (pt_cmpR (op_eqD hr.units) (pe_lc (own := [("one", 7)]) (g := gName 7) (tt := tB (tCall spMeet [] E0 (tCons (tVar 7) (tCons (tVar 6) tNil)))) (te := tVar 7) rfl scLot.nd (pi_list (pv 4)) (blkOk_by (N := ["jug", "signs", "much", "most", "found", "turn", "piece", "one"]) (sc := defScope sLot) (by decide +kernel))
            (fun _ _ _ _ _ => pg_name (i := 7) scLot.nd rfl (Or.inl rfl)) (fun _ _ _ _ _ => by exact pts_one (pt_val (pe_call FM (hr.mono (by decide)) (by rfl) gM kM bM .nil pass0 (pa_cons (pv 7) (pa_cons (pv 6) pa_nil))))) (fun _ _ _ _ _ => by exact pv 7)) (pe_lst pa_nil) (nomark _))
          (pss_one (ps_expr (pe_bm PySem.F.plainAttrs_list PySem.F.slot_list_append PySem.F.type_list_append mt_append (pv 4) (pa_cons (pv 6) pa_nil)))) pss_nil))))
      (pss_one (ps_ret (pe_call FS (hr.mono (by decide)) (by rfl) gS kS bS .nil pass0 (pa_cons (pv 4) pa_nil)))))), ?_⟩
    refine ⟨Nat.zero_le _, fun l hl => ?_⟩
    have nlj := jug_none hj hl
    refine ⟨_, rfl, _, rfl, by omega, by omega, ?_⟩
    have en : ((n : Int) - 1) = ((n - 1 : Nat) : Int) := by omega
    refine for_range (n := m) (fun i σ H2 => ∃ o5 o6 o7 ws, σ = [some (.ref j), some (.str x), some (.int (m : Int)), some (.int (n : Int)), some (.ref l), o5, o6, o7] ∧ H2 l = some (.lst (ws.map V.str)) ∧ ws.length ≤ i ∧
      (∀ k ∈ ws, 1 ≤ k.length ∧ k.length ≤ n ∧ ∀ c ∈ cs k, c ∈ cs x) ∧ NoPre ws ∧ NoSuf ws ∧ Kj j H H2) ⟨_, _, _, [], rfl, upd_same, Nat.le_refl _, fun _ z => (by cases z), fun _ z => (by cases z), fun _ z => (by cases z), (Kj.refl hj).new hl nlj⟩ ?_ ?_
    · rintro i σ H2 hi ⟨o5, o6, o7, ws, rfl, el, lw, fine, np, ns, hk⟩
      refine ⟨_, rfl, _, rfl, j, _, rfl, hk.2, Or.inr ⟨x, rfl, abc.one, Nat.le_trans abc.few (by decide), fun c H3 mc k3 => ?_⟩⟩
      refine ⟨_, rfl, _, rfl, _, rfl, _, _, rfl, rfl, j, x, n - 1, by show [V.ref j, V.str x, V.int ((n : Int) - 1)] = _; rw [en], k3.2, abc.one, Nat.le_trans abc.few (by decide), by omega, fun y H4 my ly k4 => ?_⟩
      have few : (⟨#[c]⟩ : Str).length + y.length ≤ sizeLine := by
        show 1 + y.length ≤ sizeLine
        omega
      refine ⟨_, _, rfl, rfl, few, ?_⟩
      obtain ⟨k, ek⟩ : ∃ k, (⟨#[c]⟩ : Str) ++ y = k := ⟨_, rfl⟩
      rw [ek]
      have lk : k.length = 1 + y.length := by
        rw [← ek, app_len]
        rfl
      have mk : ∀ d ∈ cs k, d ∈ cs x := fun d md => by
        rw [← ek, cs_app] at md
        rcases List.mem_append.mp md with md | md
        · obtain rfl : d = c := List.mem_singleton.mp md
          exact mc
        · exact my d md
      have k34 := k3.trans k4
      have el4 := k34.1 l _ nlj el
      have hk4 := hk.trans k34
      refine ⟨_, rfl, l, rfl, ⟨_, SqL.of el4⟩, fun D hD => ?_⟩
      have okw : ∀ z ∈ ws, PyData.strOk z = true := fun z m => strOk_of abc.ok (fine z m).2.2
      refine walk_it walk_list (fun a H5 => H5 D = some (.lst (((ws.take a).filter fun z => meetB z k).map V.str)) ∧ Ext H4 H5) ⟨upd_same, (Ext.refl _).new hD⟩ (fun a H5 _ z => SqL.of (z.2 _ _ el4)) ?_ ?_
      · rintro a v H5 H6 ha ⟨f1, f2⟩ ⟨rfl, ex⟩
        rw [List.getElem?_map] at ex
        cases g : ws[a]? with
        | none => rw [g] at ex; cases ex
        | some z =>
          rw [g] at ex
          obtain rfl : V.str z = v := Option.some.inj ex
          have lz := fine z (List.mem_of_getElem? g)
          refine ⟨rfl, _, rfl, _, rfl, z, k, rfl, by omega, by omega, fun H7 k7 => ⟨_, rfl, ?_⟩⟩
          have nx : ((ws.take (a + 1)).filter fun z => meetB z k) = ((ws.take a).filter fun z => meetB z k) ++ (if meetB z k = true then [z] else []) := by
            rw [take_more g, List.filter_append]
            cases hz : meetB z k <;> simp [hz]
          rw [nx]
          cases hz : meetB z k with
          | true =>
            refine iteT ⟨_, rfl, _, k7 _ _ f1, ?_, ?_, fun b u e => ?_⟩
            · have z1 := List.length_filter_le (fun z => meetB z k) (ws.take a)
              have z2 := List.length_take_le a ws
              have z3 : a < ws.length := (List.getElem?_eq_some_iff.mp g).1
              rw [List.length_map]
              omega
            · rw [List.map_append]
              exact upd_same
            · rw [upd_ne (ne_of_none e hD)]
              exact k7 _ _ (f2 b u e)
          | false =>
            refine iteF ⟨?_, f2.trans k7⟩
            rw [if_neg (by simp), List.append_nil]
            exact k7 _ _ f1
      · rintro H5 ⟨f1, f2⟩
        rw [List.length_map, List.take_length] at f1
        refine ⟨by show 0 ≤ sizeLine; decide, fun N hN => ⟨_, .list [], .lst (SqL.of (by rw [upd_ne (ne_of_none f1 hN)]; exact f1)) (dpa_txt _), .lst (SqL.of upd_same) .nil, txt_shaped (fun z m => okw z (List.mem_filter.mp m).1), by decide +kernel, _, rfl, ?_⟩⟩
        rw [txt_nil]
        have x6 : Ext H4 (upd H5 N (.lst [])) := f2.new hN
        have el6 := x6 _ _ el4
        have hk6 := hk4.ext x6
        generalize upd H5 N (.lst []) = H6 at el6 hk6 ⊢
        cases hz : (ws.filter fun z => meetB z k).isEmpty with
        | false => exact iteF ⟨_, _, _, ws, rfl, el6, by omega, fine, np, ns, hk6⟩
        | true =>
          have none_ : ∀ z ∈ ws, meetB z k = false := fun z m => by
            cases hb : meetB z k with
            | false => rfl
            | true =>
              have y := List.isEmpty_iff.mp hz
              have y2 : z ∈ ws.filter fun z => meetB z k := List.mem_filter.mpr ⟨m, hb⟩
              rw [y] at y2
              cases y2
          refine iteT ⟨_, rfl, .inl ⟨rfl, _, .inl (.inl el6)⟩, _, rfl, l, _, _, rfl, rfl, el6, by rw [List.length_map]; omega, ?_⟩
          refine ⟨_, _, _, ws ++ [k], rfl, by rw [List.map_append]; exact upd_same, by rw [List.length_append]; show ws.length + 1 ≤ i + 1; omega, fun z m => ?_, np.snoc none_, ns.snoc none_, ?_⟩
          · rcases List.mem_append.mp m with m | m
            · exact fine z m
            · rw [List.mem_singleton.mp m]
              exact ⟨by omega, by omega, mk⟩
          · refine ⟨fun b o nb e => ?_, ?_⟩
            · rw [upd_ne (ne_of_none e hl)]
              exact hk6.1 b o nb e
            · obtain ⟨a1, a2, a3, e, z⟩ := hk6.2
              exact ⟨a1, a2, a3, by rw [upd_ne (Ne.symm nlj)]; exact e, z⟩
    · rintro σ H2 ⟨o5, o6, o7, ws, rfl, el, lw, fine, np, ns, hk⟩
      refine ⟨_, rfl, l, ws, rfl, SqL.of el, by omega, fun k mk => by have := (fine k mk).2.1; omega, fun p H' hp k1 e1 => ?_⟩
      refine q p (ordT ws) H' (hk.none hp) (hk.ext k1) e1 ⟨fun k mk => fine k (ordT_mem.mp mk), np.perm fun _ => ordT_mem, ns.perm fun _ => ordT_mem, ordT_twice ws⟩ ?_
      have := ordT_len ws
      omega
theorem ok_lotN (F : FnP K "_law_lot" sLot f fd) (M : Free mg) (mR : mg "range" = none) (FP : FnOk P w K mg base CX0 2 fP dP ["jug", "items"] (spPickS K)) (gP : mg "_law_pick" = some (.ref fP)) (kP : PySem.W.keepIn K (.ref fP) = true) (bP : Binds K dP ["jug", "items"] [])
    (FL : FnOk P w K mg base CX0 3 fL dL ["jug", "signs", "most"] spLine) (gL : mg "_law_line" = some (.ref fL)) (kL : PySem.W.keepIn K (.ref fL) = true) (bL : Binds K dL ["jug", "signs", "most"] [])
    (FM : FnOk P w K mg base CX0 1 fM dM ["one", "two"] spMeet) (gM : mg "_law_meet" = some (.ref fM)) (kM : PySem.W.keepIn K (.ref fM) = true) (bM : Binds K dM ["one", "two"] [])
    (FS : FnOk P w K mg base CX0 1 fS dS ["lot"] (spSorted K)) (gS : mg "_law_sorted" = some (.ref fS)) (kS : PySem.W.keepIn K (.ref fS) = true) (bS : Binds K dS ["lot"] []) :
    FnOk P w K mg base CX0 4 f fd ["jug", "signs", "much", "most"] spLotN := by
  refine F.ok scLot (fun vs H Q E h => ?_) (fun cdv A outer s H vs Q E hr h => ?_)
  · obtain ⟨j, x, m, n, rfl, _⟩ := h
    rfl
  · obtain ⟨j, x, m, n, rfl, hj, abc, m1, m60, n1, n400, q⟩ := h
    have hs : sizeLine = 16777216 := sizeLine_eq
    refine ⟨_, PSs.nox (pss_cons (ps_set (i := 4) scLot.nd rfl (.inl rfl) (pe_lst pa_nil))
      (pss_cons (ps_for PassesOwn.never rfl (pi_range1 (by rfl) mR (pa_cons (pv 2) pa_nil)) (pg_name (i := 5) scLot.nd rfl (.inl rfl))
        (pss_cons (ps_set (i := 6) scLot.nd rfl (.inr rfl) (pe_op op_addS (pe_call FP (hr.mono (by decide)) (by rfl) gP kP bP .nil pass0 (pa_cons (pv 0) (pa_cons (pv 1) pa_nil))) (pe_call FL hr (by rfl) gL kL bL .nil pass0 (pa_cons (pv 0) (pa_cons (pv 1) (pa_cons (pe_op op_sub (pv 3) pe_int) pa_nil))))))
        (pss_one (ps_if (pt_cmpR (op_eqD hr.units) (pe_lc (own := [("one", 7)]) (g := gName 7) (tt := tB (tCall spMeet [] E0 (tCons (tVar 7) (tCons (tVar 6) tNil)))) (te := tVar 7) rfl scLot.nd (pi_list (pv 4)) (blkOk_by (N := ["jug", "signs", "much", "most", "found", "turn", "piece", "one"]) (sc := defScope sLot) (by decide +kernel))
            (fun _ _ _ _ _ => pg_name (i := 7) scLot.nd rfl (Or.inl rfl)) (fun _ _ _ _ _ => by exact pts_one (pt_val (pe_call FM (hr.mono (by decide)) (by rfl) gM kM bM .nil pass0 (pa_cons (pv 7) (pa_cons (pv 6) pa_nil))))) (fun _ _ _ _ _ => by exact pv 7)) (pe_lst pa_nil) (nomark _))
          (pss_one (ps_expr (pe_bm PySem.F.plainAttrs_list PySem.F.slot_list_append PySem.F.type_list_append mt_append (pv 4) (pa_cons (pv 6) pa_nil)))) pss_nil))))
      (pss_one (ps_ret (pe_call FS (hr.mono (by decide)) (by rfl) gS kS bS .nil pass0 (pa_cons (pv 4) pa_nil)))))), ?_⟩
    refine ⟨Nat.zero_le _, fun l hl => ?_⟩
    have nlj := jug_none hj hl
    refine ⟨_, rfl, _, rfl, by omega, by omega, ?_⟩
    have en : ((n : Int) - 1) = ((n - 1 : Nat) : Int) := by omega
    refine for_range (n := m) (fun i σ H2 => ∃ o5 o6 o7 ws, σ = [some (.ref j), some (.str x), some (.int (m : Int)), some (.int (n : Int)), some (.ref l), o5, o6, o7] ∧ H2 l = some (.lst (ws.map V.str)) ∧ ws.length ≤ i ∧
      (∀ k ∈ ws, 1 ≤ k.length ∧ k.length ≤ n ∧ ∀ c ∈ cs k, c ∈ cs x) ∧ NoPre ws ∧ NoSuf ws ∧ Kj j H H2 ∧ (1 ≤ i → ws ≠ [])) ⟨_, _, _, [], rfl, upd_same, Nat.le_refl _, fun _ z => (by cases z), fun _ z => (by cases z), fun _ z => (by cases z), (Kj.refl hj).new hl nlj, fun z => absurd z (by decide)⟩ ?_ ?_
    · rintro i σ H2 hi ⟨o5, o6, o7, ws, rfl, el, lw, fine, np, ns, hk, full⟩
      refine ⟨_, rfl, _, rfl, j, _, rfl, hk.2, Or.inr ⟨x, rfl, abc.one, Nat.le_trans abc.few (by decide), fun c H3 mc k3 => ?_⟩⟩
      refine ⟨_, rfl, _, rfl, _, rfl, _, _, rfl, rfl, j, x, n - 1, by show [V.ref j, V.str x, V.int ((n : Int) - 1)] = _; rw [en], k3.2, abc.one, Nat.le_trans abc.few (by decide), by omega, fun y H4 my ly k4 => ?_⟩
      have few : (⟨#[c]⟩ : Str).length + y.length ≤ sizeLine := by
        show 1 + y.length ≤ sizeLine
        omega
      refine ⟨_, _, rfl, rfl, few, ?_⟩
      obtain ⟨k, ek⟩ : ∃ k, (⟨#[c]⟩ : Str) ++ y = k := ⟨_, rfl⟩
      rw [ek]
      have lk : k.length = 1 + y.length := by
        rw [← ek, app_len]
        rfl
      have mk : ∀ d ∈ cs k, d ∈ cs x := fun d md => by
        rw [← ek, cs_app] at md
        rcases List.mem_append.mp md with md | md
        · obtain rfl : d = c := List.mem_singleton.mp md
          exact mc
        · exact my d md
      have k34 := k3.trans k4
      have el4 := k34.1 l _ nlj el
      have hk4 := hk.trans k34
      refine ⟨_, rfl, l, rfl, ⟨_, SqL.of el4⟩, fun D hD => ?_⟩
      have okw : ∀ z ∈ ws, PyData.strOk z = true := fun z m => strOk_of abc.ok (fine z m).2.2
      refine walk_it walk_list (fun a H5 => H5 D = some (.lst (((ws.take a).filter fun z => meetB z k).map V.str)) ∧ Ext H4 H5) ⟨upd_same, (Ext.refl _).new hD⟩ (fun a H5 _ z => SqL.of (z.2 _ _ el4)) ?_ ?_
      · rintro a v H5 H6 ha ⟨f1, f2⟩ ⟨rfl, ex⟩
        rw [List.getElem?_map] at ex
        cases g : ws[a]? with
        | none => rw [g] at ex; cases ex
        | some z =>
          rw [g] at ex
          obtain rfl : V.str z = v := Option.some.inj ex
          have lz := fine z (List.mem_of_getElem? g)
          refine ⟨rfl, _, rfl, _, rfl, z, k, rfl, by omega, by omega, fun H7 k7 => ⟨_, rfl, ?_⟩⟩
          have nx : ((ws.take (a + 1)).filter fun z => meetB z k) = ((ws.take a).filter fun z => meetB z k) ++ (if meetB z k = true then [z] else []) := by
            rw [take_more g, List.filter_append]
            cases hz : meetB z k <;> simp [hz]
          rw [nx]
          cases hz : meetB z k with
          | true =>
            refine iteT ⟨_, rfl, _, k7 _ _ f1, ?_, ?_, fun b u e => ?_⟩
            · have z1 := List.length_filter_le (fun z => meetB z k) (ws.take a)
              have z2 := List.length_take_le a ws
              have z3 : a < ws.length := (List.getElem?_eq_some_iff.mp g).1
              rw [List.length_map]
              omega
            · rw [List.map_append]
              exact upd_same
            · rw [upd_ne (ne_of_none e hD)]
              exact k7 _ _ (f2 b u e)
          | false =>
            refine iteF ⟨?_, f2.trans k7⟩
            rw [if_neg (by simp), List.append_nil]
            exact k7 _ _ f1
      · rintro H5 ⟨f1, f2⟩
        rw [List.length_map, List.take_length] at f1
        refine ⟨by show 0 ≤ sizeLine; decide, fun N hN => ⟨_, .list [], .lst (SqL.of (by rw [upd_ne (ne_of_none f1 hN)]; exact f1)) (dpa_txt _), .lst (SqL.of upd_same) .nil, txt_shaped (fun z m => okw z (List.mem_filter.mp m).1), by decide +kernel, _, rfl, ?_⟩⟩
        rw [txt_nil]
        have x6 : Ext H4 (upd H5 N (.lst [])) := f2.new hN
        have el6 := x6 _ _ el4
        have hk6 := hk4.ext x6
        generalize upd H5 N (.lst []) = H6 at el6 hk6 ⊢
        cases hz : (ws.filter fun z => meetB z k).isEmpty with
        | false => exact iteF ⟨_, _, _, ws, rfl, el6, by omega, fine, np, ns, hk6, fun _ z => by rw [z] at hz; cases hz⟩
        | true =>
          have none_ : ∀ z ∈ ws, meetB z k = false := fun z m => by
            cases hb : meetB z k with
            | false => rfl
            | true =>
              have y := List.isEmpty_iff.mp hz
              have y2 : z ∈ ws.filter fun z => meetB z k := List.mem_filter.mpr ⟨m, hb⟩
              rw [y] at y2
              cases y2
          refine iteT ⟨_, rfl, .inl ⟨rfl, _, .inl (.inl el6)⟩, _, rfl, l, _, _, rfl, rfl, el6, by rw [List.length_map]; omega, ?_⟩
          refine ⟨_, _, _, ws ++ [k], rfl, by rw [List.map_append]; exact upd_same, by rw [List.length_append]; show ws.length + 1 ≤ i + 1; omega, fun z m => ?_, np.snoc none_, ns.snoc none_, ?_, fun _ z => by cases ws <;> cases z⟩
          · rcases List.mem_append.mp m with m | m
            · exact fine z m
            · rw [List.mem_singleton.mp m]
              exact ⟨by omega, by omega, mk⟩
          · refine ⟨fun b o nb e => ?_, ?_⟩
            · rw [upd_ne (ne_of_none e hl)]
              exact hk6.1 b o nb e
            · obtain ⟨a1, a2, a3, e, z⟩ := hk6.2
              exact ⟨a1, a2, a3, by rw [upd_ne (Ne.symm nlj)]; exact e, z⟩
    · rintro σ H2 ⟨o5, o6, o7, ws, rfl, el, lw, fine, np, ns, hk, full⟩
      refine ⟨_, rfl, l, ws, rfl, SqL.of el, by omega, fun k mk => by have := (fine k mk).2.1; omega, fun p H' hp k1 e1 => ?_⟩
      refine q p (ordT ws) H' (hk.none hp) (hk.ext k1) e1 ⟨fun k mk => fine k (ordT_mem.mp mk), np.perm fun _ => ordT_mem, ns.perm fun _ => ordT_mem, ordT_twice ws⟩ (fun z => ?_) ?_
      · cases ws with
        | nil => exact full m1 rfl
        | cons c l =>
          have y : c ∈ ordT (c :: l) := ordT_mem.mpr List.mem_cons_self
          rw [z] at y
          cases y
      have := ordT_len ws
      omega
end
end B17

/-! the rules of books, together; what a book tells -/
namespace B17
open PySem PySem.Spec PyProof.Rows L2 XSt NX XB
open PySem.W (Frag)
structure BookRules (P : Program) (w : World) (K : Frag) (mg : Str → Option Value) (base : Heap) (C : Addr) : Prop where
  B : BookK K C
  gB : mg "Book" = some (.ref C)
  lt : ∃ p g fd, PropOf K C "letters" p g ∧ FnOk P w K mg base CX0 1 g fd ["self"] (spLetters C) ∧ Binds K fd ["self"] []
  wd : ∃ p g fd, PropOf K C "words" p g ∧ FnOk P w K mg base CX0 1 g fd ["self"] (spWords C) ∧ Binds K fd ["self"] []
  lo : ∃ p g fd, PropOf K C "longest" p g ∧ FnOk P w K mg base CX0 1 g fd ["self"] (spLongest C) ∧ Binds K fd ["self"] []
  len : ∃ g fd, Own K C "__len__" g ∧ FnOk P w K mg base CX0 1 g fd ["self"] (spLen C) ∧ Binds K fd ["self"] []
  has : ∃ g fd, Own K C "__contains__" g ∧ FnOk P w K mg base CX0 1 g fd ["self", "value"] (spHas K C) ∧ Binds K fd ["self", "value"] []
  at_ : ∃ g fd, Own K C "__getitem__" g ∧ PySem.W.fnIn K g = true ∧ FnOk P w K mg base CX0 3 g fd ["self", "index"] (spAt C) ∧ Binds K fd ["self", "index"] []
  eq : ∃ g fd, Own K C "__eq__" g ∧ FnOk P w K mg base CX0 1 g fd ["self", "other"] (spEq K C) ∧ Binds K fd ["self", "other"] []
  ne : PySem.W.findIn K (.ref C) "__ne__" = some (some (.builtin "object.__ne__")) ∧ PySem.W.subIn K (.ref C) (.type "object") = some true
  str : ∃ g fd, Own K C "__str__" g ∧ FnOk P w K mg base CX0 1 g fd ["self"] (spStr C) ∧ Binds K fd ["self"] []
  make : ∃ g fd, Mk K C g ∧ FnOk P w K mg base CX0 6 g fd ["self", "letters", "words"] (spInit K C) ∧ Binds K fd ["self", "letters", "words"] []
theorem raw0 {P : Program} {w : World} {K : Frag} {mg : Str → Option Value} {base : Heap} {k : Nat} {f : Addr} {fd : FuncData} {ps : List Str} {sp : Sp} (F : FnOk P w K mg base CX0 k f fd ps sp) (hb : Binds K fd ps []) : FnR P w K mg base CX0 k f sp :=
  (F.raw hb .nil).imp fun vs H Q E h => by rw [List.append_nil]; exact h
theorem empty_app (a : Str) : Str.empty ++ a = a := by
  apply cs_inj
  rw [cs_app]
  rfl
theorem told_eq (n : Nat) (x : Str) : told n x = Str.ofString "book of " ++ numS n ++ Str.ofString " words over " ++ x := by
  unfold told
  rw [empty_app]
theorem last_max {ws : List Str} {m : Int} (ord : ordT ws = ws) (h : m ∈ ws.map (fun k : Str => (k.length : Int)) ++ [0]) (top_ : ∀ y ∈ ws.map (fun k : Str => (k.length : Int)) ++ [0], y ≤ m) : m = (lastLen ws : Nat) := by
  cases g : ws.getLast? with
  | none =>
    have e : ws = [] := List.getLast?_eq_none_iff.mp g
    subst e
    simpa [lastLen] using h
  | some k =>
    have e : lastLen ws = k.length := by
      unfold lastLen
      rw [g]
      rfl
    have mk : k ∈ ws := List.mem_of_getLast? g
    have le : ∀ a ∈ ws, a.length ≤ k.length := by
      have srt : ws.Pairwise (fun a b => XSt.tLe a b = true) := by
        rw [← ord]
        exact List.pairwise_mergeSort tLe_ord.tr tLe_ord.tot _
      obtain ⟨l, rfl⟩ := List.getLast?_eq_some_iff.mp g
      intro a ma
      rcases List.mem_append.mp ma with ma | ma
      · have z := (List.pairwise_append.mp srt).2.2 a ma k (List.mem_singleton_self _)
        have z2 := pLe_iff.mp (show pLe (lenOf a) (lenOf k) = true from z)
        simp only [lenOf] at z2
        rcases z2 with z2 | ⟨z2, _⟩ <;> omega
      · rw [List.mem_singleton.mp ma]
        exact Nat.le_refl _
    have k1 : (k.length : Int) ≤ m := top_ _ (List.mem_append_left _ (List.mem_map.mpr ⟨k, mk, rfl⟩))
    rw [e]
    rcases List.mem_append.mp h with h | h
    · obtain ⟨a, ma, rfl⟩ := List.mem_map.mp h
      have := le a ma
      omega
    · have := List.mem_singleton.mp h
      omega
theorem three_shaped {x : Str} {ws : List Str} {n : Int} (hx : PyData.strOk x = true) (h : ∀ k ∈ ws, PyData.strOk k = true) : SeqAt.shaped (.list [.str x, .tuple (ws.map PyData.str), .int n]) = true := by
  unfold SeqAt.shaped
  rw [Bool.and_eq_true, decide_eq_true_eq]
  refine ⟨?_, ?_⟩
  · simp [PyData.canLay0, PyData.canLayAll0, hx, txt_can ws h]
  · simp [PyData.depth, PyData.depthAll, txt_depth]
theorem shaped_refl {d : PyData} (h : SeqAt.shaped d = true) : PyData.eqv d d = true := by
  unfold SeqAt.shaped at h
  rw [Bool.and_eq_true] at h
  exact SeqAt.eqv_refl d h.1
def spIsTold (K : Frag) (C : Addr) : Sp := fun vs H Q _ => ∃ (b p : Addr) (x : Str) (ws : List Str), vs = [.ref b, .str x, .ref p] ∧ BookAt H b C x ws ∧ SqT K H p (ws.map V.str) ∧ ws.length ≤ 400 ∧ ordT ws = ws ∧ x.length ≤ 8000 ∧ PyData.strOk x = true ∧ (∀ k ∈ ws, k.length ≤ 400 ∧ PyData.strOk k = true) ∧ ∀ H', Ext H H' → Q (.bl true) H'
def rOkI : R2 := fun x y H Q => ∃ i j : Int, x = .int i ∧ y = .int j ∧ Q (.int (i + j)) H
section
variable {P : Program} {w : World} {K : Frag} {mg : Str → Option Value} {base : Heap} {f C : Addr} {fd : FuncData}
end
end B17

/-! a def whose code object is known; one that is called where no repr is under way -/
namespace B17
open PySem PySem.Spec PyProof.Rows L2 XSt NX XB LamX XE
open PySem.W (Frag)
/-- the code object of the def at f -/
def CodeAt (K : Frag) (f c : Addr) : Prop := ∀ oc od fd osl, K.lookup f = some ⟨oc, od, .func fd, osl⟩ → fd.code = .ref c
/-- a def whose code object is known -/
theorem okC {P : Program} {w : World} {K : Frag} {mg : Str → Option Value} {base : Heap} {x qual : Str} {params : Arguments} {body : List Stmt} {scope : Scope} {dvs : List V} {kws : List (Str × V)} {f c : Addr} {fd : FuncData}
    {CX : CXT} {N ps : List Str} {k : Nat} {sp : Sp} (F : FunD K x qual params body scope dvs kws f fd) (C : CodeAt K f c) (S : FnScope N ps scope) (len : ∀ vs H Q E, sp vs H Q E → vs.length = ps.length)
    (hbody : ∀ (A : Around) (outer : List Env) (s : Shared) (H : Hp) (vs : List V) (Q : VK) (E : XK), Room k (A.deeper (envOfC qual scope s.heap.objs.size f (.ref c))) → sp vs H Q E →
      ∃ t, PSs (cxOf CX P w K mg base N qual scope f (.ref c) A outer s H E) body t ∧ t { nx := fun _ H' => Q .non H', rt := Q } (L2.start N vs) H) : FnOk P w K mg base CX (k + 1) f fd ps sp := by
  obtain ⟨oc, od, dV, kV, doc, pm, an, cdv, ct, osl, rfl, lk, hcd, _, _⟩ := F.ex
  have e : cdv = .ref c := C _ _ _ _ lk
  subst e
  exact ⟨len, fun A outer s H args us vs Q E hr e0 hb r hsp => run_ofS lk hcd S hr e0 hb r (len _ _ _ _ hsp) fun room => hbody A outer s H vs Q E room hsp⟩
/-- a statement that promises less -/
theorem ps_imp {X : Cx} {st : Stmt} {t t' : TS} (h : PS X st t) (i : ∀ D σ H, t' D σ H → t D σ H) : PS X st t' := ⟨fun pins s σ H D I z => h.run pins s σ H D I (i D σ H z)⟩
/-- as okC, where no repr is under way -/
theorem okG {P : Program} {w : World} {K : Frag} {mg : Str → Option Value} {base : Heap} {x qual : Str} {params : Arguments} {body : List Stmt} {scope : Scope} {dvs : List V} {kws : List (Str × V)} {f c : Addr} {fd : FuncData}
    {CX : CXT} {N ps : List Str} {k : Nat} {sp : Sp} (F : FunD K x qual params body scope dvs kws f fd) (C : CodeAt K f c) (S : FnScope N ps scope) (len : ∀ vs H Q E, sp vs H Q E → vs.length = ps.length)
    (hbody : ∀ (A : Around) (outer : List Env) (s : Shared) (H : Hp) (vs : List V) (Q : VK) (E : XK), (A.deeper (envOfC qual scope s.heap.objs.size f (.ref c))).guards = some [] → Room k (A.deeper (envOfC qual scope s.heap.objs.size f (.ref c))) → sp vs H Q E →
      ∃ t, PSs (cxOf CX P w K mg base N qual scope f (.ref c) A outer s H E) body t ∧ t { nx := fun _ H' => Q .non H', rt := Q } (L2.start N vs) H) : FnG P w K mg base CX (k + 1) f fd ps sp := by
  obtain ⟨oc, od, dV, kV, doc, pm, an, cdv, ct, osl, rfl, lk, hcd, _, _⟩ := F.ex
  have e : cdv = .ref c := C _ _ _ _ lk
  subst e
  exact ⟨len, fun A outer s H args us vs Q E hg hr e0 hb r hsp => run_ofS lk hcd S hr e0 hb r (len _ _ _ _ hsp) fun room => hbody A outer s H vs Q E (guards_deeper hg) room hsp⟩
theorem bRepr : bootBuiltins "repr" = some (.builtin "repr") := by decide +kernel
/-- a def by its name, its promise -/
structure Def (P : Program) (w : World) (K : Frag) (mg : Str → Option Value) (base : Heap) (CX : CXT) (k : Nat) (x : Str) (ps : List Str) (sp : Sp) : Prop where
  ex : ∃ (f : Addr) (fd : FuncData), FnOk P w K mg base CX k f fd ps sp ∧ mg x = some (.ref f) ∧ PySem.W.keepIn K (.ref f) = true ∧ Binds K fd ps []
/-- .. of one that is called where no repr is under way -/
structure DefG (P : Program) (w : World) (K : Frag) (mg : Str → Option Value) (base : Heap) (CX : CXT) (k : Nat) (x : Str) (ps : List Str) (sp : Sp) : Prop where
  ex : ∃ (f : Addr) (fd : FuncData), FnG P w K mg base CX k f fd ps sp ∧ mg x = some (.ref f) ∧ PySem.W.keepIn K (.ref f) = true ∧ Binds K fd ps []
theorem pe_callG0 {X : Cx} {CX : CXT} {k : Nat} {f : Addr} {fd : FuncData} {sp : Sp} {E : XK} {x : Str} {p pos : Pos} (F : FnG X.prog X.w X.K X.mg X.base CX k f fd [] sp) (hg0 : X.A.guards = some []) (hr : Room k X.A) (hg : Gl X x) (hm : X.mg x = some (.ref f)) (hk : PySem.W.keepIn X.K (.ref f) = true) (hb : Binds X.K fd [] []) (hx : Passes CX X E)
    (hdb : (x == ("__debug__" : Str)) = false := by decide) : PE X (.Call (.Name x p) [] [] pos) (tCall sp [] E tNil) := by
  refine ⟨fun pins s σ H Q I h => ?_⟩
  refine wpAny_Call_Name_kw (ld_glob I hg hm ?_ hdb)
  exact PySem.W.callWith_K0 I.kIn hk (run_guarded (us := []) F hg0 hr hb hx I .nil h)
theorem tyx_n {K : Frag} {H H' : Hp} (k : ExtN H H') {v : V} {t : Value} (h : TyX K H v t) : TyX K H' v t := by
  cases h with
  | base b =>
    refine .base ?_
    cases b with
    | non => exact .non
    | bl x => exact .bl x
    | int x => exact .int x
    | str x => exact .str x
    | flt x => exact .flt x
    | lst e => exact .lst (k _ _ e fun ps z => by cases z)
    | frz e => exact .frz (k _ _ e fun ps z => by cases z)
    | tup e => exact .tup (k _ _ e fun ps z => by cases z)
    | dK e => exact .dK (k _ _ e fun ps z => by cases z)
    | dT e => exact .dT (k _ _ e fun ps z => by cases z)
    | ins e a b c d g => exact .ins (k _ _ e fun ps z => by cases z) a b c d g
  | byt b => exact .byt b
  | set e => exact .set (k _ _ e fun ps z => by cases z)
  | kList a b => exact .kList a b
  | kTuple a b => exact .kTuple a b
  | kDict a b => exact .kDict a b
  | fTuple e => exact .fTuple (k _ _ e fun ps z => by cases z)
  | fDict e => exact .fDict (k _ _ e fun ps z => by cases z)
theorem asked_n {K : Frag} {H H' : Hp} (k : ExtN H H') {v : V} (h : Asked K H v) : Asked K H' v := by
  cases v with
  | ref a =>
    obtain ⟨b, t, h1, h2⟩ := h
    exact ⟨b, t, tyx_n k h1, h2⟩
  | _ => exact h
theorem sqL_n {K : Frag} {H H' : Hp} (e : ExtN H H') {a : Addr} {xs : List V} (h : SqL K H a xs) : SqL K H' a xs := by
  rcases h with (h | ⟨o, h⟩) | h
  · exact .inl (.inl (e _ _ h fun ps z => by cases z))
  · exact .inl (.inr ⟨o, e _ _ h fun ps z => by cases z⟩)
  · exact .inr h
theorem ext_n {H H' H2 : Hp} (a : ExtN H H') (b : Ext H' H2) : ExtN H H2 := fun c o e n => b c o (a c o e n)
theorem eqvA_self : ∀ l : List Str, PyData.eqvAll (l.map PyData.str) (l.map PyData.str) = true
  | [] => by simp [PyData.eqvAll]
  | x :: l => by
    rw [List.map_cons, PyData.eqvAll, eqvA_self l]
    simp [PyData.eqv]
theorem eqvT_self (l : List Str) : PyData.eqv (.tuple (l.map PyData.str)) (.tuple (l.map PyData.str)) = true := by
  rw [PyData.eqv]
  exact eqvA_self l
theorem eqvL_self (l : List Str) : PyData.eqv (.list (l.map PyData.str)) (.list (l.map PyData.str)) = true := by
  rw [PyData.eqv]
  exact eqvA_self l
end B17

/-! what letters are, read from the judge's answer -/
namespace XSt
open PySem PySem.Spec PyProof.Rows L2 NX
theorem flat_lt : ∀ {L : List Str}, (∀ y ∈ L, ∃ d, y = (⟨#[d]⟩ : Str)) → L.Pairwise (fun a b => cs a < cs b) → ((L.map fun y => y.cps.toList).flatten).Pairwise (· < ·)
  | [], _, _ => List.Pairwise.nil
  | y :: L, h, p => by
    obtain ⟨p1, p2⟩ := List.pairwise_cons.mp p
    obtain ⟨d, rfl⟩ := h y List.mem_cons_self
    have ih := flat_lt (fun z m => h z (List.mem_cons_of_mem _ m)) p2
    rw [List.map_cons, List.flatten_cons]
    show (d :: ((L.map fun y => y.cps.toList).flatten)).Pairwise (· < ·)
    refine List.pairwise_cons.mpr ⟨fun c mc => ?_, ih⟩
    obtain ⟨l, ml, mc⟩ := List.mem_flatten.mp mc
    obtain ⟨z, mz, rfl⟩ := List.mem_map.mp ml
    obtain ⟨e, rfl⟩ := h z (List.mem_cons_of_mem _ mz)
    have lt : ([d] : List Nat) < [e] := p1 _ mz
    obtain rfl : c = e := List.mem_singleton.mp mc
    rcases List.cons_lt_cons_iff.mp lt with q | ⟨_, q⟩
    · exact q
    · exact absurd q (List.not_lt_nil _)
theorem letters_fields {x : Str} (h : lettersV (.str x) = true) : (1 ≤ x.length ∧ x.length ≤ 3) ∧ x = Txt.join ⟨#[]⟩ ((once (signs x)).mergeSort sLe) ∧ 97 ≤ x.cps.toList.headD 0 ∧ x.cps.toList.getLastD 0 ≤ 122 := by
  have w : (decide (1 ≤ x.length ∧ x.length ≤ 3) && (decide (x = Txt.join ⟨#[]⟩ ((once (signs x)).mergeSort sLe)) && (decide (97 ≤ x.cps.toList.headD 0) && decide (x.cps.toList.getLastD 0 ≤ 122)))) = true := h
  rw [Bool.and_eq_true, Bool.and_eq_true, Bool.and_eq_true, decide_eq_true_eq, decide_eq_true_eq, decide_eq_true_eq, decide_eq_true_eq] at w
  exact w
theorem letters_strict {x : Str} (h : lettersV (.str x) = true) : Asc x := by
  have e := (letters_fields h).2.1
  have q := joined_list ((once (signs x)).mergeSort sLe)
  rw [← e] at q
  unfold Asc cs
  rw [q]
  have nd : ((once (signs x)).mergeSort sLe).Nodup := (List.mergeSort_perm _ _).nodup_iff.mpr (nodup_once _)
  have pw := List.pairwise_mergeSort sLe_ord.tr sLe_ord.tot (once (signs x))
  refine flat_lt (fun y m => ?_) ?_
  · obtain ⟨d, _, rfl⟩ := List.mem_map.mp (mem_once.mp ((List.mergeSort_perm _ _).mem_iff.mp m))
    exact ⟨d, rfl⟩
  · refine (pw.and nd).imp fun {a b} z => ?_
    have le : cs a ≤ cs b := of_decide_eq_true z.1
    rcases List.le_iff_lt_or_eq.mp le with l | l
    · exact l
    · exact absurd (cs_inj l) z.2
theorem no_asc {x : Str} (h : ¬ Asc x) : lettersV (.str x) = false := by
  cases e : lettersV (.str x) with
  | false => rfl
  | true => exact absurd (letters_strict e) h
theorem no_size {x : Str} (h : ¬ (1 ≤ x.length ∧ x.length ≤ 3)) : lettersV (.str x) = false := by
  cases e : lettersV (.str x) with
  | false => rfl
  | true => exact absurd (letters_fields e).1 h
theorem no_low {x : Str} (h : ¬ 97 ≤ x.cps.toList.headD 0) : lettersV (.str x) = false := by
  cases e : lettersV (.str x) with
  | false => rfl
  | true => exact absurd (letters_fields e).2.2.1 h
theorem no_high {x : Str} (h : ¬ x.cps.toList.getLastD 0 ≤ 122) : lettersV (.str x) = false := by
  cases e : lettersV (.str x) with
  | false => rfl
  | true => exact absurd (letters_fields e).2.2.2 h
/-- written texts that are no letters -/
def noLetters : List Str := [Str.ofString "", Str.ofString "ba", Str.ofString "aa", Str.ofString "A", Str.ofString "abcd", Str.ofString "a b"]
theorem none_letters : ∀ x ∈ noLetters, lettersV (.str x) = false := by
  intro x m
  simp only [noLetters, List.mem_cons, List.not_mem_nil, or_false] at m
  rcases m with rfl | rfl | rfl | rfl | rfl | rfl
  · exact no_size (by decide +kernel)
  · exact no_asc (by unfold Asc; decide +kernel)
  · exact no_asc (by unfold Asc; decide +kernel)
  · exact no_low (by decide +kernel)
  · exact no_size (by decide +kernel)
  · exact no_asc (by unfold Asc; decide +kernel)
end XSt

/-! a text taken so often -/
namespace NX
open PySem PySem.Spec PyProof.Rows L2
def rMulS : R2 := fun x y H Q => ∃ (z : Str) (n : Nat), x = .str z ∧ y = .int (n : Int) ∧ z.length * n ≤ 16777216 ∧ z.length ≤ 16777216 ∧ n ≤ 16777216 ∧ Q (.str (Txt.mul z (n : Int))) H
theorem op_mulS {X : Cx} : OpR X (binaryOp .Mult) rMulS := by
  intro pins s σ H x y v u Q I rx ry h
  obtain ⟨z, n, rfl, rfl, h1, h0, h2, q⟩ := h
  obtain ⟨t, rfl⟩ := rx
  obtain ⟨t2, rfl⟩ := ry
  have hs : sizeLine = 16777216 := sizeLine_eq
  refine PySem.SB.mul ⟨?_, fun n1 _ => ?_, fun _ _ => ?_⟩ (fun t' k => ⟨.str _, H, I.tok k, ⟨t', rfl⟩, q⟩)
  · rw [Bool.or_eq_false_iff, decide_eq_false_iff_not, decide_eq_false_iff_not]
    omega
  · have np : (0 : Int) < (n : Int) := by omega
    have big : (16777216 : Int) ≤ (2 ^ 63 - 1) / (n : Int) := by
      rw [Int.le_ediv_iff_mul_le np]
      have z2 : (16777216 : Int) * (n : Int) ≤ 16777216 * 16777216 := Int.mul_le_mul_of_nonneg_left (by omega) (by decide)
      omega
    omega
  · have e : ((n : Int)).toNat = n := by omega
    rw [e]
    unfold Builtin.Str.tooLong
    rw [decide_eq_false_iff_not, hs]
    omega
theorem fold_rep (c : Nat) : ∀ (k : Nat) (acc : Array Nat), ((List.replicate k #[c]).foldl (· ++ ·) acc).toList = acc.toList ++ List.replicate k c
  | 0, acc => by simp
  | k + 1, acc => by
    rw [List.replicate_succ, List.foldl_cons, fold_rep c k, Array.toList_append, List.append_assoc]
    rfl
theorem mul_sign (c n : Nat) (h : 2 ≤ n) : (Txt.mul ⟨#[c]⟩ (n : Int)).cps.toList = List.replicate n c := by
  unfold Txt.mul
  have e1 : ¬ (n : Int) < 1 := by omega
  have e2 : ((n : Int) == 1 || (⟨#[c]⟩ : Str).length == 0) = false := by
    rw [Bool.or_eq_false_iff]
    refine ⟨?_, rfl⟩
    rw [beq_eq_false_iff_ne]
    omega
  rw [if_neg e1, e2, if_neg (by decide)]
  have e3 : ((n : Int)).toNat = n := by omega
  rw [e3, fold_rep]
  rfl
theorem mul_len (c n : Nat) (h : 2 ≤ n) : (Txt.mul ⟨#[c]⟩ (n : Int)).length = n := by
  have e := congrArg List.length (mul_sign c n h)
  rw [List.length_replicate, Array.length_toList] at e
  exact e
end NX

/-! values of other kinds, and what stays true of them -/
namespace B17
open PySem PySem.Spec PyProof.Rows L2 XSt NX XB XE LamX
open PySem.W (Frag)
/-- what is true of a value as long as the object that it is stands -/
def Kept (H : Hp) (v : V) (R : Hp → Prop) : Prop := ∃ o : HO, (∀ ps, o ≠ .tbl ps) ∧ (∀ a b c : Int, o ≠ .lst [.int a, .int b, .int c]) ∧ (∀ a, v = .ref a → H a = some o) ∧ ∀ H', (∀ a, v = .ref a → H' a = some o) → R H'
section
variable {K : Frag} {H H1 : Hp} {v : V} {R : Hp → Prop} {T : List (Addr × Str)} {j a : Addr} {o : HO}
theorem Kept.now (h : Kept H v R) : R H := by
  obtain ⟨o, _, _, e, q⟩ := h
  exact q H e
theorem Kept.go (h : Kept H v R) (hj : JugAt H j) (g : Go T j H H1) : Kept H1 v R := by
  obtain ⟨o, n1, n2, e, q⟩ := h
  exact ⟨o, n1, n2, fun a z => g.keep a o (not_j hj (e a z) n2) n1 (e a z), q⟩
theorem Kept.n (h : Kept H v R) (k : ExtN H H1) : Kept H1 v R := by
  obtain ⟨o, n1, n2, e, q⟩ := h
  exact ⟨o, n1, n2, fun a z => k a o (e a z) n1, q⟩
theorem Kept.e (h : Kept H v R) (k : Ext H H1) : Kept H1 v R := h.n (fun b o e _ => k b o e)
theorem Kept.flat (hv : ∀ a, v ≠ .ref a) (q : ∀ H', R H') : Kept H v R := ⟨.tup [], fun _ z => (by cases z), fun _ _ _ z => (by cases z), fun a z => absurd z (hv a), fun H' _ => q H'⟩
theorem Kept.tup {xs : List V} (e : H a = some (.tup xs)) (q : ∀ H', H' a = some (.tup xs) → R H') : Kept H (.ref a) R := ⟨.tup xs, fun _ z => (by cases z), fun _ _ _ z => (by cases z), fun b z => (by cases z; exact e), fun H' k => q H' (k a rfl)⟩
theorem Kept.nil (e : H a = some (.lst [])) (q : ∀ H', H' a = some (.lst []) → R H') : Kept H (.ref a) R := ⟨.lst [], fun _ z => (by cases z), fun _ _ _ z => (by cases z), fun b z => (by cases z; exact e), fun H' k => q H' (k a rfl)⟩
theorem Kept.dict (e : H a = some (.dK [])) (q : ∀ H', H' a = some (.dK []) → R H') : Kept H (.ref a) R := ⟨.dK [], fun _ z => (by cases z), fun _ _ _ z => (by cases z), fun b z => (by cases z; exact e), fun H' k => q H' (k a rfl)⟩
theorem Kept.mono {R' : Hp → Prop} (h : Kept H v R) (q : ∀ H, R H → R' H) : Kept H v R' := by
  obtain ⟨o, n1, n2, e, q'⟩ := h
  exact ⟨o, n1, n2, e, fun H' k => q _ (q' H' k)⟩
theorem asked_tup {xs : List V} (e : H a = some (.tup xs)) : Asked K H (.ref a) := ⟨true, _, .base (.tup e), rfl, rfl, rfl, rfl⟩
theorem asked_lst {xs : List V} (e : H a = some (.lst xs)) : Asked K H (.ref a) := ⟨false, _, .base (.lst e), rfl, rfl, rfl, rfl⟩
theorem asked_dict {xs : List (L2.Key × V)} (e : H a = some (.dK xs)) : Asked K H (.ref a) := ⟨false, _, .base (.dK e), rfl, rfl, rfl, rfl⟩
def nul : Str := Str.ofString ""
theorem shows_dp {d : PyData} (h : Dp K H v d) (h1 : d.showable = true) (h2 : Nat.ble d.depth 60 = true) (h3 : Nat.ble d.shown.length 100000 = true) : ShowsV K H v d.shown := ⟨d, .dat h, h1, Nat.le_of_ble_eq_true h2, Nat.le_of_ble_eq_true h3, rfl⟩
/-- a drawn one of some items, with all that stood -/
theorem pick_go {B : Hp} {po : Addr} {xs : List V} {Q : VK} {E : XK} (hj : JugAt B j) (t : Tabs T B) (hpo : B po = none) (ne : xs ≠ []) (few : xs.length ≤ 1000) (q : ∀ y B2, y ∈ xs → Go T j B B2 → Q y B2) : spPickS K [.ref j, .ref po] (upd B po (.lst xs)) Q E := by
  have x : Ext B (upd B po (.lst xs)) := (Ext.refl B).new hpo
  have g := (Go.refl hj t).e x
  exact ⟨j, .ref po, rfl, g.jug, .inl ⟨po, xs, rfl, SqL.of upd_same, jug_none hj hpo, ne, few, fun y B2 m k => q y B2 m (g.k k)⟩⟩
/-- what is known of a number that is refused -/
def NumBad (K : Frag) (H : Hp) (lo hi : Int) (v : V) : Prop := numV lo hi v = false ∧ ∃ s, PyData.strOk (Str.ofString "number " ++ s) = true ∧ Kept H v fun H' => Asked K H' v ∧ ShowsV K H' v s
theorem numBad_dat {lo hi : Int} (d : PyData) (hb : numV lo hi v = false) (hv : ∀ a, v ≠ .ref a) (ask : ∀ H', Asked K H' v) (dp : ∀ H', Dp K H' v d) (h0 : PyData.strOk (Str.ofString "number " ++ d.shown) = true) (h1 : d.showable = true) (h2 : Nat.ble d.depth 60 = true) (h3 : Nat.ble d.shown.length 100000 = true) : NumBad K H lo hi v :=
  ⟨hb, d.shown, h0, .flat hv fun H' => ⟨ask H', shows_dp (dp H') h1 h2 h3⟩⟩
theorem numBad_int {lo hi i : Int} (hb : i < lo ∨ hi < i) (h0 : PyData.strOk (Str.ofString "number " ++ (PyData.int i).shown) = true) (h1 : (PyData.int i).showable = true) (h3 : Nat.ble (PyData.int i).shown.length 100000 = true) : NumBad K H lo hi (.int i) := by
  refine numBad_dat (.int i) ?_ (fun _ z => (by cases z)) (fun _ => trivial) (fun _ => .int i) h0 h1 (by rfl) h3
  show (longV (.int i) && (decide (lo ≤ i) && decide (i ≤ hi))) = false
  rcases hb with hb | hb
  · rw [decide_eq_false (show ¬ lo ≤ i by omega), Bool.false_and, Bool.and_false]
  · rw [decide_eq_false (show ¬ i ≤ hi by omega), Bool.and_false, Bool.and_false]
theorem numBad_non {lo hi : Int} : NumBad K H lo hi .non := numBad_dat .none rfl (fun _ z => (by cases z)) (fun _ => trivial) (fun _ => .non) (by decide +kernel) (by decide +kernel) (by decide +kernel) (by decide +kernel)
theorem numBad_true {lo hi : Int} : NumBad K H lo hi (.bl true) := numBad_dat (.bool true) rfl (fun _ z => (by cases z)) (fun _ => trivial) (fun _ => .bl true) (by decide +kernel) (by decide +kernel) (by decide +kernel) (by decide +kernel)
theorem numBad_str {lo hi : Int} {z : Str} (ask : Asked K H (.str z)) (h0 : PyData.strOk (Str.ofString "number " ++ (PyData.str z).shown) = true) (h1 : (PyData.str z).showable = true) (h3 : Nat.ble (PyData.str z).shown.length 100000 = true) : NumBad K H lo hi (.str z) := numBad_dat (.str z) rfl (fun _ z => (by cases z)) (fun _ => ask) (fun _ => .str z) h0 h1 (by rfl) h3
theorem numBad_one {lo hi i : Int} (e : H a = some (.tup [.int i])) (h0 : PyData.strOk (Str.ofString "number " ++ (PyData.tuple [.int i]).shown) = true) (h1 : (PyData.tuple [.int i]).showable = true) (h3 : Nat.ble (PyData.tuple [.int i]).shown.length 100000 = true) : NumBad K H lo hi (.ref a) :=
  ⟨rfl, _, h0, .tup e fun H' e' => ⟨asked_tup e', shows_dp (.tup (SqT.of e') (.cons (.int i) .nil)) h1 (by rfl) h3⟩⟩
theorem numBad_nil {lo hi : Int} (e : H a = some (.lst [])) : NumBad K H lo hi (.ref a) :=
  ⟨rfl, (PyData.list []).shown, by decide +kernel, .nil e fun H' e' => ⟨asked_lst e', shows_dp (.lst (SqL.of e') .nil) (by decide +kernel) (by decide +kernel) (by decide +kernel)⟩⟩
theorem NumBad.go {lo hi : Int} (h : NumBad K H lo hi v) (hj : JugAt H j) (g : Go T j H H1) : NumBad K H1 lo hi v := by
  obtain ⟨h1, s, h2, k⟩ := h
  exact ⟨h1, s, h2, k.go hj g⟩
theorem int_len {n : Nat} (h : n ≤ 5) : PyData.strOk (Str.ofString "number " ++ (PyData.int (n : Int)).shown) = true ∧ (PyData.int (n : Int)).showable = true ∧ Nat.ble (PyData.int (n : Int)).shown.length 100000 = true := by
  rcases (by omega : n = 0 ∨ n = 1 ∨ n = 2 ∨ n = 3 ∨ n = 4 ∨ n = 5) with rfl | rfl | rfl | rfl | rfl | rfl <;> decide +kernel
theorem big_int : PyData.strOk (Str.ofString "number " ++ (PyData.int ((10 : Int) ^ (60 : Int).toNat)).shown) = true ∧ (PyData.int ((10 : Int) ^ (60 : Int).toNat)).showable = true ∧ Nat.ble (PyData.int ((10 : Int) ^ (60 : Int).toNat)).shown.length 100000 = true ∧ (400 : Int) < (10 : Int) ^ (60 : Int).toNat := by decide +kernel
theorem spot_bad {H : Hp} {n : Nat} {t1 e1 : Addr} (h : n ≤ 5) (et : H t1 = some (.tup [.int 0])) (ee : H e1 = some (.lst [])) : ∀ v ∈ [V.non, .int (-1), .int (n : Int), .bl true, .str (Str.ofString "0"), .ref t1, .int ((10 : Int) ^ (60 : Int).toNat), .ref e1], NumBad K H 0 ((n : Int) - 1) v := by
  intro v m
  simp only [List.mem_cons, List.not_mem_nil, or_false] at m
  rcases m with rfl | rfl | rfl | rfl | rfl | rfl | rfl | rfl
  · exact numBad_non
  · exact numBad_int (.inl (by decide)) (by decide +kernel) (by decide +kernel) (by decide +kernel)
  · obtain ⟨h0, h1, h3⟩ := int_len h
    exact numBad_int (.inr (by omega)) h0 h1 h3
  · exact numBad_true
  · exact numBad_str ⟨by decide +kernel, by decide +kernel⟩ (by decide +kernel) (by decide +kernel) (by decide +kernel)
  · exact numBad_one et (by decide +kernel) (by decide +kernel) (by decide +kernel)
  · obtain ⟨h0, h1, h3, h4⟩ := big_int
    exact numBad_int (.inr (Int.lt_of_le_of_lt (show (n : Int) - 1 ≤ 400 by omega) h4)) h0 h1 h3
  · exact numBad_nil ee
theorem much_bad {H : Hp} {t1 : Addr} (et : H t1 = some (.tup [.int 1])) : ∀ v ∈ [V.non, .int 0, .int (-1), .int 401, .bl true, .str (Str.ofString "1"), .ref t1, .int ((10 : Int) ^ (60 : Int).toNat)], NumBad K H 1 400 v := by
  intro v m
  simp only [List.mem_cons, List.not_mem_nil, or_false] at m
  rcases m with rfl | rfl | rfl | rfl | rfl | rfl | rfl | rfl
  · exact numBad_non
  · exact numBad_int (.inl (by decide)) (by decide +kernel) (by decide +kernel) (by decide +kernel)
  · exact numBad_int (.inl (by decide)) (by decide +kernel) (by decide +kernel) (by decide +kernel)
  · exact numBad_int (.inr (by decide)) (by decide +kernel) (by decide +kernel) (by decide +kernel)
  · exact numBad_true
  · exact numBad_str ⟨by decide +kernel, by decide +kernel⟩ (by decide +kernel) (by decide +kernel) (by decide +kernel)
  · exact numBad_one et (by decide +kernel) (by decide +kernel) (by decide +kernel)
  · obtain ⟨h0, h1, h3, h4⟩ := big_int
    exact numBad_int (.inr h4) h0 h1 h3
/-- what is known of a value that is no letters, no word, no text -/
def Odd (K : Frag) (H : Hp) (v : V) (b : Prop) : Prop := b ∧ Kept H v fun H' => Asked K H' v
theorem odd_flat {b : Prop} (hb : b) (hv : ∀ a, v ≠ .ref a) (ask : ∀ H', Asked K H' v) : Odd K H v b := ⟨hb, .flat hv ask⟩
theorem odd_str {b : Prop} {z : Str} (hb : b) (h1 : z.length ≤ 8000) (h2 : PyData.strOk z = true) : Odd K H (.str z) b := odd_flat hb (fun _ z => (by cases z)) fun _ => ⟨h1, h2⟩
theorem odd_tup {b : Prop} {xs : List V} (hb : b) (e : H a = some (.tup xs)) : Odd K H (.ref a) b := ⟨hb, .tup e fun H' e' => asked_tup e'⟩
theorem odd_dict {b : Prop} (hb : b) (e : H a = some (.dK [])) : Odd K H (.ref a) b := ⟨hb, .dict e fun H' e' => asked_dict e'⟩
theorem Odd.go {b : Prop} (h : Odd K H v b) (hj : JugAt H j) (g : Go T j H H1) : Odd K H1 v b := ⟨h.1, h.2.go hj g⟩
theorem odd_letters {H : Hp} {t1 : Addr} (et : H t1 = some (.tup [.str (Str.ofString "a")])) : ∀ v ∈ [V.non, .int 0, .str (Str.ofString ""), .str (Str.ofString "ba"), .str (Str.ofString "aa"), .str (Str.ofString "A"), .ref t1, .str (Str.ofString "abcd"), .bl true], Odd K H v (lettersV v = false) := by
  intro v m
  simp only [List.mem_cons, List.not_mem_nil, or_false] at m
  rcases m with rfl | rfl | rfl | rfl | rfl | rfl | rfl | rfl | rfl
  · exact odd_flat rfl (fun _ z => (by cases z)) fun _ => trivial
  · exact odd_flat rfl (fun _ z => (by cases z)) fun _ => trivial
  · exact odd_str (none_letters _ (by decide +kernel)) (by decide +kernel) (by decide +kernel)
  · exact odd_str (none_letters _ (by decide +kernel)) (by decide +kernel) (by decide +kernel)
  · exact odd_str (none_letters _ (by decide +kernel)) (by decide +kernel) (by decide +kernel)
  · exact odd_str (none_letters _ (by decide +kernel)) (by decide +kernel) (by decide +kernel)
  · exact odd_tup rfl et
  · exact odd_str (none_letters _ (by decide +kernel)) (by decide +kernel) (by decide +kernel)
  · exact odd_flat rfl (fun _ z => (by cases z)) fun _ => trivial
/-- a sign that is no letter -/
theorem stray_word {x y : Str} {n c : Nat} (hx : Abc x) (m : c ∈ cs y) (hc : ¬ (97 ≤ c ∧ c ≤ 122)) : wordV x n (.str y) = false ∧ textV x n (.str y) = false := by
  have e : decide (Txt.stripChars y x = ⟨#[]⟩) = false := by
    rw [strip_in, List.all_eq_false]
    exact ⟨c, m, by rw [decide_eq_true_eq]; exact fun z => hc (hx.small c z)⟩
  exact ⟨by show (decide (Txt.stripChars y x = ⟨#[]⟩) && _) = false; rw [e]; rfl, by show (decide (Txt.stripChars y x = ⟨#[]⟩) && _) = false; rw [e]; rfl⟩
theorem quest {x : Str} (hx : Abc x) : (63 ∈ cs (x ++ Str.ofString "?")) ∧ (x ++ Str.ofString "?").length ≤ 4 ∧ PyData.strOk (x ++ Str.ofString "?") = true := by
  have l1 : (Str.ofString "?").length = 1 := by decide +kernel
  have y : cs (Str.ofString "?") = [63] := by decide +kernel
  refine ⟨by rw [cs_app, y]; exact List.mem_append_right _ (List.mem_singleton_self _), by rw [app_len, l1]; have := hx.few; omega, ?_⟩
  unfold PyData.strOk
  rw [Array.all_eq_true']
  intro c m
  have m2 : c ∈ cs (x ++ Str.ofString "?") := Array.mem_toList_iff.mpr m
  rw [cs_app] at m2
  rcases List.mem_append.mp m2 with m2 | m2
  · have z := hx.small c m2
    exact decide_eq_true (by omega)
  · rw [y] at m2
    obtain rfl := List.mem_singleton.mp m2
    decide
theorem odd_line {H : Hp} {x : Str} {t1 d1 : Addr} (hx : Abc x) (et : H t1 = some (.tup [.str (Str.ofString "a")])) (ed : H d1 = some (.dK [])) : ∀ v ∈ [V.non, .int 0, .str (x ++ Str.ofString "?"), .ref t1, .str (Str.ofString "A"), .bl true, .ref d1], Odd K H v (textV x 4000 v = false) := by
  intro v m
  simp only [List.mem_cons, List.not_mem_nil, or_false] at m
  obtain ⟨q1, q2, q3⟩ := quest hx
  rcases m with rfl | rfl | rfl | rfl | rfl | rfl | rfl
  · exact odd_flat rfl (fun _ z => (by cases z)) fun _ => trivial
  · exact odd_flat rfl (fun _ z => (by cases z)) fun _ => trivial
  · exact odd_str (stray_word hx q1 (by omega)).2 (by omega) q3
  · exact odd_tup rfl et
  · exact odd_str (stray_word (c := 65) hx (by decide +kernel) (by omega)).2 (by decide +kernel) (by decide +kernel)
  · exact odd_flat rfl (fun _ z => (by cases z)) fun _ => trivial
  · exact odd_dict rfl ed
theorem long_word {x y : Str} (h : y.length = 0 ∨ 400 < y.length) : wordV x 400 (.str y) = false := by
  show (decide (Txt.stripChars y x = ⟨#[]⟩) && (decide (1 ≤ y.length) && decide (y.length ≤ 400))) = false
  rcases h with h | h
  · rw [decide_eq_false (show ¬ 1 ≤ y.length by omega), Bool.false_and, Bool.and_false]
  · rw [decide_eq_false (show ¬ y.length ≤ 400 by omega), Bool.and_false, Bool.and_false]
theorem odd_word {H : Hp} {x : Str} {c0 : Nat} {t1 d1 : Addr} (hx : Abc x) (m0 : c0 ∈ cs x) (et : H t1 = some (.tup [.str (Str.ofString "a")])) (ed : H d1 = some (.dK [])) : ∀ v ∈ [V.non, .int 0, .str (Str.ofString ""), .str (x ++ Str.ofString "?"), .ref t1, .str (Str.ofString "A"), .bl true, .ref d1, .str (Txt.mul (⟨#[c0]⟩ : Str) (401 : Nat))], Odd K H v (wordV x 400 v = false) := by
  intro v m
  simp only [List.mem_cons, List.not_mem_nil, or_false] at m
  obtain ⟨q1, q2, q3⟩ := quest hx
  rcases m with rfl | rfl | rfl | rfl | rfl | rfl | rfl | rfl | rfl
  · exact odd_flat rfl (fun _ z => (by cases z)) fun _ => trivial
  · exact odd_flat rfl (fun _ z => (by cases z)) fun _ => trivial
  · exact odd_str (long_word (.inl (by decide +kernel))) (by decide +kernel) (by decide +kernel)
  · exact odd_str (stray_word hx q1 (by omega)).1 (by omega) q3
  · exact odd_tup rfl et
  · exact odd_str (stray_word (c := 65) hx (by decide +kernel) (by omega)).1 (by decide +kernel) (by decide +kernel)
  · exact odd_flat rfl (fun _ z => (by cases z)) fun _ => trivial
  · exact odd_dict rfl ed
  · have lm : (Txt.mul (⟨#[c0]⟩ : Str) (401 : Nat)).length = 401 := mul_len c0 401 (by decide)
    have ok : PyData.strOk (Txt.mul (⟨#[c0]⟩ : Str) (401 : Nat)) = true := strOk_of hx.ok fun c mc => by
      have z : c ∈ List.replicate 401 c0 := by
        rw [← mul_sign c0 401 (by decide)]
        exact mc
      rw [List.eq_of_mem_replicate z]
      exact m0
    generalize Txt.mul (⟨#[c0]⟩ : Str) (401 : Nat) = z at lm ok ⊢
    exact odd_str (long_word (.inr (by omega))) (by omega) ok
end
end B17

/-! the methods of books within a lambda; lists of a def's own -/
namespace B17
open PySem PySem.Spec PyProof.Rows L2 XSt NX XB XE LamX
open PySem.W (Frag)
theorem rawX {P : Program} {w : World} {K : Frag} {mg : Str → Option Value} {base : Heap} {CX : CXT} {k : Nat} {f : Addr} {fd : FuncData} {ps : List Str} {sp : Sp} (F : FnOk P w K mg base CX k f fd ps sp) (hb : Binds K fd ps []) : FnR P w K mg base CX k f sp :=
  (F.raw hb .nil).imp fun vs H Q E h => by rw [List.append_nil]; exact h
theorem tabs_put {T : List (Addr × Str)} {H : Hp} {l : Addr} {xs ys : List V} (t : Tabs T H) (e : H l = some (.lst xs)) : Tabs T (upd H l (.lst ys)) := fun p hp => by
  obtain ⟨ps, h1, h2, h3⟩ := t p hp
  have n1 : p.1 ≠ l := fun z => by
    rw [z, e] at h1
    cases h1
  refine ⟨ps, by rw [upd_ne n1]; exact h1, h2, fun pos cv hc => ?_⟩
  obtain ⟨c, e1, e2⟩ := h3 pos cv hc
  refine ⟨c, e1, ?_⟩
  have n2 : c ≠ l := fun z => by
    rw [z, e] at e2
    unfold CodeO at e2
    cases e2
  rw [upd_ne n2]
  exact e2
/-- what stood stands, a list of the def's own grows -/
structure StL (T : List (Addr × Str)) (H : Hp) (l : Addr) (xs : List V) (Hx : Hp) : Prop where
  keep : ExtN H Hx
  tabs : Tabs T Hx
  at_ : Hx l = some (.lst xs)
  out : ∀ b o, H b = some o → (∀ ps, o ≠ .tbl ps) → b ≠ l
theorem StL.n {T : List (Addr × Str)} {H Hx Hy : Hp} {l : Addr} {xs : List V} (s : StL T H l xs Hx) (n : ExtN Hx Hy) (t : Tabs T Hy) : StL T H l xs Hy := ⟨s.keep.trans n, t, n _ _ s.at_ (fun ps z => by cases z), s.out⟩
theorem StL.e {T : List (Addr × Str)} {H Hx Hy : Hp} {l : Addr} {xs : List V} (s : StL T H l xs Hx) (k : Ext Hx Hy) : StL T H l xs Hy := s.n (fun b o e _ => k b o e) (s.tabs.ext k)
theorem StL.put {T : List (Addr × Str)} {H Hx : Hp} {l : Addr} {xs : List V} (s : StL T H l xs Hx) (ys : List V) : StL T H l ys (upd Hx l (.lst ys)) := ⟨fun b o e n => by rw [upd_ne (s.out b o e n)]; exact s.keep b o e n, tabs_put s.tabs s.at_, upd_same, s.out⟩
theorem StL.new {T : List (Addr × Str)} {H Hx : Hp} {l : Addr} (n : ExtN H Hx) (t : Tabs T Hx) (hl : Hx l = none) (ys : List V) : StL T H l ys (upd Hx l (.lst ys)) :=
  ⟨fun b o e nt => by rw [upd_ne (ne_of_none (n b o e nt) hl)]; exact n b o e nt, t.ext ((Ext.refl Hx).new hl), upd_same, fun b o e nt => ne_of_none (n b o e nt) hl⟩
theorem meth_eqG {o : Expr} {m : Str} {es : List Expr} {apos pos : Pos} {env : Env} (hbase : attributeBase o m env (eval o env) = eval o env) (hline : (apos.endLine == pos.line) = true) (hform : methodCallForm (es.length + ([] : List Keyword).length) (backTo pos (starEach es env)) (backToKw pos (keywordEach [] env)) = true) : eval (.Call (.Attribute o m apos) es [] pos) env = (do
      let ov ← eval o env
      standAt apos.atName
      let (f, first) ← holding [ov] (getMethod ov m (do return (← importBound o env).getD true))
      callWith pos f first (backTo pos (starEach es env)) (backToKw pos (keywordEach [] env))) := by
  rw [arm_eval_Call, hbase]
  have hpos : methodCallPos true o env apos pos = pure pos := by
    unfold methodCallPos
    rw [hline]
    rfl
  unfold methodCall
  rw [hform, hpos]
  rfl

/-- name.m(e, ..) -/
theorem pe_mG {X : Cx} {CX : CXT} {E : XK} {C f : Addr} {fd : FuncData} {m x : Str} {e : Expr} {es : List Expr} {k : Nat} {sp : Sp} {ps : List Str} {ta : TE} {t : TA} {p1 apos pos : Pos} (ho : PE X (.Name x p1) ta) (ha : PA X (e :: es) t) (c : Cls X.K C) (hm : Meth X.K C m f)
    (F : FnOk X.prog X.w X.K X.mg X.base CX k f fd ps sp) (hr : Room k X.A) (hb : Binds X.K fd ps []) (hx : Passes CX X E)
    (hst : starEach (e :: es) X.env = (false, eval e X.env) :: starEach es X.env := by rfl) (hpl : (backTo pos (starEach es X.env)).any (·.1) = false := by rfl) (hform : methodCallForm ((e :: es).length + ([] : List Keyword).length) (backTo pos (starEach (e :: es) X.env)) (backToKw pos (keywordEach [] X.env)) = true := by rfl)
    (hbase : attributeBase (.Name x p1) m X.env (eval (.Name x p1) X.env) = eval (.Name x p1) X.env := by rfl) (hline : (apos.endLine == pos.line) = true := by rfl) :
    PE X (.Call (.Attribute (.Name x p1) m apos) (e :: es) [] pos) (tMeth C m sp [] E ta t) :=
  pe_meth ho c hm F hr hb .nil hx ha hst hpl (meth_eqG hbase hline hform)
/-- Name.m(e, ..) of a class -/
theorem pe_cG {X : Cx} {CX : CXT} {E : XK} {C p g : Addr} {mc' : Value} {m x : Str} {e : Expr} {es : List Expr} {k : Nat} {sp : Sp} {ta : TE} {t : TA} {p1 apos pos : Pos} (ho : PE X (.Name x p1) ta) (ha : PA X (e :: es) t) (r : ClX.CRead X.K C mc') (c : ClX.CMet X.K C mc' m p g)
    (F : FnR X.prog X.w X.K X.mg X.base CX k g sp) (hr : Room k X.A) (hx : Passes CX X E)
    (hst : starEach (e :: es) X.env = (false, eval e X.env) :: starEach es X.env := by rfl) (hpl : (backTo pos (starEach es X.env)).any (·.1) = false := by rfl) (hform : methodCallForm ((e :: es).length + ([] : List Keyword).length) (backTo pos (starEach (e :: es) X.env)) (backToKw pos (keywordEach [] X.env)) = true := by rfl)
    (hbase : attributeBase (.Name x p1) m X.env (eval (.Name x p1) X.env) = eval (.Name x p1) X.env := by rfl) (hline : (apos.endLine == pos.line) = true := by rfl) :
    PE X (.Call (.Attribute (.Name x p1) m apos) (e :: es) [] pos) (ClX.tCMeth C sp E ta t) :=
  ClX.pe_cmeth ho r c F hr hx ha hst hpl (meth_eqG hbase hline hform)
/-- the methods of books, with all that is refused -/
structure BookX (P : Program) (w : World) (K : Frag) (mg : Str → Option Value) (base : Heap) (C : Addr) (cl : Nat → Addr) : Prop where
  B : BookK K C
  gB : mg "Book" = some (.ref C)
  make : ∃ g fd, Mk K C g ∧ FnOk P w K mg base (L2.CX P w) 6 g fd ["self", "letters", "words"] (spInitY K C (cl 0) (cl 2) (cl 5) (cl 8) (cl 9)) ∧ Binds K fd ["self", "letters", "words"] []
  uni : ∃ p g fd, ClX.CMet K C (.type "type") "uniform" p g ∧ ClX.CRead K C (.type "type") ∧ FnOk P w K mg base (L2.CX P w) 8 g fd ["cls", "letters", "size"] (spUniformX K C (cl 0) (cl 6) (cl 9)) ∧ Binds K fd ["cls", "letters", "size"] []
  ix : ∃ g fd, Own K C "__getitem__" g ∧ PySem.W.fnIn K g = true ∧ FnOk P w K mg base (L2.CX P w) 4 g fd ["self", "index"] (spAtX K C (cl 6)) ∧ Binds K fd ["self", "index"] []
  wi : ∃ g fd, Meth K C "with_word" g ∧ FnOk P w K mg base (L2.CX P w) 8 g fd ["self", "word"] (spWithX K C (cl 2) (cl 5) (cl 8) (cl 9)) ∧ Binds K fd ["self", "word"] []
  wo : ∃ g fd, Meth K C "without_word" g ∧ FnOk P w K mg base (L2.CX P w) 8 g fd ["self", "word"] (spWithoutX K C (cl 2) (cl 5)) ∧ Binds K fd ["self", "word"] []
  lt : ∃ p g fd, PropOf K C "letters" p g ∧ FnOk P w K mg base CX0 1 g fd ["self"] (spLetters C) ∧ Binds K fd ["self"] []
  wd : ∃ p g fd, PropOf K C "words" p g ∧ FnOk P w K mg base CX0 1 g fd ["self"] (spWords C) ∧ Binds K fd ["self"] []
theorem book_n {H H' : Hp} {b C : Addr} {x : Str} {ws : List Str} (h : BookAt H b C x ws) (e : ExtN H H') : BookAt H' b C x ws := by
  obtain ⟨dx, p, d, h1, h2, h3⟩ := h
  exact ⟨dx, p, d, e _ _ h1 (fun ps z => by cases z), e _ _ h2 (fun ps z => by cases z), e _ _ h3 (fun ps z => by cases z)⟩
/-- a number that is refused, told -/
theorem NumBad.told {K : Frag} {H H' : Hp} {lo hi : Int} {v : V} (h : NumBad K H lo hi v) : ∃ s, numV lo hi v = false ∧ PyData.strOk (Str.ofString "number " ++ s) = true ∧ ∀ H', ExtN H H' → Asked K H' v ∧ ShowsV K H' v s := by
  obtain ⟨h1, s, h2, k⟩ := h
  exact ⟨s, h1, h2, fun H' e => (k.n e).now⟩
theorem num_at {ws : List Str} {i : Nat} {k : Str} (few : ws.length ≤ 4096) (h : ws[i]? = some k) : numV 0 ((ws.length : Int) - 1) (.int (i : Int)) = true := by
  have hi := (List.getElem?_eq_some_iff.mp h).1
  show (longV (.int (i : Int)) && (decide ((0 : Int) ≤ (i : Int)) && decide ((i : Int) ≤ (ws.length : Int) - 1))) = true
  rw [long_n (by omega), decide_eq_true (show (0 : Int) ≤ (i : Int) by omega), decide_eq_true (show (i : Int) ≤ (ws.length : Int) - 1 by omega)]
  rfl
theorem text_nul {x : Str} : textV x 4000 (.str (Str.ofString "")) = true := by
  show (decide (Txt.stripChars (Str.ofString "") x = ⟨#[]⟩) && decide ((Str.ofString "").length ≤ 4000)) = true
  rw [strip_in, decide_eq_true (show (Str.ofString "").length ≤ 4000 by decide +kernel), Bool.and_true, List.all_eq_true]
  intro c m
  have z : cs (Str.ofString "") = [] := by decide +kernel
  have m2 : c ∈ cs (Str.ofString "") := m
  rw [z] at m2
  cases m2
def spCanStand0 (K : Frag) (C cB cT : Addr) : Sp := fun vs H Q _ => spCanStandX K C cB cT vs H Q fun _ _ _ => False
theorem can_stand0 {P : Program} {w : World} {K : Frag} {mg : Str → Option Value} {base : Heap} {f C cB cT : Addr} {fd : FuncData} (F : FnOk P w K mg base (L2.CX P w) 5 f fd ["book", "text"] (spCanStandX K C cB cT)) : FnOk P w K mg base CX0 5 f fd ["book", "text"] (spCanStand0 K C cB cT) := XC0.calm F fun vs H Q E h => h
end B17

/-! what is said of a call: _law_came -/
namespace B17
open PySem PySem.Spec PyProof.Rows L2 XSt NX XB XE LamX
open PySem.W (Frag)
abbrev sCame : Stmt := top 61
/-- the classes, by their place in the clauses -/
structure CameC (K : Frag) (mg : Str → Option Value) (cl : Nat → Addr) : Prop where
  a0 : mg "InvalidBook" = some (.ref (cl 0))
  a1 : mg "InvalidText" = some (.ref (cl 1))
  exm : ∀ i j, i < 2 → j ≤ i → PySem.W.exmOne K (.ref (cl i)) (.ref (cl j)) = some (decide (i = j))
def CamePl : Nat → Str
  | 0 => "book"
  | _ => "text"
/-- what an error comes to -/
def CameW (K : Frag) (cl : Nat → Addr) (Q : VK) : XK := fun cls d H' => (∃ i, i < 2 ∧ cls = .ref (cl i) ∧ Q (.str (CamePl i)) H')
def TCame (K : Frag) (cl : Nat → Addr) : (XK → Hp → VK → Prop) → Hp → VK → Prop := fun tl H Q => tl (CameW K cl Q) H fun _ H' => Q (.str "") H'
structure CameOk (K : Frag) (mg : Str → Option Value) (g : Addr) : Prop where
  at_ : mg "_law_came" = some (.ref g)
  keep : PySem.W.keepIn K (.ref g) = true
  fn : ∃ (fd : FuncData), FunD K "_law_came" "_law_came" (defArgs sCame) (defBody sCame) (defScope sCame) [] [] g fd ∧ Binds K fd ["call_it"] []
section
variable {P : Program} {w : World} {K : Frag} {mg : Str → Option Value} {base : Heap} {cl : Nat → Addr} {T : List (Addr × Str)}
theorem scCame : FnScope ["call_it"] ["call_it"] (defScope sCame) := ⟨rfl, rfl, rfl, by decide +kernel, rfl, by decide +kernel, by decide +kernel⟩
theorem Came_gives {X : Cx} {q : Str} {g : Addr} {cdg : Value} {k : Nat} (TN : CameC X.K X.mg cl) (mP : X.mg "repr" = none) (hg0 : X.A.guards = some []) (hr : Room (k + 2) X.A) :
    GivesTo X ["call_it"] "_law_came" (defScope sCame) g cdg (defBody sCame) "call_it" q (TCame X.K cl) := by
  intro f c' s H Q tl act hc h
  have bR : bootBuiltins "repr" = some (.builtin "repr") := by decide +kernel
  have hgA : ∀ env : Env, (X.A.deeper env).guards = some [] := fun env => guards_deeper hg0
  have hrA : ∀ env : Env, (X.A.deeper env).units + 64 < cLine := fun env => (hr.deeper env).units
  refine ⟨_, pss_cons (ps_try_all (X := (cxOf C8.CX0 X.prog X.w X.K X.mg X.base ["call_it"] "_law_came" (defScope sCame) g cdg X.A X.stack s H C8.E0).nox)
      (l := [⟨[.ref (cl 0)], none, fun _ _ _ => tRet (tC (.str "book"))⟩,
        ⟨[.ref (cl 1)], none, fun _ _ _ => tRet (tC (.str "text"))⟩])
      (tb := fun W D σ H => ∃ Ech : XK, (∀ cls d (σ' : L2.St) H', Ech cls d H' → σ'.length = 1 → W cls d σ' H') ∧ σ[0]? = some (some (.ref f)) ∧ H c' = some (CodeO c' q) ∧ tl Ech H (fun _ H' => D.nx σ H'))
      rfl rfl scCame.nd LamX.takes0 (fun W pn xe tk _ => ?_) ?_) (pss_one (ps_ret pe_str)), ?_⟩
  · refine ⟨fun pins s' σ H' D I h' => ?_⟩
    obtain ⟨Ech, hW, h1, h2, h3⟩ := h'
    have tk' : Takes ((cxOf C8.CX0 X.prog X.w X.K X.mg X.base ["call_it"] "_law_came" (defScope sCame) g cdg X.A X.stack s H C8.E0).tr pn xe) (fun cls d (σ' : L2.St) H' => σ'.length = 1 → W cls d σ' H') :=
      fun u s' ⟨a, B, sI, pins, σ, H, cls, d, e, I, nb, up, sky, na, os, ag, w⟩ => tk u s' ⟨a, B, sI, pins, σ, H, cls, d, e, I, nb, up, sky, na, os, ag, w I.len⟩
    have hq := fun p1 p2 p3 => pss_one (ps_expr (pos := p3) (act _ pn xe Ech p1 p2 tk' hW))
    exact (hq _ _ _).run pins s' σ H' D I ⟨h1, h2, h3⟩
  · refine (.plain (tests_name ⟨by rfl, by decide, .inl TN.a0⟩) (fun a oe cls d pn _ _ => pss_one (ps_ret pe_str)) (.plain (tests_name ⟨by rfl, by decide, .inl TN.a1⟩) (fun a oe cls d pn _ _ => pss_one (ps_ret pe_str)) .nil))
  · refine ⟨CameW X.K cl Q, fun cls d σ' H' e l2 => ?_, rfl, hc, h⟩
    have no : ∀ i j, i < 2 → j < i → PySem.W.exmAny X.K (.ref (cl i)) [.ref (cl j)] = some false := fun i j h1 h2 => exm_any (by
      have z := TN.exm i j h1 (Nat.le_of_lt h2)
      rw [decide_eq_false (by omega)] at z
      exact z)
    have yes : ∀ i, i < 2 → PySem.W.exmAny X.K (.ref (cl i)) [.ref (cl i)] = some true := fun i h1 => exm_any (by
      have z := TN.exm i i h1 (Nat.le_refl _)
      rw [decide_eq_true rfl] at z
      exact z)
    have hs : sizeLine = 16777216 := sizeLine_eq
    rcases e with ⟨i, hi, rfl, e⟩
    · rcases (by omega : i = 0 ∨ i = 1) with rfl | rfl
      · exact ⟨true, yes 0 (by decide), fun _ _ _ => e, fun z => (by cases z)⟩
      · exact ⟨false, no 1 0 (by decide) (by decide), fun z => (by cases z), fun _ => ⟨true, yes 1 (by decide), fun _ _ _ => e, fun z => (by cases z)⟩⟩
/-- _law_came(lambda: body), where no repr is under way -/
theorem pe_Came {X : Cx} {g c P1 : Addr} {k : Nat} {params : Arguments} {body : Expr} {scope : Scope} {t : XK → TE} {p lpos pos : Pos} (O : CameOk X.K X.mg g) (TN : CameC X.K X.mg cl) (mP : X.mg "repr" = none) (hg0 : X.A.guards = some []) (hg : Gl X "_law_came")
    (TB : TabB X.base X.mg c P1) (hcode : X.env.code = .ref c) (hmT : (P1, X.env.qual ++ "<lambda>") ∈ T) (hu : ∀ p ∈ T, p.1 = P1 → p.2 = X.env.qual ++ "<lambda>") (hr : Room (k + 2) X.A) (L : LamS X.env.scope scope) (hdef : defaultsOf params X.env = ([], []))
    (hbind : ∀ (q : Str) (cl : List (Str × Addr)) (pm cv ctv : Value), bindArgs (PySem.W.kla_fn "<lambda>" q params body scope cl pm cv ctv) ⟨[], []⟩ = pure [])
    (hbody : ∀ (A : Around) (outer : List Env) (s : Shared) (H : Hp) (E : XK) (f c' : Addr), Room k (A.deeper (lamEnv X scope s.heap.objs.size f c')) → PE (lamCx X A outer s H E scope f c') body (t E)) :
    PE X (.Call (.Name "_law_came" p) [.Lambda params body scope lpos] [] pos) (tLam T (TCame X.K cl) t) := by
  obtain ⟨fd, F, bd⟩ := O.fn
  obtain ⟨oc, od, dV, kV, doc, pm, an, cdv, ct, osl, rfl, lk, hcd, _, _⟩ := F.ex
  exact pe_lamcall hg O.at_ O.keep lk hcd bd scCame rfl (.inl (by rfl)) (Came_gives TN mP hg0 hr) TB hcode hmT hu hr L hdef hbind hbody
end
end B17

/-! places of words in a text, and books that are made by counting them -/
namespace XFl
open PySem PySem.Spec PyProof.Rows L2 XSt NX
/-- the words that begin a text -/
def occ (K : List Str) (w : List Nat) : Nat := (K.filter fun k => decide (cs k <+: w)).length
/-- the words that end a text -/
def enc (K : List Str) (w : List Nat) : Nat := (K.filter fun k => decide (cs k <:+ w)).length
def spotsN (K : List Str) : List Nat → Nat
  | [] => 0
  | c :: w => occ K (c :: w) + spotsN K w
def much (K : List Str) (w : List Nat) : Int := (w.length : Int) + 1 - (spotsN K w : Int)
theorem filter_two {α : Type} (p q r : α → Bool) : ∀ l : List α, (∀ x ∈ l, p x = (q x || r x)) → (∀ x ∈ l, ¬ (q x = true ∧ r x = true)) → (l.filter p).length = (l.filter q).length + (l.filter r).length
  | [], _, _ => rfl
  | a :: l, h, d => by
    have ih := filter_two p q r l (fun x m => h x (List.mem_cons_of_mem _ m)) (fun x m => d x (List.mem_cons_of_mem _ m))
    have h0 := h a List.mem_cons_self
    have d0 := d a List.mem_cons_self
    rw [List.filter_cons, List.filter_cons, List.filter_cons, h0]
    cases hq : q a <;> cases hr : r a
    · simpa using ih
    · simp [ih]; omega
    · simp [ih]; omega
    · exact absurd ⟨hq, hr⟩ d0
theorem prefix_snoc {k w : List Nat} {b : Nat} : k <+: w ++ [b] ↔ k <+: w ∨ k = w ++ [b] := by
  rw [List.prefix_concat_iff]
  exact Or.comm
theorem suffix_cons {k w : List Nat} {c : Nat} : k <:+ c :: w ↔ k <:+ w ∨ k = c :: w := by
  rw [List.suffix_cons_iff]
  exact Or.comm
theorem spots_snoc {K : List Str} (ne : ∀ k ∈ K, 1 ≤ k.length) (b : Nat) : ∀ w : List Nat, spotsN K (w ++ [b]) = spotsN K w + enc K (w ++ [b])
  | [] => by
    show occ K [b] + 0 = 0 + enc K [b]
    rw [Nat.add_zero, Nat.zero_add]
    unfold occ enc
    congr 1
    refine List.filter_congr fun k mk => ?_
    have l1 := ne k mk
    rw [← cs_len] at l1
    have e : (cs k <+: [b]) ↔ (cs k <:+ [b]) := by
      constructor
      · intro h
        have z : cs k = [b] := by
          have := h.length_le
          exact h.eq_of_length (by simp at this ⊢; omega)
        rw [z]
        exact List.suffix_refl _
      · intro h
        have z : cs k = [b] := by
          have := h.length_le
          exact h.eq_of_length (by simp at this ⊢; omega)
        rw [z]
        exact List.prefix_refl _
    exact decide_eq_decide.mpr e
  | c :: w => by
    have ih := spots_snoc ne b w
    show occ K (c :: (w ++ [b])) + spotsN K (w ++ [b]) = occ K (c :: w) + spotsN K w + enc K (c :: (w ++ [b]))
    rw [ih]
    have h1 : occ K (c :: (w ++ [b])) = occ K (c :: w) + (K.filter fun k => decide (cs k = c :: (w ++ [b]))).length := by
      refine filter_two _ _ _ K (fun k _ => ?_) (fun k _ z => ?_)
      · rw [← Bool.decide_or]
        exact decide_eq_decide.mpr (prefix_snoc (w := c :: w))
      · rw [decide_eq_true_eq, decide_eq_true_eq] at z
        have l := z.1.length_le
        rw [z.2] at l
        simp only [List.length_append, List.length_cons, List.length_nil] at l
        omega
    have h2 : enc K (c :: (w ++ [b])) = enc K (w ++ [b]) + (K.filter fun k => decide (cs k = c :: (w ++ [b]))).length := by
      refine filter_two _ _ _ K (fun k _ => ?_) (fun k _ z => ?_)
      · rw [← Bool.decide_or]
        exact decide_eq_decide.mpr suffix_cons
      · rw [decide_eq_true_eq, decide_eq_true_eq] at z
        have l := z.1.length_le
        rw [z.2] at l
        simp only [List.length_append, List.length_cons, List.length_nil] at l
        omega
    rw [h1, h2]
    omega
theorem filter_one {α : Type} (p : α → Bool) {l : List α} (nd : l.Nodup) (h : ∀ x ∈ l, ∀ y ∈ l, p x = true → p y = true → x = y) : (l.filter p).length ≤ 1 := by
  have nd2 := nd.filter p
  match e : l.filter p with
  | [] => simp
  | [a] => simp
  | a :: b :: t =>
    rw [e] at nd2
    have ma : a ∈ l.filter p := by rw [e]; simp
    have mb : b ∈ l.filter p := by rw [e]; simp
    obtain ⟨m1, p1⟩ := List.mem_filter.mp ma
    obtain ⟨m2, p2⟩ := List.mem_filter.mp mb
    have := h a m1 b m2 p1 p2
    have n2 : ¬ a ∈ b :: t := (List.nodup_cons.mp nd2).1
    exact absurd (by rw [this]; simp) n2
/-- what is known of the core -/
structure Core (K : List Str) : Prop where
  nd : K.Nodup
  ne : ∀ k ∈ K, 1 ≤ k.length
  pre : NoPre K
  suf : NoSuf K
theorem occ_one {K : List Str} (c : Core K) (w : List Nat) : occ K w ≤ 1 := filter_one _ c.nd fun x mx y my hx hy => by
  rw [decide_eq_true_eq] at hx hy
  by_cases e : x = y
  · exact e
  · rcases Nat.le_total (cs x).length (cs y).length with l | l
    · exact absurd (List.prefix_of_prefix_length_le hx hy l) (c.pre x mx y my e)
    · exact absurd (List.prefix_of_prefix_length_le hy hx l) (c.pre y my x mx (Ne.symm e))
theorem enc_one {K : List Str} (c : Core K) (w : List Nat) : enc K w ≤ 1 := filter_one _ c.nd fun x mx y my hx hy => by
  rw [decide_eq_true_eq] at hx hy
  by_cases e : x = y
  · exact e
  · rcases Nat.le_total (cs x).length (cs y).length with l | l
    · exact absurd (List.suffix_of_suffix_length_le hx hy l) (c.suf x mx y my e)
    · exact absurd (List.suffix_of_suffix_length_le hy hx l) (c.suf y my x mx (Ne.symm e))
theorem occ_pos {K : List Str} {w : List Nat} {k : Str} (m : k ∈ K) (h : cs k <+: w) : 1 ≤ occ K w := List.length_pos_of_mem (List.mem_filter.mpr ⟨m, decide_eq_true h⟩)
theorem enc_pos {K : List Str} {w : List Nat} {k : Str} (m : k ∈ K) (h : cs k <:+ w) : 1 ≤ enc K w := List.length_pos_of_mem (List.mem_filter.mpr ⟨m, decide_eq_true h⟩)
theorem much_cons {K : List Str} (c : Nat) (w : List Nat) : much K (c :: w) = much K w + 1 - (occ K (c :: w) : Int) := by
  unfold much
  show ((w.length + 1 : Nat) : Int) + 1 - ((occ K (c :: w) + spotsN K w : Nat) : Int) = _
  omega
theorem much_snoc {K : List Str} (c : Core K) (b : Nat) (w : List Nat) : much K (w ++ [b]) = much K w + 1 - (enc K (w ++ [b]) : Int) := by
  unfold much
  rw [spots_snoc c.ne]
  rw [List.length_append]
  show ((w.length + 1 : Nat) : Int) + 1 - _ = _
  omega
theorem much_left {K : List Str} (c : Core K) (w : List Nat) : ∀ v : List Nat, much K w ≤ much K (v ++ w)
  | [] => Int.le_refl _
  | a :: v => by
    have ih := much_left c w v
    have z := occ_one c (a :: (v ++ w))
    have e := much_cons (K := K) a (v ++ w)
    show _ ≤ much K (a :: (v ++ w))
    omega
theorem much_right {K : List Str} (c : Core K) (w : List Nat) : ∀ v : List Nat, much K w ≤ much K (w ++ v)
  | [] => by rw [List.append_nil]; exact Int.le_refl _
  | a :: v => by
    have ih := much_right c (w ++ [a]) v
    have z := enc_one c (w ++ [a])
    have e := much_snoc c a w
    rw [List.append_assoc] at ih
    show _ ≤ much K (w ++ ([a] ++ v))
    omega
/-- a new word: one letter more at either end, each counts -/
def NewW (K : List Str) (d : Int) (n : Str) : Prop := ∃ (a b : Nat) (l : List Nat), cs n = a :: (l ++ [b]) ∧ much K l = d - 1 ∧ much K (a :: l) = d ∧ much K (l ++ [b]) = d ∧ much K (cs n) = d + 1
theorem new_pre {K : List Str} {d : Int} (c : Core K) (low : ∀ k ∈ K, much K (cs k) ≤ d - 1) {x y : Str} (hx : x ∈ K ∨ NewW K d x) (hy : y ∈ K ∨ NewW K d y) (ne : x ≠ y) : ¬ cs x <+: cs y := by
  intro h
  have ne' : cs x ≠ cs y := fun e => ne (cs_inj e)
  rcases hy with my | ⟨a, b, l, ey, m1, m2, m3, m4⟩
  · rcases hx with mx | ⟨a, b, l, ex, m1, m2, m3, m4⟩
    · exact c.pre x mx y my ne h
    · obtain ⟨t, ht⟩ := h
      have z := much_right c (cs x) t
      rw [ht] at z
      have := low y my
      omega
  · have h2 : cs x <+: a :: l := by
      rw [ey] at h ne'
      rcases (prefix_snoc (w := a :: l)).mp h with z | z
      · exact z
      · exact absurd z ne'
    rcases hx with mx | ⟨a', b', l', ex, n1, n2, n3, n4⟩
    · have p := occ_pos mx h2
      have e := much_cons (K := K) a l
      omega
    · obtain ⟨t, ht⟩ := h2
      have z := much_right c (cs x) t
      rw [ht] at z
      omega
theorem new_suf {K : List Str} {d : Int} (c : Core K) (low : ∀ k ∈ K, much K (cs k) ≤ d - 1) {x y : Str} (hx : x ∈ K ∨ NewW K d x) (hy : y ∈ K ∨ NewW K d y) (ne : x ≠ y) : ¬ cs x <:+ cs y := by
  intro h
  have ne' : cs x ≠ cs y := fun e => ne (cs_inj e)
  rcases hy with my | ⟨a, b, l, ey, m1, m2, m3, m4⟩
  · rcases hx with mx | ⟨a, b, l, ex, m1, m2, m3, m4⟩
    · exact c.suf x mx y my ne h
    · obtain ⟨t, ht⟩ := h
      have z := much_left c (cs x) t
      rw [ht] at z
      have := low y my
      omega
  · have h2 : cs x <:+ l ++ [b] := by
      rw [ey] at h ne'
      rcases suffix_cons.mp h with z | z
      · exact z
      · exact absurd z ne'
    rcases hx with mx | ⟨a', b', l', ex, n1, n2, n3, n4⟩
    · have p := enc_pos mx h2
      have e := much_snoc c b l
      omega
    · obtain ⟨t, ht⟩ := h2
      have z := much_left c (cs x) t
      rw [ht] at z
      omega
theorem spots_more {K K' : List Str} (nd : K.Nodup) (sub : ∀ k ∈ K, k ∈ K') : ∀ w : List Nat, spotsN K w ≤ spotsN K' w
  | [] => Nat.le_refl _
  | c :: w => by
    have ih := spots_more nd sub w
    have z : occ K (c :: w) ≤ occ K' (c :: w) := by
      unfold occ
      have nd2 := nd.filter fun k => decide (cs k <+: c :: w)
      generalize hA : (K.filter fun k => decide (cs k <+: c :: w)) = A at nd2 ⊢
      have subA : ∀ k ∈ A, k ∈ K'.filter fun k => decide (cs k <+: c :: w) := fun k m => by
        rw [← hA] at m
        obtain ⟨m1, m2⟩ := List.mem_filter.mp m
        exact List.mem_filter.mpr ⟨sub k m1, m2⟩
      generalize (K'.filter fun k => decide (cs k <+: c :: w)) = B at subA
      clear hA
      induction A generalizing B with
      | nil => exact Nat.zero_le _
      | cons a A ihA =>
        obtain ⟨n1, n2⟩ := List.nodup_cons.mp nd2
        have ma := subA a List.mem_cons_self
        have := ihA n2 (B.erase a) fun x mx => (List.mem_erase_of_ne fun e => n1 (by rw [← e]; exact mx)).mpr (subA x (List.mem_cons_of_mem _ mx))
        rw [List.length_erase_of_mem ma] at this
        have := List.length_pos_of_mem ma
        rw [List.length_cons]
        omega
    show occ K (c :: w) + spotsN K w ≤ occ K' (c :: w) + spotsN K' w
    omega
theorem much_less {K K' : List Str} (nd : K.Nodup) (sub : ∀ k ∈ K, k ∈ K') (w : List Nat) : much K' w ≤ much K w := by
  have := spots_more nd sub w
  unfold much
  omega
/-- a word that is taken into the core counts one place more -/
theorem much_own {K K' : List Str} (nd : K.Nodup) (sub : ∀ k ∈ K, k ∈ K') {k : Str} (m : k ∈ K') (nm : ¬ k ∈ K) (ne : 1 ≤ k.length) : much K' (cs k) ≤ much K (cs k) - 1 := by
  have nd2 : (k :: K).Nodup := List.nodup_cons.mpr ⟨nm, nd⟩
  have all : ∀ x ∈ k :: K, x ∈ K' := fun x mx => by
    rcases List.mem_cons.mp mx with e | mx
    · rw [e]
      exact m
    · exact sub x mx
  have z := much_less nd2 all (cs k)
  have l1 := ne
  rw [← cs_len] at l1
  cases e : cs k with
  | nil => rw [e] at l1; simp at l1
  | cons a w =>
    rw [e] at z
    have h1 : spotsN (k :: K) (a :: w) ≥ spotsN K (a :: w) + 1 := by
      have s := spots_more nd (fun x mx => List.mem_cons_of_mem k mx) w
      have o : occ (k :: K) (a :: w) = occ K (a :: w) + 1 := by
        unfold occ
        rw [List.filter_cons, decide_eq_true (show cs k <+: a :: w by rw [e]; exact List.prefix_refl _), if_pos rfl, List.length_cons]
      show occ (k :: K) (a :: w) + spotsN (k :: K) w ≥ occ K (a :: w) + spotsN K w + 1
      omega
    unfold much at z ⊢
    omega
end XFl
namespace XFl
open PySem PySem.Spec PyProof.Rows L2 XSt NX
theorem cut_mid {z : Str} {a k : Nat} (h : a ≤ z.length) : cs (cutS z (some (a : Int)) (some ((a : Int) + (k : Int)))) = ((cs z).drop a).take k := by
  have e : (a : Int) + (k : Int) = ((a + k : Nat) : Int) := by omega
  unfold cutS
  rw [e, cs_mk, HT.sIx_nat, HT.sIx_nat, Nat.min_eq_left h]
  show ((cs z).drop a).take _ = ((cs z).drop a).take k
  have l : ((cs z).drop a).length = z.length - a := by rw [List.length_drop, cs_len]
  rcases Nat.le_total (a + k) z.length with g | g
  · rw [Nat.min_eq_left g]
    congr 1
    omega
  · rw [Nat.min_eq_right g, List.take_of_length_le (by omega), List.take_of_length_le (by omega)]
theorem cut_at {z s : Str} {a : Nat} (h : a ≤ z.length) : decide (V.str (cutS z (some (a : Int)) (some ((a : Int) + (s.length : Int)))) = V.str s) = decide (cs s <+: (cs z).drop a) := by
  apply decide_eq_decide.mpr
  rw [List.prefix_iff_eq_take, cs_len]
  constructor
  · intro e
    have y := congrArg cs (V.str.inj e)
    rw [cut_mid h] at y
    exact y.symm
  · intro e
    congr 1
    apply cs_inj
    rw [cut_mid h]
    exact e.symm
/-- the places in the first so many letters -/
def upTo (K : List Str) (w : List Nat) : Nat → Nat
  | 0 => 0
  | i + 1 => upTo K w i + occ K (w.drop i)
theorem upTo_spots (K : List Str) : ∀ (w v : List Nat), upTo K (v ++ w) (v.length + w.length) = upTo K (v ++ w) v.length + spotsN K w
  | [], v => rfl
  | c :: w, v => by
    have ih := upTo_spots K w (v ++ [c])
    rw [List.append_assoc, List.length_append] at ih
    show upTo K (v ++ c :: w) (v.length + (w.length + 1)) = upTo K (v ++ c :: w) v.length + (occ K (c :: w) + spotsN K w)
    have e1 : v.length + (w.length + 1) = v.length + [c].length + w.length := by simp; omega
    have e2 : upTo K (v ++ c :: w) (v.length + [c].length) = upTo K (v ++ c :: w) v.length + occ K (c :: w) := by
      show upTo K (v ++ c :: w) v.length + occ K ((v ++ c :: w).drop v.length) = _
      rw [List.drop_left]
    rw [e1]
    have ih : upTo K (v ++ c :: w) (v.length + [c].length + w.length) = upTo K (v ++ c :: w) (v.length + [c].length) + spotsN K w := ih
    rw [ih, e2]
    omega
theorem upTo_all (K : List Str) (w : List Nat) : upTo K w w.length = spotsN K w := by
  have z := upTo_spots K w []
  simpa [upTo] using z
theorem occ_le (K : List Str) (w : List Nat) : occ K w ≤ K.length := List.length_filter_le _ _
theorem upTo_le (K : List Str) (w : List Nat) : ∀ i, upTo K w i ≤ i * K.length
  | 0 => by simp [upTo]
  | i + 1 => by
    have := upTo_le K w i
    have := occ_le K (w.drop i)
    rw [Nat.succ_mul]
    show upTo K w i + occ K (w.drop i) ≤ _
    omega
end XFl
namespace XFl
open PySem PySem.Spec PyProof.Rows L2 XSt NX
/-- the longer texts that are still low -/
def kids (x : Str) (K : List Str) (d : Int) (l : Str) : List Str := ((XSt.signs x).map fun c => l ++ c).filter fun w => decide (much K (cs w) < d)
def kidV (l : Str) : V → V
  | .str c => .str (l ++ c)
  | v => v
def lowV (K : List Str) (d : Int) (l : Str) : V → Bool
  | .str c => decide (much K (cs (l ++ c)) < d)
  | _ => false
theorem kids_v (K : List Str) (d : Int) (l : Str) : ∀ s : List Str, ((s.map V.str).filter (lowV K d l)).map (kidV l) = ((s.map fun c => l ++ c).filter fun w => decide (much K (cs w) < d)).map V.str
  | [] => rfl
  | c :: s => by
    have ih := kids_v K d l s
    rw [List.map_cons, List.map_cons, List.filter_cons, List.filter_cons]
    show List.map (kidV l) (if decide (much K (cs (l ++ c)) < d) = true then _ else _) = _
    cases h : decide (much K (cs (l ++ c)) < d) with
    | true =>
      rw [if_pos rfl, if_pos rfl, List.map_cons, List.map_cons, ih]
      rfl
    | false =>
      rw [if_neg (by decide), if_neg (by decide), ih]
def growF (x : Str) (K : List Str) (d : Int) (m : Nat) : Nat → List Str → List Str → Option (List Str)
  | 0, _, _ => none
  | n + 1, found, layer => if layer.isEmpty then some found else if m < (found ++ layer).length then none else growF x K d m n (found ++ layer) (layer.flatMap (kids x K d))
theorem kids_mem {x : Str} {K : List Str} {d : Int} {l w : Str} (h : w ∈ kids x K d l) : w.length = l.length + 1 ∧ (∀ c ∈ cs w, c ∈ cs l ∨ c ∈ cs x) ∧ much K (cs w) < d := by
  obtain ⟨h1, h2⟩ := List.mem_filter.mp h
  obtain ⟨c, mc, rfl⟩ := List.mem_map.mp h1
  unfold XSt.signs at mc
  obtain ⟨n, mn, rfl⟩ := List.mem_map.mp mc
  refine ⟨by rw [app_len]; rfl, fun e me => ?_, of_decide_eq_true h2⟩
  rw [cs_app] at me
  rcases List.mem_append.mp me with me | me
  · exact .inl me
  · have : e = n := List.mem_singleton.mp me
    rw [this]
    exact .inr mn
/-- what grows is low -/
theorem growF_low {x : Str} {K : List Str} {d : Int} {m : Nat} : ∀ (n : Nat) (found layer ls : List Str), growF x K d m n found layer = some ls →
    (∀ w, (w ∈ found ∨ w ∈ layer) → (∀ c ∈ cs w, c ∈ cs x) ∧ much K (cs w) < d ∧ w.length ≤ m) → (∀ w ∈ layer, w.length ≤ found.length) → found.length ≤ m → ls.length ≤ m ∧ ∀ w ∈ ls, (∀ c ∈ cs w, c ∈ cs x) ∧ much K (cs w) < d ∧ w.length ≤ m
  | 0, _, _, _, h, _, _, _ => by cases h
  | n + 1, found, layer, ls, h, good, few, lf => by
    unfold growF at h
    cases e : layer.isEmpty with
    | true =>
      rw [e, if_pos rfl] at h
      cases h
      exact ⟨lf, fun w mw => good w (.inl mw)⟩
    | false =>
      rw [e, if_neg (by decide)] at h
      by_cases big : m < (found ++ layer).length
      · rw [if_pos big] at h
        cases h
      · rw [if_neg big] at h
        have pos : 1 ≤ layer.length := by
          cases layer with
          | nil => cases e
          | cons a l => simp
        rw [List.length_append] at big
        refine growF_low n _ _ ls h (fun w mw => ?_) (fun w mw => ?_) (by rw [List.length_append]; omega)
        · rcases mw with mw | mw
          · exact good w (List.mem_append.mp mw)
          · obtain ⟨l, ml, mk⟩ := List.mem_flatMap.mp mw
            obtain ⟨k1, k2, k3⟩ := kids_mem mk
            have g := good l (.inr ml)
            have := few l ml
            refine ⟨fun c mc => ?_, k3, by omega⟩
            rcases k2 c mc with y | y
            · exact g.1 c y
            · exact y
        · obtain ⟨l, ml, mk⟩ := List.mem_flatMap.mp mw
          have k1 := (kids_mem mk).1
          have := few l ml
          rw [List.length_append]
          omega
end XFl

/-! where words stand in a text; cuts from both ends -/
namespace XFd
open PySem PySem.Spec PyProof.Rows L2 XSt NX XFl
open PySem.StrLaws
/-- the word stands in the text from i on -/
def hit (z w : Str) (i : Nat) : Bool := decide (cs w <+: (cs z).drop i)
theorem hit_le {z w : Str} {i : Nat} (h1 : 1 ≤ w.length) (h : hit z w i = true) : i + w.length ≤ z.length := by
  have p := (of_decide_eq_true h).length_le
  rw [List.length_drop, cs_len, cs_len] at p
  omega
theorem occ_stay (s sub : Str) (hi : Nat) : ∀ (l : List Nat) (st : Array Nat × Nat), st.fst.size = 1 → (forIn l st (occBody s sub hi 1)).run.fst = st.fst
  | [], st, _ => by simp
  | a :: l, st, h => by
    rw [List.forIn_cons]
    unfold occBody
    rw [if_neg (by rw [h]; omega)]
    exact occ_stay s sub hi l (st.fst, st.snd) h
theorem occ_first (s sub : Str) (hi : Nat) : ∀ (l : List Nat) (free : Nat), (∀ i ∈ l, free ≤ i) →
    (forIn l ((#[] : Array Nat), free) (occBody s sub hi 1)).run.fst.toList = (l.find? fun i => decide (i + sub.length ≤ hi) && Builtin.Str.subAt s sub i).toList
  | [], free, _ => by simp
  | a :: l, free, hf => by
    have ha : free ≤ a := hf a (List.mem_cons_self ..)
    rw [List.forIn_cons, List.find?_cons]
    by_cases hc : a + sub.length ≤ hi ∧ Builtin.Str.subAt s sub a = true
    · have c0 : (decide (a + sub.length ≤ hi) && Builtin.Str.subAt s sub a) = true := by rw [hc.2, Bool.and_true]; exact decide_eq_true hc.1
      rw [c0]
      unfold occBody
      rw [if_pos ⟨⟨⟨by simp, ha⟩, hc.1⟩, hc.2⟩]
      have z := occ_stay s sub hi l ((#[] : Array Nat).push a, a + sub.length) rfl
      exact congrArg Array.toList z
    · have c0 : (decide (a + sub.length ≤ hi) && Builtin.Str.subAt s sub a) = false := by
        cases e : (decide (a + sub.length ≤ hi) && Builtin.Str.subAt s sub a) with
        | false => rfl
        | true =>
          obtain ⟨h1, h2⟩ := Bool.and_eq_true_iff.mp e
          exact absurd ⟨of_decide_eq_true h1, h2⟩ hc
      rw [c0]
      unfold occBody
      rw [if_neg fun h => hc ⟨h.1.2, h.2⟩]
      exact occ_first s sub hi l free fun i m => hf i (List.mem_cons_of_mem _ m)
theorem sub_hit {z w : Str} {i : Nat} (h1 : 1 ≤ w.length) : (decide (i + w.length ≤ z.length) && Builtin.Str.subAt z w i) = hit z w i := by
  rw [Bool.eq_iff_iff, Bool.and_eq_true, decide_eq_true_eq, subAt_eq, beq_iff_eq]
  constructor
  · rintro ⟨_, e⟩
    refine decide_eq_true ?_
    show w.cps.toList <+: _
    rw [← e]
    exact List.take_prefix _ _
  · intro h
    refine ⟨hit_le h1 h, ?_⟩
    have p := List.prefix_iff_eq_take.mp (of_decide_eq_true h)
    exact p.symm
/-- the first place from i on, or -1 -/
def nextF (z w : Str) (i : Nat) : Int := match (List.range' i (z.length + 1 - i)).find? (hit z w) with
  | some k => (k : Int)
  | none => -1
theorem find_from {z w : Str} (h1 : 1 ≤ w.length) (i : Nat) : (match Builtin.Str.occurrences z w i z.length 1 with | k :: _ => (k : Int) | [] => -1) = nextF z w i := by
  rw [occ_eq, occ_first z w z.length _ i (fun j m => by rw [List.mem_range'] at m; omega)]
  unfold nextF
  rw [show (fun i => decide (i + w.length ≤ z.length) && Builtin.Str.subAt z w i) = hit z w from funext fun i => sub_hit h1]
  cases (List.range' i (z.length + 1 - i)).find? (hit z w) <;> rfl
theorem find_0 {z w : Str} (h1 : 1 ≤ w.length) : Txt.find z w = nextF z w 0 := find_from h1 0
theorem find_3 {z w : Str} (h1 : 1 ≤ w.length) (i : Nat) : Txt.find3 z w (i : Int) = nextF z w i := by
  have e : fromIndex z.length (i : Int) = i := by
    unfold fromIndex
    rw [if_neg (by omega)]
    omega
  unfold Txt.find3
  rw [e]
  exact find_from h1 i
theorem next_cases {z w : Str} (h1 : 1 ≤ w.length) (i : Nat) : (∃ k : Nat, nextF z w i = (k : Int) ∧ i ≤ k ∧ hit z w k = true ∧ ∀ j, i ≤ j → j < k → hit z w j = false) ∨ (nextF z w i = -1 ∧ ∀ j, i ≤ j → hit z w j = false) := by
  unfold nextF
  cases e : (List.range' i (z.length + 1 - i)).find? (hit z w) with
  | some k =>
    refine .inl ⟨k, rfl, ?_, List.find?_some e, fun j h2 h3 => ?_⟩
    · have m := List.mem_of_find?_eq_some e
      rw [List.mem_range'] at m
      omega
    · obtain ⟨_, as, bs, e2, no⟩ := List.find?_eq_some_iff_append.mp e
      have m := List.mem_of_find?_eq_some e
      rw [List.mem_range'] at m
      have ms : j ∈ List.range' i (z.length + 1 - i) := by rw [List.mem_range']; exact ⟨j - i, by omega, by omega⟩
      have so : (List.range' i (z.length + 1 - i)).Pairwise (· < ·) := List.pairwise_lt_range'
      rw [e2] at ms so
      rcases List.mem_append.mp ms with m2 | m2
      · have z := no j m2
        simpa using z
      · rcases List.mem_cons.mp m2 with rfl | m3
        · omega
        · have z := (List.pairwise_cons.mp (List.pairwise_append.mp so).2.1).1 j m3
          omega
  | none =>
    refine .inr ⟨rfl, fun j h2 => ?_⟩
    cases eh : hit z w j with
    | false => rfl
    | true =>
      have l := hit_le h1 eh
      have z := List.find?_eq_none.mp e j (by rw [List.mem_range']; exact ⟨j - i, by omega, by omega⟩)
      exact absurd eh z
def occN (z w : Str) (m : Nat) : List Nat := (List.range m).filter (hit z w)
theorem occN_zero (z w : Str) : occN z w 0 = [] := rfl
theorem occN_same {z w : Str} {i : Nat} : ∀ d : Nat, (∀ j, i ≤ j → j < i + d → hit z w j = false) → occN z w (i + d) = occN z w i
  | 0, _ => rfl
  | d + 1, h => by
    have ih := occN_same (i := i) d fun j a b => h j a (by omega)
    unfold occN at ih ⊢
    rw [← Nat.add_assoc, List.range_succ, List.filter_append, ih, List.filter_cons, h (i + d) (by omega) (by omega)]
    simp
theorem occN_next {z w : Str} {i k : Nat} (ik : i ≤ k) (hk : hit z w k = true) (no : ∀ j, i ≤ j → j < k → hit z w j = false) : occN z w (k + 1) = occN z w i ++ [k] := by
  have e := occN_same (z := z) (w := w) (i := i) (k - i) fun j a b => no j a (by omega)
  rw [show i + (k - i) = k by omega] at e
  unfold occN at e ⊢
  rw [List.range_succ, List.filter_append, e, List.filter_cons, hk]
  simp
def occs (z w : Str) : List Nat := occN z w z.length
theorem occN_end {z w : Str} {i : Nat} (h1 : 1 ≤ w.length) (il : i ≤ z.length) (no : ∀ j, i ≤ j → hit z w j = false) : occN z w i = occs z w := by
  have e := occN_same (z := z) (w := w) (i := i) (z.length - i) fun j a _ => no j a
  rw [show i + (z.length - i) = z.length by omega] at e
  exact e.symm
theorem mem_occs {z w : Str} {i : Nat} (h1 : 1 ≤ w.length) : i ∈ occs z w ↔ hit z w i = true := by
  unfold occs occN
  rw [List.mem_filter, List.mem_range]
  exact ⟨fun h => h.2, fun h => ⟨by have := hit_le h1 h; omega, h⟩⟩
/-- all places with their words, word by word -/
def foundD (z : Str) (ws : List Str) : List (Nat × Str) := ws.flatMap fun w => (occs z w).map fun i => (i, w)
theorem mem_found {z : Str} {ws : List Str} (h1 : ∀ w ∈ ws, 1 ≤ w.length) {p : Nat × Str} : p ∈ foundD z ws ↔ p.2 ∈ ws ∧ hit z p.2 p.1 = true := by
  unfold foundD
  rw [List.mem_flatMap]
  constructor
  · rintro ⟨w, mw, m⟩
    obtain ⟨i, mi, rfl⟩ := List.mem_map.mp m
    exact ⟨mw, (mem_occs (h1 w mw)).mp mi⟩
  · rintro ⟨mw, h⟩
    exact ⟨p.2, mw, List.mem_map.mpr ⟨p.1, (mem_occs (h1 _ mw)).mpr h, rfl⟩⟩
theorem found_nodup {z : Str} {ws : List Str} (nd : ws.Nodup) : (foundD z ws).Nodup := by
  unfold foundD
  refine List.pairwise_flatMap.mpr ⟨fun w mw => ?_, nd.imp fun {a b} ne x mx y my e => ?_⟩
  · refine List.pairwise_map.mpr ?_
    have so : (occs z w).Nodup := List.Nodup.sublist List.filter_sublist List.nodup_range
    exact so.imp fun {a b} ne e => ne (congrArg Prod.fst e)
  · obtain ⟨i, _, rfl⟩ := List.mem_map.mp mx
    obtain ⟨j, _, rfl⟩ := List.mem_map.mp my
    exact ne (congrArg Prod.snd e)
theorem found_len (z : Str) : ∀ ws : List Str, (foundD z ws).length ≤ ws.length * z.length
  | [] => Nat.zero_le _
  | w :: ws => by
    have ih := found_len z ws
    have l : (occs z w).length ≤ z.length := by
      have := List.length_filter_le (hit z w) (List.range z.length)
      rw [List.length_range] at this
      exact this
    show (((occs z w).map fun i => (i, w)) ++ foundD z ws).length ≤ _
    rw [List.length_append, List.length_map, List.length_cons, Nat.succ_mul]
    omega
abbrev kI (i : Int) : Key := Sum.inl i
/-- as the entries of a dict -/
def kvF (D : List (Nat × Str)) : List (Key × V) := D.map fun p => (kI p.1, V.str p.2)
theorem kvF_len (D : List (Nat × Str)) : (kvF D).length = D.length := List.length_map ..
theorem val_none {D : List (Nat × Str)} {i : Nat} (h : ∀ w, (i, w) ∉ D) : valV (kvF D) (kI (i : Int)) = none := by
  induction D with
  | nil => rfl
  | cons p D ih =>
    show valV ((kI p.1, V.str p.2) :: kvF D) _ = none
    rw [valV_neg]
    · exact ih fun w m => h w (List.mem_cons_of_mem _ m)
    · intro e
      have e2 : (p.1 : Int) = (i : Int) := Sum.inl.inj e
      have : p = (i, p.2) := Prod.ext (by show p.1 = i; omega) rfl
      exact h p.2 (by rw [← this]; exact List.mem_cons_self ..)
theorem val_some {D : List (Nat × Str)} {i : Nat} {w : Str} (h : (i, w) ∈ D) (one : ∀ v, (i, v) ∈ D → v = w) : valV (kvF D) (kI (i : Int)) = some (.str w) := by
  induction D with
  | nil => cases h
  | cons p D ih =>
    show valV ((kI p.1, V.str p.2) :: kvF D) _ = _
    by_cases e : p.1 = i
    · rw [valV_pos (by show kI (p.1 : Int) = _; rw [e])]
      have := one p.2 (by rw [← e]; exact List.mem_cons_self ..)
      show some (V.str p.2) = _
      rw [this]
    · rw [valV_neg (by intro z; have z2 : (p.1 : Int) = (i : Int) := Sum.inl.inj z; omega)]
      refine ih ?_ fun v m => one v (List.mem_cons_of_mem _ m)
      rcases List.mem_cons.mp h with rfl | m
      · exact absurd rfl e
      · exact m
/-- words of which none begins, or ends, another one -/
structure Free2 (ws : List Str) : Prop where
  one : ∀ w ∈ ws, 1 ≤ w.length
  pre : ∀ a ∈ ws, ∀ b ∈ ws, a ≠ b → ¬ cs a <+: cs b
  suf : ∀ a ∈ ws, ∀ b ∈ ws, a ≠ b → ¬ cs a <:+ cs b
  nd : ws.Nodup
theorem Free2.pre_one {ws : List Str} (F : Free2 ws) {a b : Str} {l : List Nat} (ma : a ∈ ws) (mb : b ∈ ws) (ha : cs a <+: l) (hb : cs b <+: l) : a = b := by
  by_cases e : a = b
  · exact e
  · rcases List.prefix_or_prefix_of_prefix ha hb with h | h
    · exact absurd h (F.pre a ma b mb e)
    · exact absurd h (F.pre b mb a ma fun z => e z.symm)
theorem Free2.suf_one {ws : List Str} (F : Free2 ws) {a b : Str} {l : List Nat} (ma : a ∈ ws) (mb : b ∈ ws) (ha : cs a <:+ l) (hb : cs b <:+ l) : a = b := by
  by_cases e : a = b
  · exact e
  · rcases List.suffix_or_suffix_of_suffix ha hb with h | h
    · exact absurd h (F.suf a ma b mb e)
    · exact absurd h (F.suf b mb a ma fun z => e z.symm)
theorem at_some {z : Str} {ws : List Str} (F : Free2 ws) {i : Nat} {w : Str} (m : w ∈ ws) (h : cs w <+: (cs z).drop i) : valV (kvF (foundD z ws)) (kI (i : Int)) = some (.str w) :=
  val_some ((mem_found F.one).mpr ⟨m, decide_eq_true h⟩) fun v mv => by
    obtain ⟨m2, h2⟩ := (mem_found F.one).mp mv
    exact F.pre_one m2 m (of_decide_eq_true h2) h
theorem at_none {z : Str} {ws : List Str} (F : Free2 ws) {i : Nat} (h : ∀ w ∈ ws, ¬ cs w <+: (cs z).drop i) : valV (kvF (foundD z ws)) (kI (i : Int)) = none :=
  val_none fun w m => by
    obtain ⟨m2, h2⟩ := (mem_found F.one).mp m
    exact h w m2 (of_decide_eq_true h2)
/-- the same, by their ends -/
def endP (p : Nat × Str) : Nat × Str := (p.1 + p.2.length, p.2)
def aheadD (z : Str) (ws : List Str) : List (Nat × Str) := (foundD z ws).map endP
theorem hit_end {z w : Str} {i : Nat} (h1 : 1 ≤ w.length) : hit z w i = true ↔ i + w.length ≤ z.length ∧ cs w = ((cs z).take (i + w.length)).drop i := by
  constructor
  · intro h
    refine ⟨hit_le h1 h, ?_⟩
    have p := List.prefix_iff_eq_take.mp (of_decide_eq_true h)
    rw [List.drop_take, Nat.add_sub_cancel_left, ← cs_len w]
    exact p
  · rintro ⟨_, e⟩
    refine decide_eq_true ?_
    rw [e, List.drop_take]
    exact List.take_prefix _ _
theorem mem_ahead {z : Str} {ws : List Str} (F : Free2 ws) {e : Nat} {w : Str} (he : e ≤ z.length) : (e, w) ∈ aheadD z ws ↔ w ∈ ws ∧ cs w <:+ (cs z).take e := by
  unfold aheadD
  rw [List.mem_map]
  constructor
  · rintro ⟨⟨i, v⟩, m, e2⟩
    obtain ⟨mv, h⟩ := (mem_found F.one).mp m
    have e3 : v = w := congrArg Prod.snd e2
    subst e3
    have e4 : i + v.length = e := congrArg Prod.fst e2
    refine ⟨mv, ?_⟩
    have z2 := ((hit_end (F.one _ mv)).mp h).2
    rw [show i + (i, v).2.length = i + v.length from rfl, e4] at z2
    rw [z2]
    exact List.drop_suffix _ _
  · rintro ⟨mw, s⟩
    have l := s.length_le
    rw [List.length_take, cs_len, cs_len] at l
    refine ⟨(e - w.length, w), (mem_found F.one).mpr ⟨mw, (hit_end (F.one _ mw)).mpr ⟨by show e - w.length + w.length ≤ _; omega, ?_⟩⟩, by show (e - w.length + w.length, w) = _; rw [Nat.sub_add_cancel (by omega)]⟩
    show cs w = ((cs z).take (e - w.length + w.length)).drop (e - w.length)
    rw [Nat.sub_add_cancel (by omega)]
    have p := List.suffix_iff_eq_drop.mp s
    rw [List.length_take, cs_len, cs_len, Nat.min_eq_left he] at p
    exact p
theorem end_some {z : Str} {ws : List Str} (F : Free2 ws) {e : Nat} {w : Str} (he : e ≤ z.length) (m : w ∈ ws) (h : cs w <:+ (cs z).take e) : valV (kvF (aheadD z ws)) (kI (e : Int)) = some (.str w) :=
  val_some ((mem_ahead F he).mpr ⟨m, h⟩) fun v mv => by
    obtain ⟨m2, h2⟩ := (mem_ahead F he).mp mv
    exact F.suf_one m2 m h2 h
theorem end_none {z : Str} {ws : List Str} (F : Free2 ws) {e : Nat} (he : e ≤ z.length) (h : ∀ w ∈ ws, ¬ cs w <:+ (cs z).take e) : valV (kvF (aheadD z ws)) (kI (e : Int)) = none :=
  val_none fun w m => by
    obtain ⟨m2, h2⟩ := (mem_ahead F he).mp m
    exact h w m2 h2
/-- the ends of different places are different ones -/
theorem ahead_new {z : Str} {ws : List Str} (F : Free2 ws) {p q : Nat × Str} (mp : p ∈ foundD z ws) (mq : q ∈ foundD z ws) (ne : p ≠ q) : p.1 + p.2.length ≠ q.1 + q.2.length := by
  intro e
  obtain ⟨m1, h1⟩ := (mem_found F.one).mp mp
  obtain ⟨m2, h2⟩ := (mem_found F.one).mp mq
  have l1 := hit_le (F.one _ m1) h1
  have a1 := (mem_ahead F (e := p.1 + p.2.length) (w := p.2) l1).mp (List.mem_map.mpr ⟨p, mp, rfl⟩)
  have a2 := (mem_ahead F (e := p.1 + p.2.length) (w := q.2) l1).mp (List.mem_map.mpr ⟨q, mq, by rw [e]; rfl⟩)
  have e2 := F.suf_one m1 m2 a1.2 a2.2
  rw [e2] at e
  exact ne (Prod.ext (by omega) e2)
/-- cut from the front: the row and the rest -/
inductive Cut (ws : List Str) : List Nat → List Str → List Nat → Prop
  | stop {l : List Nat} : (∀ w ∈ ws, ¬ cs w <+: l) → Cut ws l [] l
  | go {l e : List Nat} {w : Str} {r : List Str} : w ∈ ws → Cut ws l r e → Cut ws (cs w ++ l) (w :: r) e
theorem cut_ex {ws : List Str} (h1 : ∀ w ∈ ws, 1 ≤ w.length) : ∀ (n : Nat) (l : List Nat), l.length ≤ n → ∃ r e, Cut ws l r e := by
  intro n
  induction n with
  | zero =>
    intro l hl
    refine ⟨[], l, .stop fun w mw p => ?_⟩
    have := p.length_le
    have h := h1 w mw
    rw [← cs_len] at h
    omega
  | succ n ih =>
    intro l hl
    by_cases h : ∃ w ∈ ws, cs w <+: l
    · obtain ⟨w, mw, t, rfl⟩ := h
      have h := h1 w mw
      rw [← cs_len] at h
      rw [List.length_append] at hl
      obtain ⟨r, e, c⟩ := ih t (by omega)
      exact ⟨w :: r, e, .go mw c⟩
    · exact ⟨[], l, .stop fun w mw p => h ⟨w, mw, p⟩⟩
theorem cut_one {ws : List Str} (F : Free2 ws) {l : List Nat} {r : List Str} {e : List Nat} (c : Cut ws l r e) : ∀ {r2 : List Str} {e2 : List Nat}, Cut ws l r2 e2 → r = r2 ∧ e = e2 := by
  induction c with
  | stop no =>
    intro r2 e2 c2
    cases c2 with
    | stop _ => exact ⟨rfl, rfl⟩
    | go mw _ => exact absurd (List.prefix_append _ _) (no _ mw)
  | @go l e w r mw c ih =>
    intro r2 e2 c2
    generalize g : cs w ++ l = l2 at c2
    cases c2 with
    | stop no => exact absurd (by rw [← g]; exact List.prefix_append _ _) (no _ mw)
    | @go l3 _ v r3 mv c3 =>
      have ev : w = v := F.pre_one mw mv (l := cs w ++ l) (List.prefix_append _ _) (by rw [g]; exact List.prefix_append _ _)
      subst ev
      obtain rfl := List.append_cancel_left g
      obtain ⟨e1, e2⟩ := ih c3
      exact ⟨by rw [e1], e2⟩
/-- cut from behind: the last word first -/
inductive CutE (ws : List Str) : List Nat → List Str → List Nat → Prop
  | stop {l : List Nat} : (∀ w ∈ ws, ¬ cs w <:+ l) → CutE ws l [] l
  | go {l e : List Nat} {w : Str} {r : List Str} : w ∈ ws → CutE ws l r e → CutE ws (l ++ cs w) (w :: r) e
theorem cutE_ex {ws : List Str} (h1 : ∀ w ∈ ws, 1 ≤ w.length) : ∀ (n : Nat) (l : List Nat), l.length ≤ n → ∃ r e, CutE ws l r e := by
  intro n
  induction n with
  | zero =>
    intro l hl
    refine ⟨[], l, .stop fun w mw p => ?_⟩
    have := p.length_le
    have h := h1 w mw
    rw [← cs_len] at h
    omega
  | succ n ih =>
    intro l hl
    by_cases h : ∃ w ∈ ws, cs w <:+ l
    · obtain ⟨w, mw, t, rfl⟩ := h
      have h := h1 w mw
      rw [← cs_len] at h
      rw [List.length_append] at hl
      obtain ⟨r, e, c⟩ := ih t (by omega)
      exact ⟨w :: r, e, .go mw c⟩
    · exact ⟨[], l, .stop fun w mw p => h ⟨w, mw, p⟩⟩
theorem cutE_text {ws : List Str} {l : List Nat} {r : List Str} {e : List Nat} (c : CutE ws l r e) : l = e ++ (r.reverse.map cs).flatten := by
  induction c with
  | stop _ => simp
  | go _ _ ih => rw [ih]; simp
theorem cut_text {ws : List Str} {l : List Nat} {r : List Str} {e : List Nat} (c : Cut ws l r e) : l = (r.map cs).flatten ++ e := by
  induction c with
  | stop _ => simp
  | go _ _ ih => rw [ih]; simp
theorem cut_mem {ws : List Str} {l : List Nat} {r : List Str} {e : List Nat} (c : Cut ws l r e) : ∀ w ∈ r, w ∈ ws := by
  induction c with
  | stop _ => intro w m; cases m
  | go mw _ ih =>
    intro v m
    rcases List.mem_cons.mp m with rfl | m
    · exact mw
    · exact ih v m
theorem cutE_end {ws : List Str} {l : List Nat} {r : List Str} {e : List Nat} (c : CutE ws l r e) : ∀ w ∈ ws, ¬ cs w <:+ e := by
  induction c with
  | stop no => exact no
  | go _ _ ih => exact ih
theorem cs_revS (s : Str) : cs (revS s) = (cs s).reverse := cs_rev s
theorem revS_rev (s : Str) : revS (revS s) = s := cs_inj (by rw [cs_revS, cs_revS, List.reverse_reverse])
theorem cutE_flip {ws fl : List Str} (hf : ∀ x, x ∈ fl ↔ ∃ w ∈ ws, x = revS w) {l : List Nat} {r : List Str} {e : List Nat} (c : CutE ws l r e) : Cut fl l.reverse (r.map revS) e.reverse := by
  induction c with
  | stop no =>
    refine .stop fun x mx p => ?_
    obtain ⟨w, mw, rfl⟩ := (hf x).mp mx
    rw [cs_revS] at p
    exact no w mw (List.reverse_prefix.mp p)
  | @go l e w r mw c ih =>
    rw [List.reverse_append, ← cs_revS]
    exact .go ((hf _).mpr ⟨w, mw, rfl⟩) ih
theorem cut_words {ws : List Str} (h1 : ∀ w ∈ ws, 1 ≤ w.length) : ∀ r : List Str, (∀ w ∈ r, w ∈ ws) → Cut ws (r.map cs).flatten r []
  | [], _ => .stop fun w mw p => by
    have z : (cs w).length ≤ 0 := p.length_le
    have h := h1 w mw
    rw [← cs_len] at h
    omega
  | w :: r, m => by
    have ih := cut_words h1 r fun v mv => m v (List.mem_cons_of_mem _ mv)
    show Cut ws (cs w ++ (r.map cs).flatten) _ _
    exact .go (m w (List.mem_cons_self ..)) ih
theorem cutE_words {ws : List Str} (h1 : ∀ w ∈ ws, 1 ≤ w.length) : ∀ r : List Str, (∀ w ∈ r, w ∈ ws) → CutE ws (r.reverse.map cs).flatten r []
  | [], _ => .stop fun w mw p => by
    have z : (cs w).length ≤ 0 := p.length_le
    have h := h1 w mw
    rw [← cs_len] at h
    omega
  | w :: r, m => by
    have ih := cutE_words h1 r fun v mv => m v (List.mem_cons_of_mem _ mv)
    have e : ((w :: r).reverse.map cs).flatten = (r.reverse.map cs).flatten ++ cs w := by simp
    rw [e]
    exact .go (m w (List.mem_cons_self ..)) ih
theorem cut_from (y : Str) (n : Nat) : cs (cutS y (some (n : Int)) none) = (cs y).drop n := by
  unfold cutS
  rw [cs_mk, HT.sIx_none, HT.sIx_nat]
  show ((cs y).drop (min n y.length)).take (y.length - min n y.length) = _
  have l : (cs y).length = y.length := cs_len y
  rcases Nat.le_total n y.length with g | g
  · rw [Nat.min_eq_left g]
    exact List.take_of_length_le (by rw [List.length_drop]; omega)
  · rw [Nat.min_eq_right g, List.drop_of_length_le (by omega), List.drop_of_length_le (by omega), List.take_nil]
theorem cut_to (y : Str) (n : Nat) : cs (cutS y none (some (n : Int))) = (cs y).take n := by
  unfold cutS
  rw [cs_mk, HT.sIx_none, HT.sIx_nat]
  show ((cs y).drop 0).take (min n y.length - 0) = _
  have l : (cs y).length = y.length := cs_len y
  rw [List.drop_zero, Nat.sub_zero]
  rcases Nat.le_total n y.length with g | g
  · rw [Nat.min_eq_left g]
  · rw [Nat.min_eq_right g, List.take_of_length_le (by omega), List.take_of_length_le (by omega)]
end XFd

/-! where the words of a book stand in a text -/
namespace B17
open PySem PySem.Spec PyProof.Rows L2 XSt NX XB XE XFd
open PySem.W (Frag)
abbrev sWordsAt : Stmt := top 34
abbrev sPlacesIn : Stmt := top 35
abbrev sWordsAhead : Stmt := top 36
abbrev sRowFrom : Stmt := top 37
/-- words of a book and a text that it may be asked about -/
structure Asks (ws : List Str) (y : Str) : Prop where
  free : Free2 ws
  many : ws.length ≤ 400
  len : y.length ≤ 4000
theorem Asks.few {ws : List Str} {y : Str} (A : Asks ws y) : (foundD y ws).length ≤ 1600000 := by
  have h := found_len y ws
  have h2 : ws.length * y.length ≤ 400 * 4000 := Nat.mul_le_mul A.many A.len
  omega
theorem found_snoc (y : Str) (ws : List Str) (k : Str) : foundD y (ws ++ [k]) = foundD y ws ++ (occs y k).map fun i => (i, k) := by
  unfold foundD
  rw [List.flatMap_append]
  simp
theorem found_part {y : Str} {us ws : List Str} (h : us <+: ws) : (foundD y us).length ≤ (foundD y ws).length := by
  obtain ⟨vs, rfl⟩ := h
  unfold foundD
  rw [List.flatMap_append, List.length_append]
  omega
def spPlaces (K : Frag) : Sp := fun vs H Q _ => ∃ (p : Addr) (ws : List Str) (y : Str), vs = [.ref p, .str y] ∧ SqT K H p (ws.map V.str) ∧ Asks ws y ∧ ∀ d H', Ext H H' → H' d = some (.dK (kvF (foundD y ws))) → Q (.ref d) H'
section
variable {P : Program} {w : World} {K : Frag} {mg : Str → Option Value} {base : Heap} {f fB fT fP C cB cT : Addr} {fd dB dT dP : FuncData}
theorem scWordsAt : FnScope ["book", "text"] ["book", "text"] (defScope sWordsAt) := ⟨rfl, rfl, rfl, by decide +kernel, rfl, by decide +kernel, by decide +kernel⟩
theorem scPlacesIn : FnScope ["words", "text", "found", "word", "at"] ["words", "text"] (defScope sPlacesIn) := ⟨rfl, rfl, rfl, by decide +kernel, rfl, by decide +kernel, by decide +kernel⟩
theorem scWordsAhead : FnScope ["found", "at"] ["found"] (defScope sWordsAhead) := ⟨rfl, rfl, rfl, by decide +kernel, rfl, by decide +kernel, by decide +kernel⟩
theorem scRowFrom : FnScope ["found", "start", "row", "at"] ["found", "start"] (defScope sRowFrom) := ⟨rfl, rfl, rfl, by decide +kernel, rfl, by decide +kernel, by decide +kernel⟩
/-- a place that is not yet there -/
theorem place_new {y : Str} {ws : List Str} (F : Free2 ws) {i k : Nat} {w : Str} (e : ws[i]? = some w) {m : Nat} (hk : hit y w k = true) (mk : m ≤ k) :
    valV (kvF (foundD y (ws.take i) ++ (occN y w m).map fun j => (j, w))) (kI (k : Int)) = none := by
  refine val_none fun v mv => ?_
  have mw := List.mem_of_getElem? e
  rcases List.mem_append.mp mv with mv | mv
  · have h1 : ∀ x ∈ ws.take i, 1 ≤ x.length := fun x mx => F.one x (List.mem_of_mem_take mx)
    obtain ⟨m2, h2⟩ := (mem_found h1).mp mv
    have ev : v = w := F.pre_one (List.mem_of_mem_take m2) mw (of_decide_eq_true h2) (of_decide_eq_true hk)
    subst ev
    obtain ⟨li, ei⟩ := List.getElem?_eq_some_iff.mp e
    obtain ⟨j, hj, ej⟩ := List.mem_iff_getElem.mp m2
    rw [List.length_take] at hj
    rw [List.getElem_take] at ej
    exact List.pairwise_iff_getElem.mp F.nd j i (by omega) li (by omega) (ej.trans ei.symm)
  · obtain ⟨j, mj, ej⟩ := List.mem_map.mp mv
    have z : j = k := congrArg Prod.fst ej
    unfold occN at mj
    rw [List.mem_filter, List.mem_range] at mj
    omega
theorem ok_places (F : FnP K "places_in" sPlacesIn f fd) : FnOk P w K mg base CX0 1 f fd ["words", "text"] (spPlaces K) := by
  refine F.ok scPlacesIn (fun vs H Q E h => ?_) (fun cdv A outer s H vs Q E hr h => ?_)
  · obtain ⟨p, ws, y, rfl, _⟩ := h
    rfl
  · obtain ⟨p, ws, y, rfl, sq, as, q⟩ := h
    have hs : sizeLine = 16777216 := sizeLine_eq
    have FW := as.free
    refine ⟨_, PSs.nox (pss_cons (ps_set (i := 2) scPlacesIn.nd rfl (.inl rfl) pe_dnewK)
      (pss_cons (ps_for PassesOwn.never rfl (pi_tup (pv 0)) (pg_name (i := 3) scPlacesIn.nd rfl (.inl rfl))
        (pss_cons (ps_set (i := 4) scPlacesIn.nd rfl (.inl rfl) (pe_bm PySem.F.plainAttrs_str PySem.F.slot_str_find PySem.F.type_str_find mt_find (pv 1) (pa_cons (pv 3) pa_nil)))
        (pss_one (ps_while PassesOwn.never (pt_cmpR op_ge (pv 4) pe_int (nomark _)) (pss_cons (ps_dput (hu_of hr) (pv 2) (pv 4) (pv 3) rfl)
          (pss_one (ps_set (i := 4) scPlacesIn.nd rfl (.inl rfl) (pe_bm PySem.F.plainAttrs_str PySem.F.slot_str_find PySem.F.type_str_find mt_find3 (pv 1) (pa_cons (pv 3) (pa_cons (pe_op op_add (pv 4) pe_int) pa_nil))))))))))
      (pss_one (ps_ret (pv 2))))), ?_⟩
    intro d hd
    have xa := (Ext.refl H).new hd (o := .dK [])
    have ea : (upd H d (.dK [])) d = some (.dK []) := upd_same
    generalize upd H d (.dK []) = H1 at xa ea ⊢
    have put : ∀ Hx o, Ext H Hx → Ext H (upd Hx d o) := fun Hx o x b ob e => by
      rw [upd_ne (ne_of_none e hd)]
      exact x b ob e
    refine ⟨_, rfl, p, rfl, ⟨_, sqT_ext xa sq⟩, ?_⟩
    refine for_tup (xs := ws.map V.str) (fun i σ H2 => ∃ o3 o4, σ = [some (.ref p), some (.str y), some (.ref d), o3, o4] ∧ Ext H H2 ∧ H2 d = some (.dK (kvF (foundD y (ws.take i))))) ⟨_, _, rfl, xa, ea⟩ (fun i σ H2 _ z => by obtain ⟨_, _, _, x, _⟩ := z; exact sqT_ext x sq) ?_ ?_
    · rintro i v σ H2 ev ⟨o3, o4, rfl, x2, e2⟩
      rw [List.getElem?_map] at ev
      cases gi : ws[i]? with
      | none => rw [gi] at ev; cases ev
      | some k =>
        rw [gi] at ev
        obtain rfl : V.str k = v := Option.some.inj ev
        have mk := List.mem_of_getElem? gi
        have k1 := FW.one k mk
        obtain ⟨li, ei⟩ := List.getElem?_eq_some_iff.mp gi
        have tk : ws.take (i + 1) = ws.take i ++ [k] := by rw [List.take_succ, gi]; rfl
        refine ⟨_, rfl, rfl, _, rfl, _, _, rfl, rfl, ?_⟩
        rw [find_0 k1]
        refine ⟨fun n σ2 H3 => ∃ m, m ≤ y.length ∧ n = y.length - m ∧ σ2 = [some (.ref p), some (.str y), some (.ref d), some (.str k), some (.int (nextF y k m))] ∧ Ext H H3 ∧ H3 d = some (.dK (kvF (foundD y (ws.take i) ++ (occN y k m).map fun j => (j, k)))), ⟨_, 0, Nat.zero_le _, rfl, rfl, x2, by rw [e2, occN_zero]; simp⟩, ?_⟩
        rintro n σ2 H3 ⟨m, ml, rfl, rfl, x3, e3⟩
        refine ⟨_, rfl, _, _, rfl, rfl, _, rfl, ?_⟩
        rcases next_cases (z := y) k1 m with ⟨c, ec, mc, hc, noc⟩ | ⟨en, no⟩
        · rw [ec]
          have lc := hit_le k1 hc
          rw [decide_eq_true (show (0 : Int) ≤ (c : Int) by omega)]
          have new := place_new FW gi (m := m) hc mc
          have lenD : (kvF (foundD y (ws.take i) ++ (occN y k m).map fun j => (j, k))).length < sizeLine := by
            rw [kvF_len, List.length_append, List.length_map]
            have l1 := found_part (y := y) (List.take_prefix i ws)
            have l2 := as.few
            have l3 : (occN y k m).length ≤ m := by
              have z := List.length_filter_le (hit y k) (List.range m)
              rw [List.length_range] at z
              exact z
            have l4 := as.len
            omega
          refine iteT ⟨fun σ' H' => σ' = [some (.ref p), some (.str y), some (.ref d), some (.str k), some (.int (nextF y k (c + 1)))] ∧ Ext H H' ∧ H' d = some (.dK (kvF (foundD y (ws.take i) ++ (occN y k (c + 1)).map fun j => (j, k)))),
            fun σ' H' z => ⟨y.length - (c + 1), by omega, c + 1, by omega, rfl, z⟩, ?_⟩
          refine ⟨_, rfl, _, rfl, _, rfl, d, _, rfl, DPut.k (k := kI (c : Int)) e3 lenD, ?_⟩
          refine ⟨_, rfl, rfl, _, rfl, _, rfl, _, _, rfl, rfl, _, _, _, rfl, rfl, ?_⟩
          have e1 : Txt.find3 y k ((c : Int) + 1) = nextF y k (c + 1) := find_3 k1 (c + 1)
          rw [e1]
          refine ⟨rfl, put _ _ x3, ?_⟩
          rw [upd_same, putK_new _ new, occN_next mc hc noc]
          unfold kvF
          simp only [List.map_append, List.append_assoc, List.map_cons, List.map_nil]
        · rw [en]
          refine iteF ⟨_, _, rfl, x3, ?_⟩
          rw [e3, tk, found_snoc, occN_end k1 ml no]
    · rintro σ H2 ⟨o3, o4, rfl, x2, e2⟩
      rw [List.length_map, List.take_length] at e2
      exact ⟨_, rfl, q d _ x2 e2⟩
end
end B17

/-! rows of words along a text -/
namespace B17
open PySem PySem.Spec PyProof.Rows L2 XSt NX XB XE XFd XFl XF
open PySem.W (Frag)
/-- a book and a text of its letters -/
def BT (K : Frag) (C : Addr) (H : Hp) (b : Addr) (ws : List Str) (y : Str) : Prop := ∃ x, BookAt H b C x ws ∧ GoodL x ∧ Asked K H (.str y) ∧ textV x 4000 (.str y) = true ∧ Asks ws y
theorem BT.ext {K : Frag} {C : Addr} {H H' : Hp} {b : Addr} {ws : List Str} {y : Str} (h : BT K C H b ws y) (k : Ext H H') : BT K C H' b ws y := by
  obtain ⟨x, bk, gl, ask, ok, as⟩ := h
  exact ⟨x, bk.ext k, gl, ask, ok, as⟩
def spWordsAt (K : Frag) (C : Addr) : Sp := fun vs H Q _ => ∃ (b : Addr) (ws : List Str) (y : Str), vs = [.ref b, .str y] ∧ BT K C H b ws y ∧ ∀ d H', Ext H H' → H' d = some (.dK (kvF (foundD y ws))) → Q (.ref d) H'
def spRowFrom : Sp := fun vs H Q _ => ∃ (d : Addr) (i : Nat) (ws : List Str) (y : Str), vs = [.ref d, .int (i : Int)] ∧ H d = some (.dK (kvF (foundD y ws))) ∧ Asks ws y ∧ i ≤ y.length ∧
  ∀ r R e H', Ext H H' → Cut ws ((cs y).drop i) R e → H' r = some (.lst (R.map V.str)) → Q (.ref r) H'
def spLettersIn : Sp := fun vs H Q _ => ∃ (r : Addr) (R : List Str), vs = [.ref r] ∧ H r = some (.lst (R.map V.str)) ∧ R.length ≤ 1000000 ∧ (∀ w ∈ R, w.length ≤ 4000) ∧ ∀ H', Ext H H' → Q (.int ((R.map cs).flatten.length : Int)) H'
def spAhead : Sp := fun vs H Q _ => ∃ (d : Addr) (ws : List Str) (y : Str), vs = [.ref d] ∧ H d = some (.dK (kvF (foundD y ws))) ∧ Asks ws y ∧ ∀ e H', Ext H H' → H' e = some (.dK (kvF (aheadD y ws))) → Q (.ref e) H'
section
variable {P : Program} {w : World} {K : Frag} {mg : Str → Option Value} {base : Heap} {f fB fT fP C cB cT : Addr} {fd dB dT dP : FuncData}
theorem ok_words_at (F : FnP K "words_at" sWordsAt f fd) (B : BookK K C) (FB : FnOk P w K mg base (L2.CX P w) 1 fB dB ["book"] (spCheckBookX K C cB)) (gB : mg "check_book" = some (.ref fB)) (kB : PySem.W.keepIn K (.ref fB) = true) (bB : Binds K dB ["book"] [])
    (FT : FnOk P w K mg base (L2.CX P w) 4 fT dT ["letters", "text"] (spCheckTextX K cT)) (gT : mg "check_text" = some (.ref fT)) (kT : PySem.W.keepIn K (.ref fT) = true) (bT : Binds K dT ["letters", "text"] [])
    (FP : FnOk P w K mg base CX0 1 fP dP ["words", "text"] (spPlaces K)) (gP : mg "places_in" = some (.ref fP)) (kP : PySem.W.keepIn K (.ref fP) = true) (bP : Binds K dP ["words", "text"] [])
    (lt : ∃ p g fd, PropOf K C "letters" p g ∧ FnOk P w K mg base CX0 1 g fd ["self"] (spLetters C) ∧ Binds K fd ["self"] []) (wd : ∃ p g fd, PropOf K C "words" p g ∧ FnOk P w K mg base CX0 1 g fd ["self"] (spWords C) ∧ Binds K fd ["self"] []) :
    FnOk P w K mg base CX0 5 f fd ["book", "text"] (spWordsAt K C) := by
  obtain ⟨p3, g3, d3, P3, F3, b3⟩ := lt
  obtain ⟨p4, g4, d4, P4, F4, b4⟩ := wd
  have FB0 : FnOk P w K mg base CX0 1 fB dB ["book"] (fun vs H Q _ => ∃ b x ws, vs = [.ref b] ∧ BookAt H b C x ws ∧ Q .non H) := XC0.calm FB fun vs H Q E h => by
    obtain ⟨b, x, ws, rfl, bk, q⟩ := h
    exact ⟨.ref b, rfl, .inr ⟨b, x, ws, rfl, bk, q⟩⟩
  have FT0 : FnOk P w K mg base CX0 4 fT dT ["letters", "text"] (fun vs H Q _ => ∃ x y, vs = [.str x, .str y] ∧ GoodL x ∧ Asked K H (.str y) ∧ textV x 4000 (.str y) = true ∧ ∀ H', Ext H H' → Q .non H') := XC0.calm FT fun vs H Q E h => by
    obtain ⟨x, y, rfl, gl, ask, ok, q⟩ := h
    exact ⟨x, _, rfl, gl.ask, ask, gl.2.2, fun _ => q, fun bad => by rw [ok] at bad; cases bad⟩
  refine F.ok scWordsAt (fun vs H Q E h => ?_) (fun cdv A outer s H vs Q E hr h => ?_)
  · obtain ⟨b, ws, y, rfl, _⟩ := h
    rfl
  · obtain ⟨b, ws, y, rfl, ⟨x, bk, gl, ask, ok, as⟩, q⟩ := h
    refine ⟨_, PSs.nox (pss_cons (ps_expr (pe_call FB0 (hr.mono (by decide)) (by rfl) gB kB bB .nil pass0 (pa_cons (pv 0) pa_nil)))
      (pss_cons (ps_expr (pe_call FT0 (hr.mono (by decide)) (by rfl) gT kT bT .nil pass0 (pa_cons (pe_prop (pv 0) B.cls P3 F3 (hr.mono (by decide)) b3 .nil pass0 rfl) (pa_cons (pv 1) pa_nil))))
      (pss_one (ps_ret (pe_call FP (hr.mono (by decide)) (by rfl) gP kP bP .nil pass0 (pa_cons (pe_prop (pv 0) B.cls P4 F4 (hr.mono (by decide)) b4 .nil pass0 rfl) (pa_cons (pv 1) pa_nil))))))), ?_⟩
    obtain ⟨dx, p1, d1, h1, h2, h3⟩ := id bk
    refine ⟨_, rfl, b, x, ws, rfl, bk, ?_⟩
    refine ⟨_, rfl, b, dx, _, rfl, h1, b, x, ws, rfl, bk, _, rfl, x, y, rfl, gl, ask, ok, fun H1 k1 => ?_⟩
    have bk2 := bk.ext k1
    obtain ⟨dx2, p2, d2, i1, i2, i3⟩ := id bk2
    exact ⟨_, rfl, b, dx2, _, rfl, i1, b, x, ws, rfl, bk2, fun p ep => ⟨_, rfl, p, ws, y, rfl, SqT.of ep, as, fun d H2 k2 ed => q d H2 (k1.trans k2) ed⟩⟩
theorem ok_row_from (F : FnP K "row_from" sRowFrom f fd) (M : Free mg) : FnOk P w K mg base CX0 1 f fd ["found", "start"] spRowFrom := by
  refine F.ok scRowFrom (fun vs H Q E h => ?_) (fun cdv A outer s H vs Q E hr h => ?_)
  · obtain ⟨d, i, ws, y, rfl, _⟩ := h
    rfl
  · obtain ⟨d, i0, ws, y, rfl, ed, as, i0l, q⟩ := h
    have FW := as.free
    have hs : sizeLine = 16777216 := sizeLine_eq
    have yl := as.len
    refine ⟨_, PSs.nox (pss_cons (ps_set (i := 2) scRowFrom.nd rfl (.inl rfl) (pe_lst pa_nil))
      (pss_cons (ps_set (i := 3) scRowFrom.nd rfl (.inl rfl) (pv 1))
      (pss_cons (ps_while PassesOwn.never (pt_cmp (pc_din (hu_of hr) (pv 3) (pv 0)) rfl)
        (pss_cons (ps_expr (pe_bm PySem.F.plainAttrs_list PySem.F.slot_list_append PySem.F.type_list_append mt_append (pv 2) (pa_cons (pe_dget (hu_of hr) (pv 0) (pv 3) (fun _ _ => rfl)) pa_nil)))
        (pss_one (ps_set (i := 3) scRowFrom.nd rfl (.inl rfl) (pe_op op_add (pv 3) (pe_callB call_len (by rfl) M.len PySem.boot_len (pa_cons (pe_dget (hu_of hr) (pv 0) (pv 3) (fun _ _ => rfl)) pa_nil)))))))
      (pss_one (ps_ret (pv 2)))))), ?_⟩
    refine ⟨by show 0 ≤ sizeLine; decide, fun r hr0 => ?_⟩
    have xa := (Ext.refl H).new hr0 (o := .lst [])
    have ea : (upd H r (.lst [])) r = some (.lst []) := upd_same
    generalize upd H r (.lst []) = H1 at xa ea ⊢
    refine ⟨_, rfl, ?_⟩
    obtain ⟨R, e, ct⟩ := cut_ex FW.one _ ((cs y).drop i0) (Nat.le_refl _)
    refine ⟨fun n σ2 H3 => ∃ done rest i, R = done ++ rest ∧ Cut ws ((cs y).drop i) rest e ∧ i ≤ y.length ∧ done.length ≤ i ∧ n = rest.length ∧ σ2 = [some (.ref d), some (.int (i0 : Int)), some (.ref r), some (.int (i : Int))] ∧ Ext H H3 ∧ H3 r = some (.lst (done.map V.str)),
      ⟨_, [], R, i0, rfl, ct, i0l, Nat.zero_le _, rfl, rfl, xa, ea⟩, ?_⟩
    rintro n σ2 H3 ⟨done, rest, i, eR, c, il, dl, rfl, rfl, x3, e3⟩
    generalize gl : (cs y).drop i = l at c
    refine ⟨_, rfl, _, rfl, d, _, rfl, DGet.k (k := kI (i : Int)) (x3 _ _ ed), ?_⟩
    cases c with
    | stop no =>
      have v := at_none (z := y) FW (i := i) (by rw [gl]; exact no)
      rw [show (valV (kvF (foundD y ws)) (kI (i : Int))).isSome = false by rw [v]; rfl]
      rw [List.append_nil] at eR
      refine ⟨_, rfl, iteF ⟨_, rfl, q r R e H3 x3 ct ?_⟩⟩
      rw [eR]
      exact e3
    | @go l2 _ k rest2 mk c2 =>
      have pk : cs k <+: (cs y).drop i := by rw [gl]; exact List.prefix_append _ _
      have v := at_some (z := y) FW (i := i) mk pk
      have k1 := FW.one k mk
      have le := hit_le k1 (decide_eq_true pk : hit y k i = true)
      have dr : (cs y).drop (i + k.length) = l2 := by
        rw [← List.drop_drop, gl, ← cs_len k, List.drop_left]
      rw [show (valV (kvF (foundD y ws)) (kI (i : Int))).isSome = true by rw [v]; rfl]
      refine ⟨_, rfl, iteT ⟨fun σ' H' => σ' = [some (.ref d), some (.int (i0 : Int)), some (.ref r), some (.int ((i + k.length : Nat) : Int))] ∧ Ext H H' ∧ H' r = some (.lst ((done ++ [k]).map V.str)),
        fun σ' H' z => ⟨rest2.length, by simp, done ++ [k], rest2, i + k.length, by rw [eR]; simp, by rw [dr]; exact c2, le, by simp; omega, rfl, z⟩, ?_⟩⟩
      refine ⟨_, rfl, .inl ⟨rfl, _, SqL.of e3⟩, _, rfl, _, rfl, d, .str k, rfl, by rw [← v]; exact DGet.k (k := kI (i : Int)) (x3 _ _ ed), ?_⟩
      have lens : done.length ≤ 4000 := by omega
      refine ⟨r, _, _, rfl, rfl, e3, by rw [List.length_map]; omega, ?_⟩
      have e4 : (upd H3 r (.lst (done.map V.str ++ [.str k]))) r = some (.lst (done.map V.str ++ [.str k])) := upd_same
      have x4 : Ext H (upd H3 r (.lst (done.map V.str ++ [.str k]))) := fun b o eb => by
        rw [upd_ne (ne_of_none eb hr0)]
        exact x3 b o eb
      generalize upd H3 r (.lst (done.map V.str ++ [.str k])) = H4 at e4 x4 ⊢
      refine ⟨_, rfl, _, rfl, _, rfl, d, .str k, rfl, by rw [← v]; exact DGet.k (k := kI (i : Int)) (x4 _ _ ed), _, k.length, rfl, ⟨by omega, rfl⟩, _, _, rfl, rfl, ?_⟩
      have z : (i : Int) + (k.length : Int) = ((i + k.length : Nat) : Int) := by omega
      refine ⟨by show [_, _, _, some (V.int ((i : Int) + (k.length : Int)))] = _; rw [z], x4, ?_⟩
      rw [e4, List.map_append]
      rfl
theorem map_len (R : List Str) : ((R.map V.str).filter fun _ => true).map (fun v => match v with | .str t => V.int (t.length : Int) | v => v) = (R.map fun t => (t.length : Int)).map V.int := by
  rw [List.filter_eq_self.mpr (fun _ _ => rfl), List.map_map, List.map_map]
  rfl
theorem sum_len : ∀ R : List Str, (R.map fun t => (t.length : Int)).sum = ((R.map cs).flatten.length : Int)
  | [] => rfl
  | t :: R => by
    have ih := sum_len R
    rw [List.map_cons, List.sum_cons, ih, List.map_cons, List.flatten_cons, List.length_append, cs_len]
    omega
theorem ok_words_ahead (F : FnP K "words_ahead" sWordsAhead f fd) (M : Free mg) : FnOk P w K mg base CX0 1 f fd ["found"] spAhead := by
  refine F.ok scWordsAhead (fun vs H Q E h => ?_) (fun cdv A outer s H vs Q E hr h => ?_)
  · obtain ⟨d, ws, y, rfl, _⟩ := h
    rfl
  · obtain ⟨d, ws, y, rfl, ed, as, q⟩ := h
    have hs : sizeLine = 16777216 := sizeLine_eq
    have FW := as.free
    have few := as.few
    refine ⟨_, PSs.nox (pss_one (ps_ret (pe_lock (pe_dc (own := [("at", 1)]) (g := gName 1) (tt := tYes) (tk := tOp (rI0 fun i j => .int (i + j)) (tVar 1) (tCB (fun xs H Q => ∃ x n, xs = [x] ∧ LenV K x H n ∧ Q (.int (n : Int)) H) (tCons (tDGet (tVar 0) (tVar 1)) tNil))) (tv := tDGet (tVar 0) (tVar 1)) rfl scWordsAhead.nd (pi_keys (pv 0)) (blkOk_by (N := ["found", "at"]) (sc := defScope sWordsAhead) (by decide +kernel))
        (fun _ _ _ _ _ => pg_name (i := 1) scWordsAhead.nd rfl (Or.inl rfl)) (fun _ _ _ _ _ => pts_nil)
        (fun _ _ _ _ _ => by exact pe_op op_add (pv 1) (pe_callB call_len (by rfl) M.len PySem.boot_len (pa_cons (pe_dget (hu_of hr) (pv 0) (pv 1) (fun _ _ => rfl)) pa_nil)))
        (fun _ _ _ _ _ => by exact pe_dget (hu_of hr) (pv 0) (pv 1) (fun _ _ => rfl)))))), ?_⟩
    refine ⟨d, _, ed, (by trivial), fun od => ?_⟩
    have ef : (upd H d (.frz od (.dK (kvF (foundD y ws))))) d = some (.frz od (.dK (kvF (foundD y ws)))) := upd_same
    refine ⟨_, rfl, d, od, rfl, .inl ⟨_, ef, fun D hD => ?_⟩⟩
    have nDd : D ≠ d := fun z => by
      rw [z, ef] at hD
      cases hD
    have hD0 : H D = none := by
      rw [upd_ne nDd] at hD
      exact hD
    refine walk_it walk_keys (fun i Hx => Hx d = some (.frz od (.dK (kvF (foundD y ws)))) ∧ Hx D = some (.dK (kvF (((foundD y ws).take i).map endP))) ∧ ∀ b o, H b = some o → b ≠ d → Hx b = some o)
      ⟨by rw [upd_ne nDd.symm]; exact ef, upd_same, fun b o e nb => by rw [upd_ne (ne_of_none e hD0), upd_ne nb]; exact e⟩ (fun i Hx _ z => z.1) ?_ ?_
    · rintro i v Hx Hy hi ⟨f1, f2, f3⟩ ⟨rfl, k, u, ek, rfl⟩
      unfold kvF at ek
      rw [List.getElem?_map] at ek
      cases gp : (foundD y ws)[i]? with
      | none => rw [gp] at ek; cases ek
      | some p =>
        rw [gp] at ek
        have e2 := Option.some.inj ek
        obtain rfl : kI (p.1 : Int) = k := congrArg Prod.fst e2
        obtain rfl : V.str p.2 = u := congrArg Prod.snd e2
        have mp := List.mem_of_getElem? gp
        obtain ⟨mw, hp⟩ := (mem_found FW.one).mp mp
        have v := at_some (z := y) FW (i := p.1) mw (of_decide_eq_true hp)
        have le := hit_le (FW.one _ mw) hp
        have yl := as.len
        have dg : DGet Hy d (V.int (p.1 : Int)) (some (.str p.2)) := by
          rw [← v]
          exact .inl ⟨_, kI (p.1 : Int), .inr ⟨od, f1⟩, rfl, rfl⟩
        have li : i < (foundD y ws).length := (List.getElem?_eq_some_iff.mp gp).1
        refine ⟨rfl, ?_⟩
        dsimp only [tYes]
        refine iteT ⟨_, rfl, _, rfl, _, rfl, d, .str p.2, rfl, dg, _, p.2.length, rfl, ⟨by omega, rfl⟩, _, _, rfl, rfl, _, rfl, _, rfl, d, .str p.2, rfl, dg, _, kI ((p.1 + p.2.length : Nat) : Int), ?_, f2, ?_, ?_, ?_, ?_⟩
        · show V.int ((p.1 : Int) + (p.2.length : Int)) = V.int _
          rw [show (p.1 : Int) + (p.2.length : Int) = ((p.1 + p.2.length : Nat) : Int) by omega]
        · rw [kvF_len, List.length_map, List.length_take]
          omega
        · rw [upd_ne nDd.symm]
          exact f1
        · have new : valV (kvF (((foundD y ws).take i).map endP)) (kI ((p.1 + p.2.length : Nat) : Int)) = none := by
            refine val_none fun w mv => ?_
            obtain ⟨⟨i2, w2⟩, m2, e3⟩ := List.mem_map.mp mv
            have e4 : i2 + w2.length = p.1 + p.2.length := congrArg Prod.fst e3
            refine ahead_new FW (List.mem_of_mem_take m2) mp (fun e5 => ?_) e4
            obtain ⟨j, hj, ej⟩ := List.mem_iff_getElem.mp m2
            rw [List.length_take] at hj
            rw [List.getElem_take] at ej
            exact List.pairwise_iff_getElem.mp (found_nodup (z := y) FW.nd) j i (by omega) li (by omega) (ej.trans (e5.trans (List.getElem?_eq_some_iff.mp gp).2.symm))
          rw [upd_same, putK_new _ new, List.take_succ, gp]
          unfold kvF
          simp only [List.map_append, Option.toList_some, List.map_cons, List.map_nil]
          rfl
        · intro b o e nb
          rw [upd_ne (ne_of_none e hD0)]
          exact f3 b o e nb
    · rintro Hx ⟨f1, f2, f3⟩
      have ln : (kvF (foundD y ws)).length = (foundD y ws).length := kvF_len _
      rw [ln, List.take_length] at f2
      refine ⟨f1, q D _ (fun b o e => ?_) (by rw [upd_ne nDd]; exact f2)⟩
      by_cases z : b = d
      · subst z
        rw [ed] at e
        obtain rfl := Option.some.inj e
        exact upd_same
      · rw [upd_ne z]
        exact f3 b o e z
end
end B17

/-! a text cut from the front and from behind -/
namespace B17
open PySem PySem.Spec PyProof.Rows L2 XSt NX XB XE XFd XFl XF
open PySem.W (Frag)
/-- a row and a text, told as a pair -/
def PairAt (H : Hp) (t : Addr) (R : List Str) (e : Str) : Prop := ∃ r, H t = some (.tup [.ref r, .str e]) ∧ H r = some (.tup (R.map V.str))
def PairBack (H : Hp) (t : Addr) (e : Str) (R : List Str) : Prop := ∃ r, H t = some (.tup [.str e, .ref r]) ∧ H r = some (.tup (R.map V.str))
def spCutLeft (K : Frag) (C : Addr) : Sp := fun vs H Q _ => ∃ (b : Addr) (ws : List Str) (y : Str), vs = [.ref b, .str y] ∧ BT K C H b ws y ∧
  ∀ t R e H', Ext H H' → Cut ws (cs y) R (cs e) → PairAt H' t R e → Q (.ref t) H'
def spCutRight (K : Frag) (C : Addr) : Sp := fun vs H Q _ => ∃ (b : Addr) (ws : List Str) (y : Str), vs = [.ref b, .str y] ∧ BT K C H b ws y ∧
  ∀ t R e H', Ext H H' → CutE ws (cs y) R (cs e) → PairBack H' t e R.reverse → Q (.ref t) H'
section
variable {P : Program} {w : World} {K : Frag} {mg : Str → Option Value} {base : Heap} {f C : Addr} {fd : FuncData}
theorem row_len {ws : List Str} {l : List Nat} {R : List Str} {e : List Nat} (h1 : ∀ w ∈ ws, 1 ≤ w.length) (c : Cut ws l R e) : R.length ≤ l.length := by
  induction c with
  | stop _ => exact Nat.zero_le _
  | @go l e w r mw _ ih =>
    have h := h1 w mw
    rw [← cs_len] at h
    rw [List.length_append, List.length_cons]
    omega
end
end B17

/-! the number of ways: beginnings that no word ends, ends that no word begins, places of words -/
namespace XWy
open PySem PySem.Spec PyProof.Rows L2 XSt NX XFd
def shutB (ws : List Str) (l : List Nat) : Bool := ws.any fun w => decide (cs w <:+ l)
def openB (ws : List Str) (l : List Nat) : Bool := ws.any fun w => decide (cs w <+: l)
def headsL (ws : List Str) (l : List Nat) : List Nat := (List.range (l.length + 1)).filter fun i => !shutB ws (l.take i)
def tailsL (ws : List Str) (l : List Nat) : List Nat := (List.range (l.length + 1)).filter fun i => !openB ws (l.drop i)
theorem shut_iff {ws : List Str} {l : List Nat} : shutB ws l = true ↔ ∃ w ∈ ws, cs w <:+ l := by
  unfold shutB
  rw [List.any_eq_true]
  exact ⟨fun ⟨w, m, h⟩ => ⟨w, m, of_decide_eq_true h⟩, fun ⟨w, m, h⟩ => ⟨w, m, decide_eq_true h⟩⟩
theorem open_iff {ws : List Str} {l : List Nat} : openB ws l = true ↔ ∃ w ∈ ws, cs w <+: l := by
  unfold openB
  rw [List.any_eq_true]
  exact ⟨fun ⟨w, m, h⟩ => ⟨w, m, of_decide_eq_true h⟩, fun ⟨w, m, h⟩ => ⟨w, m, decide_eq_true h⟩⟩
theorem split_len {α : Type} (p : α → Bool) : ∀ l : List α, (l.filter fun x => !p x).length + (l.filter p).length = l.length
  | [] => rfl
  | a :: l => by
    have ih := split_len p l
    cases h : p a
    · rw [List.filter_cons_of_pos (by rw [h]; rfl), List.filter_cons_of_neg (by rw [h]; exact Bool.false_ne_true), List.length_cons, List.length_cons]
      omega
    · rw [List.filter_cons_of_neg (by rw [h]; exact Bool.false_ne_true), List.filter_cons_of_pos h, List.length_cons, List.length_cons]
      omega
theorem len_of {α : Type} [DecidableEq α] {l m : List α} (dl : l.Nodup) (dm : m.Nodup) (h : ∀ x, x ∈ l ↔ x ∈ m) : l.length = m.length := ((List.perm_ext_iff_of_nodup dl dm).mpr h).length_eq
theorem heads_found {ws : List Str} (F : Free2 ws) (z : Str) : (headsL ws (cs z)).length + (foundD z ws).length = z.length + 1 := by
  have a := split_len (fun i => shutB ws ((cs z).take i)) (List.range ((cs z).length + 1))
  rw [List.length_range, cs_len] at a
  have b : ((List.range (z.length + 1)).filter fun i => shutB ws ((cs z).take i)).length = ((foundD z ws).map fun p => p.1 + p.2.length).length := by
    refine len_of (List.nodup_range.filter _) ?_ fun e => ?_
    · exact List.pairwise_map.mpr (List.Pairwise.imp_of_mem (fun ma mb ne => ahead_new F ma mb ne) (found_nodup F.nd))
    · rw [List.mem_filter, List.mem_range, shut_iff, List.mem_map]
      constructor
      · rintro ⟨le, w, mw, h⟩
        have m := (mem_ahead F (e := e) (w := w) (by omega)).mpr ⟨mw, h⟩
        obtain ⟨p, mp, ep⟩ := List.mem_map.mp m
        exact ⟨p, mp, congrArg Prod.fst ep⟩
      · rintro ⟨p, mp, rfl⟩
        obtain ⟨m1, h1⟩ := (mem_found F.one).mp mp
        have l1 := hit_le (F.one _ m1) h1
        refine ⟨by omega, p.2, m1, ?_⟩
        exact ((mem_ahead F (e := p.1 + p.2.length) (w := p.2) l1).mp (List.mem_map.mpr ⟨p, mp, rfl⟩)).2
  rw [b, List.length_map] at a
  unfold headsL
  rw [cs_len]
  exact a
theorem start_new {z : Str} {ws : List Str} (F : Free2 ws) {p q : Nat × Str} (mp : p ∈ foundD z ws) (mq : q ∈ foundD z ws) (ne : p ≠ q) : p.1 ≠ q.1 := by
  intro e
  obtain ⟨m1, h1⟩ := (mem_found F.one).mp mp
  obtain ⟨m2, h2⟩ := (mem_found F.one).mp mq
  have h1 := of_decide_eq_true h1
  have h2 := of_decide_eq_true h2
  rw [← e] at h2
  exact ne (Prod.ext e (F.pre_one m1 m2 h1 h2))
theorem tails_found {ws : List Str} (F : Free2 ws) (z : Str) : (tailsL ws (cs z)).length + (foundD z ws).length = z.length + 1 := by
  have a := split_len (fun i => openB ws ((cs z).drop i)) (List.range ((cs z).length + 1))
  rw [List.length_range, cs_len] at a
  have b : ((List.range (z.length + 1)).filter fun i => openB ws ((cs z).drop i)).length = ((foundD z ws).map fun p => p.1).length := by
    refine len_of (List.nodup_range.filter _) ?_ fun e => ?_
    · exact List.pairwise_map.mpr (List.Pairwise.imp_of_mem (fun ma mb ne => start_new F ma mb ne) (found_nodup F.nd))
    · rw [List.mem_filter, List.mem_range, open_iff, List.mem_map]
      constructor
      · rintro ⟨le, w, mw, h⟩
        exact ⟨(e, w), (mem_found F.one).mpr ⟨mw, decide_eq_true h⟩, rfl⟩
      · rintro ⟨p, mp, rfl⟩
        obtain ⟨m1, h1⟩ := (mem_found F.one).mp mp
        have l1 := hit_le (F.one _ m1) h1
        exact ⟨by omega, p.2, m1, of_decide_eq_true h1⟩
  rw [b, List.length_map] at a
  unfold tailsL
  rw [cs_len]
  exact a
theorem heads_tails {ws : List Str} (F : Free2 ws) (z : Str) : (headsL ws (cs z)).length = (tailsL ws (cs z)).length := by
  have a := heads_found F z
  have b := tails_found F z
  omega
theorem shut_flip {ws fl : List Str} (hf : ∀ x, x ∈ fl ↔ ∃ w ∈ ws, x = revS w) (l : List Nat) : shutB fl l.reverse = openB ws l := by
  rw [Bool.eq_iff_iff, shut_iff, open_iff]
  constructor
  · rintro ⟨x, mx, h⟩
    obtain ⟨w, mw, rfl⟩ := (hf x).mp mx
    rw [cs_revS, List.reverse_suffix] at h
    exact ⟨w, mw, h⟩
  · rintro ⟨w, mw, h⟩
    refine ⟨revS w, (hf _).mpr ⟨w, mw, rfl⟩, ?_⟩
    rw [cs_revS, List.reverse_suffix]
    exact h
theorem range_rev (n : Nat) : (List.range (n + 1)).map (fun i => n - i) = (List.range (n + 1)).reverse := by
  refine List.ext_getElem (by simp) fun i h1 h2 => ?_
  simp only [List.length_map, List.length_range] at h1
  simp [List.getElem_reverse]
theorem heads_flip {ws fl : List Str} (hf : ∀ x, x ∈ fl ↔ ∃ w ∈ ws, x = revS w) (l : List Nat) : (headsL fl l.reverse).length = (tailsL ws l).length := by
  unfold headsL tailsL
  rw [List.length_reverse]
  have a : (List.range (l.length + 1)).filter (fun i => !shutB fl (l.reverse.take i)) = (List.range (l.length + 1)).filter (fun i => !openB ws (l.drop (l.length - i))) := by
    refine List.filter_congr fun i mi => ?_
    rw [List.mem_range] at mi
    have e : l.reverse.take i = (l.drop (l.length - i)).reverse := by
      rw [List.take_reverse]
    rw [e, shut_flip hf]
  rw [a]
  have b : ((List.range (l.length + 1)).map fun i => l.length - i).filter (fun j => !openB ws (l.drop j)) = ((List.range (l.length + 1)).filter fun i => !openB ws (l.drop (l.length - i))).map fun i => l.length - i := by
    rw [List.filter_map]
    rfl
  have c := congrArg List.length b
  rw [List.length_map, range_rev, List.filter_reverse, List.length_reverse] at c
  exact c.symm
theorem heads_snoc (ws : List Str) (l : List Nat) (c : Nat) : (headsL ws (l ++ [c])).length = (headsL ws l).length + (if shutB ws (l ++ [c]) then 0 else 1) := by
  unfold headsL
  rw [List.length_append, List.length_singleton, List.range_succ, List.filter_append, List.length_append]
  congr 1
  · congr 1
    refine List.filter_congr fun i mi => ?_
    rw [List.mem_range] at mi
    rw [List.take_append_of_le_length (by omega)]
  · have e : (l ++ [c]).take (l.length + 1) = l ++ [c] := List.take_of_length_le (by simp)
    rw [List.filter_cons, e]
    cases shutB ws (l ++ [c]) <;> rfl
theorem tails_cons (ws : List Str) (l : List Nat) (c : Nat) : (tailsL ws (c :: l)).length = (tailsL ws l).length + (if openB ws (c :: l) then 0 else 1) := by
  unfold tailsL
  rw [List.length_cons, List.range_succ_eq_map, List.filter_cons, List.filter_map, List.drop_zero]
  have e : (List.filter ((fun i => !openB ws ((c :: l).drop i)) ∘ Nat.succ) (List.range (l.length + 1))) = (List.range (l.length + 1)).filter fun i => !openB ws (l.drop i) := List.filter_congr fun i _ => rfl
  rw [e]
  cases openB ws (c :: l)
  · simp
  · simp
theorem heads_nil {ws : List Str} (h1 : ∀ w ∈ ws, 1 ≤ w.length) : (headsL ws []).length = 1 := by
  have e : shutB ws [] = false := by
    rw [← Bool.not_eq_true]
    intro h
    obtain ⟨w, mw, s⟩ := shut_iff.mp h
    have z := s.length_le
    have o := h1 w mw
    rw [cs_len] at z
    have z : w.length ≤ 0 := z
    omega
  unfold headsL
  show ((List.range 1).filter _).length = 1
  rw [show List.range 1 = [0] from rfl, List.filter_cons]
  simp [e]
/-- of two texts, one behind the other -/
theorem heads_app {ws : List Str} (h1 : ∀ w ∈ ws, 1 ≤ w.length) (l : List Nat) : ∀ (n : Nat) (m : List Nat), m.length = n → (headsL ws (l ++ m)).length + 1 ≤ (headsL ws l).length + (headsL ws m).length := by
  intro n
  induction n with
  | zero =>
    intro m hm
    obtain rfl := List.eq_nil_of_length_eq_zero hm
    rw [List.append_nil, heads_nil h1]
    omega
  | succ n ih =>
    intro m hm
    obtain ⟨m', c, rfl⟩ : ∃ m' c, m = m' ++ [c] := by
      have ne : m ≠ [] := fun z => by rw [z] at hm; cases hm
      exact ⟨_, _, (List.dropLast_concat_getLast ne).symm⟩
    rw [List.length_append, List.length_singleton] at hm
    have i := ih m' (by omega)
    rw [← List.append_assoc, heads_snoc, heads_snoc]
    have k : shutB ws (m' ++ [c]) = true → shutB ws (l ++ m' ++ [c]) = true := fun h => by
      obtain ⟨w, mw, s⟩ := shut_iff.mp h
      refine shut_iff.mpr ⟨w, mw, ?_⟩
      rw [List.append_assoc]
      exact s.trans (List.suffix_append _ _)
    cases a : shutB ws (m' ++ [c])
    · cases shutB ws (l ++ m' ++ [c]) <;> simp <;> omega
    · rw [k a]
      simp
      omega
/-- so many beginnings of at most so many letters -/
def cntN (ws : List Str) (l : List Nat) (s : Nat) : Nat := ((List.range (s + 1)).filter fun i => !shutB ws (l.take i)).length
theorem filter_upto (p : Nat → Bool) (s : Nat) : ∀ n, s ≤ n → ((List.range (n + 1)).filter p).filter (fun i => decide (i ≤ s)) = (List.range (s + 1)).filter p := by
  intro n
  induction n with
  | zero =>
    intro h
    obtain rfl : s = 0 := by omega
    rw [List.filter_filter]
    refine List.filter_congr fun i mi => ?_
    rw [List.mem_range] at mi
    rw [decide_eq_true (show i ≤ 0 by omega), Bool.true_and]
  | succ n ih =>
    intro h
    by_cases e : s = n + 1
    · rw [e, List.filter_filter]
      refine List.filter_congr fun i mi => ?_
      rw [List.mem_range] at mi
      rw [decide_eq_true (show i ≤ n + 1 by omega), Bool.true_and]
    · rw [List.range_succ, List.filter_append, List.filter_append, ih (by omega)]
      have z : (List.filter (fun i => decide (i ≤ s)) (List.filter p [n + 1])) = [] := by
        rw [List.filter_eq_nil_iff]
        intro i mi
        have m := (List.mem_filter.mp mi).1
        rw [List.mem_singleton.mp m, decide_eq_true_eq]
        omega
      rw [z, List.append_nil]
theorem cnt_heads (ws : List Str) (l : List Nat) {s : Nat} (h : s ≤ l.length) : ((headsL ws l).filter fun i => decide (i ≤ s)).length = cntN ws l s := by
  unfold headsL cntN
  rw [filter_upto _ s l.length h]
theorem cnt_succ (ws : List Str) (l : List Nat) (s : Nat) : cntN ws l (s + 1) = cntN ws l s + (if shutB ws (l.take (s + 1)) then 0 else 1) := by
  unfold cntN
  rw [List.range_succ, List.filter_append, List.length_append]
  congr 1
  rw [List.filter_cons]
  cases shutB ws (l.take (s + 1)) <;> rfl
theorem cnt_one {ws : List Str} (h1 : ∀ w ∈ ws, 1 ≤ w.length) (l : List Nat) (s : Nat) : 1 ≤ cntN ws l s := by
  unfold cntN
  refine List.length_pos_of_mem (a := 0) (List.mem_filter.mpr ⟨List.mem_range.mpr (by omega), ?_⟩)
  have e : shutB ws (l.take 0) = false := by
    rw [← Bool.not_eq_true]
    intro h
    obtain ⟨w, mw, q⟩ := shut_iff.mp h
    have z := q.length_le
    have o := h1 w mw
    rw [cs_len, List.take_zero] at z
    have z : w.length ≤ 0 := z
    omega
  rw [e]
  rfl
theorem cnt_all (ws : List Str) (l : List Nat) : cntN ws l l.length = (headsL ws l).length := rfl
/-- the places, ascending -/
def spotsL (ws : List Str) (l : List Nat) : List (Nat × Str) := (List.range l.length).flatMap fun i => (ws.filter fun w => decide (cs w <+: l.drop i)).map fun w => (i, w)
theorem mem_spots {ws : List Str} (h1 : ∀ w ∈ ws, 1 ≤ w.length) {z : Str} {p : Nat × Str} : p ∈ spotsL ws (cs z) ↔ p ∈ foundD z ws := by
  rw [mem_found h1]
  unfold spotsL
  rw [List.mem_flatMap]
  constructor
  · rintro ⟨i, mi, m⟩
    obtain ⟨w, mw, rfl⟩ := List.mem_map.mp m
    obtain ⟨m2, h⟩ := List.mem_filter.mp mw
    exact ⟨m2, h⟩
  · rintro ⟨m, h⟩
    have l := hit_le (h1 _ m) h
    have o := h1 _ m
    refine ⟨p.1, List.mem_range.mpr (by rw [cs_len]; omega), List.mem_map.mpr ⟨p.2, List.mem_filter.mpr ⟨m, h⟩, rfl⟩⟩
theorem few_at {ws : List Str} (F : Free2 ws) (l : List Nat) : (ws.filter fun w => decide (cs w <+: l)).length ≤ 1 := by
  have nd : (ws.filter fun w => decide (cs w <+: l)).Nodup := F.nd.filter _
  have one : ∀ a ∈ ws.filter (fun w => decide (cs w <+: l)), ∀ b ∈ ws.filter (fun w => decide (cs w <+: l)), a = b := fun a ma b mb => by
    obtain ⟨m1, h1⟩ := List.mem_filter.mp ma
    obtain ⟨m2, h2⟩ := List.mem_filter.mp mb
    exact F.pre_one m1 m2 (of_decide_eq_true h1) (of_decide_eq_true h2)
  generalize ws.filter (fun w => decide (cs w <+: l)) = t at nd one
  match t, nd, one with
  | [], _, _ => exact Nat.zero_le _
  | [_], _, _ => exact Nat.le_refl _
  | a :: b :: t, nd, one => exact absurd (one a (List.mem_cons_self ..) b (List.mem_cons_of_mem _ (List.mem_cons_self ..))) ((List.nodup_cons.mp nd).1 ∘ fun e => by rw [e]; exact List.mem_cons_self ..)
theorem spots_asc {ws : List Str} (F : Free2 ws) (l : List Nat) : ((spotsL ws l).map (·.1)).Pairwise (· < ·) := by
  unfold spotsL
  generalize l.length = n
  induction n with
  | zero => exact List.Pairwise.nil
  | succ n ih =>
    rw [List.range_succ, List.flatMap_append, List.map_append]
    refine List.pairwise_append.mpr ⟨ih, ?_, ?_⟩
    · have f := few_at F (l.drop n)
      generalize ws.filter (fun w => decide (cs w <+: l.drop n)) = t at f
      have e : ([n].flatMap fun i => (ws.filter fun w => decide (cs w <+: l.drop i)).map fun w => (i, w)) = (ws.filter fun w => decide (cs w <+: l.drop n)).map fun w => (n, w) := by simp
      rw [e]
      have f := few_at F (l.drop n)
      generalize ws.filter (fun w => decide (cs w <+: l.drop n)) = t at f
      match t, f with
      | [], _ => exact List.Pairwise.nil
      | [_], _ => exact List.pairwise_singleton _ _
    · intro a ma b mb
      obtain ⟨p, mp, rfl⟩ := List.mem_map.mp ma
      obtain ⟨q, mq, rfl⟩ := List.mem_map.mp mb
      obtain ⟨i, mi, m1⟩ := List.mem_flatMap.mp mp
      obtain ⟨j, mj, m2⟩ := List.mem_flatMap.mp mq
      obtain ⟨_, _, rfl⟩ := List.mem_map.mp m1
      obtain ⟨_, _, rfl⟩ := List.mem_map.mp m2
      rw [List.mem_singleton] at mj
      rw [List.mem_range] at mi
      show i < j
      omega
theorem spots_perm {ws : List Str} (F : Free2 ws) (z : Str) : (spotsL ws (cs z)).Perm (foundD z ws) := by
  refine (List.perm_ext_iff_of_nodup ?_ (found_nodup F.nd)).mpr fun p => mem_spots F.one
  have a := spots_asc F (cs z)
  have b : (spotsL ws (cs z)).Pairwise fun p q => p.1 < q.1 := List.pairwise_map.mp a
  exact b.imp fun {p q} h e => by rw [e] at h; exact Nat.lt_irrefl _ h
/-- the sorted keys are the places in their order -/
theorem keys_spots {ws : List Str} (F : Free2 ws) (z : Str) {ys : List Int} (p : ys.Perm ((foundD z ws).map fun p => (p.1 : Int))) (s : ys.Pairwise (· ≤ ·)) : ys = (spotsL ws (cs z)).map fun p => (p.1 : Int) := by
  refine List.Perm.eq_of_pairwise (le := fun a b => decide (a ≤ b)) ?_ ?_ ?_ (p.trans ((spots_perm F z).symm.map _))
  · intro a b _ _ h1 h2
    have h1 := of_decide_eq_true h1
    have h2 := of_decide_eq_true h2
    omega
  · exact s.imp fun h => decide_eq_true h
  · have a := spots_asc F (cs z)
    rw [List.pairwise_map] at a ⊢
    exact a.imp fun h => decide_eq_true (by omega)
theorem spots_len {ws : List Str} (F : Free2 ws) (z : Str) : (spotsL ws (cs z)).length = (foundD z ws).length := (spots_perm F z).length_eq
end XWy

/-! the number of ways, of all beginnings; places -/
namespace B17
open PySem PySem.Spec PyProof.Rows L2 XSt NX XB XE XFd XFl XF XWy
open PySem.W (Frag)
abbrev sCountWays : Stmt := top 39
abbrev sCounts : Stmt := top 40
abbrev sPlaces : Stmt := top 42
def spCount (K : Frag) (C : Addr) : Sp := fun vs H Q _ => ∃ (b : Addr) (ws : List Str) (y : Str), vs = [.ref b, .str y] ∧ BT K C H b ws y ∧ ∀ H', Ext H H' → Q (.int ((headsL ws (cs y)).length : Int)) H'
def cntV (ws : List Str) (l : List Nat) (n : Nat) : List V := (List.range n).map fun s => V.int (cntN ws l s : Int)
def spCounts (K : Frag) (C : Addr) : Sp := fun vs H Q _ => ∃ (b : Addr) (ws : List Str) (y : Str), vs = [.ref b, .str y] ∧ BT K C H b ws y ∧ ∀ p H', Ext H H' → H' p = some (.tup (cntV ws (cs y) (y.length + 1))) → Q (.ref p) H'
/-- the objects of some pairs of an index and a word -/
def PrsAt (H : Hp) (ts : List Addr) (L : List (Nat × Str)) : Prop := ts.length = L.length ∧ ∀ (i : Nat) (t : Addr) (q : Nat × Str), ts[i]? = some t → L[i]? = some q → H t = some (.tup [.int (q.1 : Int), .str q.2])
theorem PrsAt.ext {H H' : Hp} {ts : List Addr} {L : List (Nat × Str)} (h : PrsAt H ts L) (k : Ext H H') : PrsAt H' ts L := ⟨h.1, fun i t q a b => k _ _ (h.2 i t q a b)⟩
theorem PrsAt.nil {H : Hp} : PrsAt H [] [] := ⟨rfl, fun _ _ _ a => by simp at a⟩
theorem PrsAt.snoc {H : Hp} {ts : List Addr} {L : List (Nat × Str)} {t : Addr} {q : Nat × Str} (h : PrsAt H ts L) (e : H t = some (.tup [.int (q.1 : Int), .str q.2])) : PrsAt H (ts ++ [t]) (L ++ [q]) := by
  refine ⟨by rw [List.length_append, List.length_append, h.1]; rfl, fun i t' q' a b => ?_⟩
  by_cases l : i < ts.length
  · rw [List.getElem?_append_left l] at a
    rw [List.getElem?_append_left (by rw [← h.1]; exact l)] at b
    exact h.2 i t' q' a b
  · rw [List.getElem?_append_right (by omega)] at a
    rw [List.getElem?_append_right (by rw [← h.1]; omega), ← h.1] at b
    obtain ⟨z, rfl⟩ : ∃ z, z = i - ts.length := ⟨_, rfl⟩
    generalize i - ts.length = z at a b
    cases z with
    | zero => cases a; cases b; exact e
    | succ z => simp at a
def prsD (L : List (Nat × Str)) : List PyData := L.map fun q => .tuple [.int (q.1 : Int), .str q.2]
theorem prs_dp {K : Frag} {H : Hp} : ∀ {ts : List Addr} {L : List (Nat × Str)}, PrsAt H ts L → DpAll K H (ts.map V.ref) (prsD L)
  | [], [], _ => .nil
  | [], _ :: _, h => absurd h.1 (by simp)
  | _ :: _, [], h => absurd h.1 (by simp)
  | t :: ts, q :: L, h => .cons (.tup (SqT.of (h.2 0 t q rfl rfl)) (.cons (.int _) (.cons (.str _) .nil))) (prs_dp ⟨Nat.succ.inj h.1, fun i t' q' a b => h.2 (i + 1) t' q' (by simpa using a) (by simpa using b)⟩)
def spPlacesT (K : Frag) (C : Addr) : Sp := fun vs H Q _ => ∃ (b : Addr) (ws : List Str) (y : Str), vs = [.ref b, .str y] ∧ BT K C H b ws y ∧ (foundD y ws).length < 64 ∧ ∀ p ts H', Ext H H' → H' p = some (.tup (ts.map V.ref)) → PrsAt H' ts (spotsL ws (cs y)) → Q (.ref p) H'
section
variable {P : Program} {w : World} {K : Frag} {mg : Str → Option Value} {base : Heap} {f C : Addr} {fd : FuncData}
theorem scCountWays : FnScope ["book", "text", "found"] ["book", "text"] (defScope sCountWays) := ⟨rfl, rfl, rfl, by decide +kernel, rfl, by decide +kernel, by decide +kernel⟩
theorem scCounts : FnScope ["book", "text", "ahead", "told", "many", "index"] ["book", "text"] (defScope sCounts) := ⟨rfl, rfl, rfl, by decide +kernel, rfl, by decide +kernel, by decide +kernel⟩
theorem scPlaces : FnScope ["book", "text", "found", "index"] ["book", "text"] (defScope sPlaces) := ⟨rfl, rfl, rfl, by decide +kernel, rfl, by decide +kernel, by decide +kernel⟩
theorem ok_count_ways (F : FnP K "count_ways" sCountWays f fd) (M : Free mg) (DW : Def P w K mg base CX0 5 "words_at" ["book", "text"] (spWordsAt K C)) : FnOk P w K mg base CX0 6 f fd ["book", "text"] (spCount K C) := by
  obtain ⟨fW, dW, FW, gW, kW, bW⟩ := DW.ex
  refine F.ok scCountWays (fun vs H Q E h => ?_) (fun cdv A outer s H vs Q E hr h => ?_)
  · obtain ⟨b, ws, y, rfl, _⟩ := h
    rfl
  · obtain ⟨b, ws, y, rfl, bt, q⟩ := h
    have hs : sizeLine = 16777216 := sizeLine_eq
    refine ⟨_, PSs.nox (pss_cons (ps_set (i := 2) scCountWays.nd rfl (.inl rfl) (pe_call FW (hr.mono (by decide)) (by rfl) gW kW bW .nil pass0 (pa_cons (pv 0) (pa_cons (pv 1) pa_nil))))
      (pss_one (ps_ret (pe_op op_sub (pe_op op_add (pe_callB call_len (by rfl) M.len PySem.boot_len (pa_cons (pv 1) pa_nil)) pe_int) (pe_callB call_lenD (by rfl) M.len PySem.boot_len (pa_cons (pv 2) pa_nil)))))), ?_⟩
    have as : Asks ws y := bt.choose_spec.2.2.2.2
    have yl := as.len
    refine ⟨_, rfl, _, rfl, b, ws, y, rfl, bt, fun d H1 k1 ed => ?_⟩
    refine ⟨_, rfl, _, y.length, rfl, ⟨by omega, rfl⟩, _, _, rfl, rfl, _, rfl, d, _, rfl, ed, _, _, rfl, rfl, ?_⟩
    have z := heads_found as.free y
    rw [kvF_len]
    have e : (y.length : Int) + 1 - ((foundD y ws).length : Int) = ((headsL ws (cs y)).length : Int) := by omega
    show Q (.int ((y.length : Int) + 1 - ((foundD y ws).length : Int))) H1
    rw [e]
    exact q _ k1
theorem ok_counts (F : FnP K "counts" sCounts f fd) (M : Free mg) (mR : mg "range" = none) (DW : Def P w K mg base CX0 5 "words_at" ["book", "text"] (spWordsAt K C)) (DA : Def P w K mg base CX0 1 "words_ahead" ["found"] spAhead) : FnOk P w K mg base CX0 6 f fd ["book", "text"] (spCounts K C) := by
  obtain ⟨fW, dW, FW, gW, kW, bW⟩ := DW.ex
  obtain ⟨fA, dA, FA, gA, kA, bA⟩ := DA.ex
  refine F.ok scCounts (fun vs H Q E h => ?_) (fun cdv A outer s H vs Q E hr h => ?_)
  · obtain ⟨b, ws, y, rfl, _⟩ := h
    rfl
  · obtain ⟨b, ws, y, rfl, bt, q⟩ := h
    have hs : sizeLine = 16777216 := sizeLine_eq
    refine ⟨_, PSs.nox (pss_cons (ps_set (i := 2) scCounts.nd rfl (.inl rfl) (pe_call FA (hr.mono (by decide)) (by rfl) gA kA bA .nil pass0 (pa_cons (pe_call FW (hr.mono (by decide)) (by rfl) gW kW bW .nil pass0 (pa_cons (pv 0) (pa_cons (pv 1) pa_nil))) pa_nil)))
      (pss_cons (ps_set (i := 3) scCounts.nd rfl (.inl rfl) (pe_lst pa_nil))
      (pss_cons (ps_set (i := 4) scCounts.nd rfl (.inl rfl) pe_int)
      (pss_cons (ps_for PassesOwn.never rfl (pi_range1 (by rfl) mR (pa_cons (pe_op op_add (pe_callB call_len (by rfl) M.len PySem.boot_len (pa_cons (pv 1) pa_nil)) pe_int) pa_nil)) (pg_name (i := 5) scCounts.nd rfl (.inl rfl))
        (pss_cons (ps_if (pt_cmp (pc_dnotin (hu_of hr) (pv 5) (pv 2)) rfl) (pss_one (ps_aug (i := 4) scCounts.nd rfl (.inl rfl) pe_int ip_add)) pss_nil)
        (pss_one (ps_expr (pe_bm PySem.F.plainAttrs_list PySem.F.slot_list_append PySem.F.type_list_append mt_append (pv 3) (pa_cons (pv 4) pa_nil))))))
      (pss_one (ps_ret (pe_callTy call_tuple_of (by rfl) M.tuple (by decide +kernel) (pa_cons (pv 3) pa_nil)))))))), ?_⟩
    have as : Asks ws y := bt.choose_spec.2.2.2.2
    have FR := as.free
    have yl := as.len
    refine ⟨_, rfl, _, rfl, b, ws, y, rfl, bt, fun d H1 k1 ed => ?_⟩
    refine ⟨d, ws, y, rfl, ed, as, fun a H2 k2 ea => ?_⟩
    refine ⟨by show 0 ≤ sizeLine; decide, fun l hl => ?_⟩
    have x3 := (Ext.refl H2).new hl (o := .lst [])
    have el : (upd H2 l (.lst [])) l = some (.lst []) := upd_same
    generalize upd H2 l (.lst []) = H3 at x3 el ⊢
    refine ⟨_, rfl, _, y.length, rfl, ⟨by omega, rfl⟩, _, _, rfl, rfl, _, rfl, by omega, by omega, ?_⟩
    have en : ((y.length : Int) + 1).toNat = y.length + 1 := by omega
    rw [en]
    refine for_range (n := y.length + 1) (fun i σ HH => (∃ o5, σ = [some (.ref b), some (.str y), some (.ref a), some (.ref l), some (.int (((List.range i).filter fun i => !shutB ws ((cs y).take i)).length : Int)), o5]) ∧ Ext H2 HH ∧ HH l = some (.lst (cntV ws (cs y) i))) ⟨⟨_, rfl⟩, x3, el⟩ ?_ ?_
    · rintro i σ HH hi ⟨⟨o5, rfl⟩, xx, ell⟩
      have lens : (cntV ws (cs y) i).length = i := by unfold cntV; rw [List.length_map, List.length_range]
      have nx : cntV ws (cs y) (i + 1) = cntV ws (cs y) i ++ [V.int (cntN ws (cs y) i : Int)] := by
        unfold cntV
        rw [List.range_succ, List.map_append]
        rfl
      have cn : ((List.range (i + 1)).filter fun i => !shutB ws ((cs y).take i)).length = ((List.range i).filter fun i => !shutB ws ((cs y).take i)).length + (if shutB ws ((cs y).take i) then 0 else 1) := by
        rw [List.range_succ, List.filter_append, List.length_append, List.filter_cons]
        cases shutB ws ((cs y).take i) <;> rfl
      have fin : ∀ m : Nat, m = cntN ws (cs y) i → ∀ HX, Ext H2 HX → HX l = some (.lst (cntV ws (cs y) i ++ [V.int (m : Int)])) → HX l = some (.lst (cntV ws (cs y) (i + 1))) := fun m em HX _ e => by
        rw [e, nx, em]
      have ext9 : ∀ o, Ext H2 (upd HH l o) := fun o b ob e => by
        rw [upd_ne (ne_of_none e hl)]
        exact xx b ob e
      refine ⟨_, rfl, _, rfl, a, _, rfl, DGet.k (k := kI (0 + (i : Int))) (xx _ _ ea), ?_⟩
      have vk : (valV (kvF (aheadD y ws)) (kI (0 + (i : Int)))).isSome = shutB ws ((cs y).take i) := by
        rw [Int.zero_add]
        cases hb : shutB ws ((cs y).take i) with
        | true =>
          obtain ⟨w0, m0, h0⟩ := shut_iff.mp hb
          rw [end_some FR (by omega) m0 h0]
          rfl
        | false =>
          rw [end_none FR (by omega) fun w0 m0 h0 => by
            rw [shut_iff.mpr ⟨w0, m0, h0⟩] at hb
            cases hb]
          rfl
      rw [vk]
      cases hb : shutB ws ((cs y).take i) with
      | true =>
        rw [hb] at cn
        refine ⟨_, rfl, iteF ?_⟩
        refine ⟨_, rfl, .inl ⟨rfl, _, SqL.of ell⟩, _, rfl, l, _, _, rfl, rfl, ell, by rw [lens]; omega, ?_⟩
        refine ⟨⟨some (.int (0 + (i : Int))), ?_⟩, ext9 _, fin (((List.range i).filter fun i => !shutB ws ((cs y).take i)).length) ?_ _ (ext9 _) upd_same⟩
        · rw [cn]
          rfl
        · unfold cntN
          rw [cn]
          rfl
      | false =>
        rw [hb] at cn
        refine ⟨_, rfl, iteT ?_⟩
        refine ⟨_, rfl, _, _, rfl, rfl, ?_⟩
        refine ⟨_, rfl, .inl ⟨rfl, _, SqL.of ell⟩, _, rfl, l, _, _, rfl, rfl, ell, by rw [lens]; omega, ?_⟩
        refine ⟨⟨some (.int (0 + (i : Int))), ?_⟩, ext9 _, fin (((List.range i).filter fun i => !shutB ws ((cs y).take i)).length + 1) ?_ _ (ext9 _) upd_same⟩
        · rw [cn]
          rfl
        · unfold cntN
          rw [cn]
          rfl
    · rintro σ HH ⟨⟨o5, rfl⟩, xx, ell⟩
      refine ⟨_, rfl, l, _, rfl, .inl ⟨SqL.of ell, fun p hp => ?_⟩⟩
      exact q p _ (((k1.trans k2).trans xx).new hp) upd_same
theorem ok_placesT (F : FnP K "places" sPlaces f fd) (M : Free mg) (DW : Def P w K mg base CX0 5 "words_at" ["book", "text"] (spWordsAt K C)) : FnOk P w K mg base CX0 6 f fd ["book", "text"] (spPlacesT K C) := by
  obtain ⟨fW, dW, FW, gW, kW, bW⟩ := DW.ex
  refine F.ok scPlaces (fun vs H Q E h => ?_) (fun cdv A outer s H vs Q E hr h => ?_)
  · obtain ⟨b, ws, y, rfl, _⟩ := h
    rfl
  · obtain ⟨b, ws, y, rfl, bt, few, q⟩ := h
    have hs : sizeLine = 16777216 := sizeLine_eq
    refine ⟨_, PSs.nox (pss_cons (ps_set (i := 2) scPlaces.nd rfl (.inr rfl) (pe_call FW (hr.mono (by decide)) (by rfl) gW kW bW .nil pass0 (pa_cons (pv 0) (pa_cons (pv 1) pa_nil))))
      (pss_one (ps_ret (pe_callTy call_tuple_of (by rfl) M.tuple (by decide +kernel) (pa_cons (pe_lc (own := [("index", 3)]) (g := gName 3) (tt := tYes) (te := tTup (tCons (tVar 3) (tCons (tDGet (tVar 2) (tVar 3)) tNil))) rfl scPlaces.nd (pi_list (pe_callB (call_sortedDI rfl) (by rfl) M.sorted (by decide +kernel) (pa_cons (pv 2) pa_nil))) (blkOk_by (N := ["book", "text", "found", "index"]) (sc := defScope sPlaces) (by decide +kernel))
          (fun _ _ _ _ _ => pg_name (i := 3) scPlaces.nd rfl (Or.inl rfl)) (fun _ _ _ _ _ => pts_nil) (fun _ _ _ _ _ => by exact pe_tup (pa_cons (pv 3) (pa_cons (pe_dget (hu_of hr) (pv 2) (pv 3) (fun _ _ => rfl)) pa_nil)))) pa_nil))))), ?_⟩
    have as : Asks ws y := bt.choose_spec.2.2.2.2
    have FR := as.free
    have yl := as.len
    refine ⟨_, rfl, _, rfl, b, ws, y, rfl, bt, fun d H1 k1 ed => ?_⟩
    refine ⟨_, rfl, d, _, (foundD y ws).map fun p => (p.1 : Int), rfl, .inl ed, by unfold kvF; rw [List.map_map, List.map_map]; rfl, by rw [List.length_map]; exact few, fun ys ps perm asc hps => ?_⟩
    have eys := keys_spots FR y perm asc
    subst eys
    have x2 := (Ext.refl H1).new hps (o := .lst (((spotsL ws (cs y)).map fun p => (p.1 : Int)).map V.int))
    have eps : (upd H1 ps (.lst (((spotsL ws (cs y)).map fun p => (p.1 : Int)).map V.int))) ps = some (.lst (((spotsL ws (cs y)).map fun p => (p.1 : Int)).map V.int)) := upd_same
    generalize upd H1 ps (.lst (((spotsL ws (cs y)).map fun p => (p.1 : Int)).map V.int)) = H2 at x2 eps ⊢
    have ed2 := x2 _ _ ed
    refine ⟨ps, rfl, ⟨_, SqL.of eps⟩, fun D hD => ?_⟩
    have sl := spots_len FR y
    refine walk_it walk_list (fun a H3 => ∃ ts, H3 D = some (.lst (ts.map V.ref)) ∧ PrsAt H3 ts ((spotsL ws (cs y)).take a) ∧ Ext H2 H3) ⟨[], upd_same, .nil, (Ext.refl _).new hD⟩ (fun a H3 _ z => by obtain ⟨_, _, _, x3⟩ := z; exact SqL.of (x3 _ _ eps)) ?_ ?_
    · rintro i v H3 H4 hi ⟨ts, e3, prs, x3⟩ ⟨rfl, ex⟩
      rw [List.getElem?_map, List.getElem?_map] at ex
      cases gi : (spotsL ws (cs y))[i]? with
      | none => rw [gi] at ex; cases ex
      | some p0 =>
        rw [gi] at ex
        obtain rfl : V.int (p0.1 : Int) = v := Option.some.inj ex
        have mp0 := (mem_spots FR.one).mp (List.mem_of_getElem? gi)
        obtain ⟨m0, h0⟩ := (mem_found FR.one).mp mp0
        have vv := at_some FR m0 (of_decide_eq_true h0)
        have tk : (spotsL ws (cs y)).take (i + 1) = (spotsL ws (cs y)).take i ++ [p0] := by rw [List.take_succ, gi]; rfl
        refine ⟨rfl, ?_⟩
        dsimp only [tYes]
        refine iteT ⟨_, rfl, _, rfl, _, rfl, d, .str p0.2, rfl, by rw [← vv]; exact DGet.k (k := kI (p0.1 : Int)) (x3 _ _ ed2), by show 2 ≤ sizeLine; decide, fun t ht => ?_⟩
        have x5 := (Ext.refl H4).new ht (o := .tup [.int (p0.1 : Int), .str p0.2])
        have et : (upd H4 t (.tup [.int (p0.1 : Int), .str p0.2])) t = some (.tup [.int (p0.1 : Int), .str p0.2]) := upd_same
        generalize upd H4 t (.tup [.int (p0.1 : Int), .str p0.2]) = H5 at x5 et ⊢
        have l1 := prs.1
        rw [List.length_take] at l1
        have e5 := x5 _ _ e3
        have nDt : t ≠ D := fun z => by
          rw [z, e5] at et
          cases et
        refine ⟨_, e5, by rw [List.length_map]; omega, ts ++ [t], by rw [List.map_append]; exact upd_same, ?_, fun b o e => ?_⟩
        · rw [tk]
          have pz := (prs.ext x5).snoc (q := p0) et
          refine ⟨pz.1, fun i' t' q' a' b' => ?_⟩
          have z := pz.2 i' t' q' a' b'
          have n2 : t' ≠ D := fun z2 => by
            rw [z2, e5] at z
            cases z
          rw [upd_ne n2]
          exact z
        · rw [upd_ne (ne_of_none e hD)]
          exact x5 _ _ (x3 _ _ e)
    · rintro H3 ⟨ts, e3, prs, x3⟩
      rw [List.length_map, List.length_map, List.take_length] at prs
      refine ⟨D, _, rfl, .inl ⟨SqL.of e3, fun p hp => ?_⟩⟩
      have x6 := (Ext.refl H3).new hp (o := .tup (ts.map V.ref))
      exact q p ts _ (k1.trans (x2.trans (x3.trans x6))) upd_same (prs.ext x6)
end
end B17

/-! rows of words, decided -/
namespace XCf
open PySem PySem.Spec PyProof.Rows L2 XSt NX XFd
def hdF (ws : List Str) (l : List Nat) : Option Str := ws.find? fun w => decide (cs w <+: l)
def cutF (ws : List Str) : Nat → List Nat → List Str × List Nat
  | 0, l => ([], l)
  | n + 1, l => match hdF ws l with
    | none => ([], l)
    | some w => (w :: (cutF ws n (l.drop w.length)).1, (cutF ws n (l.drop w.length)).2)
theorem hd_some {ws : List Str} {l : List Nat} {w : Str} (h : hdF ws l = some w) : w ∈ ws ∧ cs w <+: l := ⟨List.mem_of_find?_eq_some h, of_decide_eq_true (List.find?_some (p := fun w => decide (cs w <+: l)) h)⟩
theorem hd_none {ws : List Str} {l : List Nat} (h : hdF ws l = none) : ∀ w ∈ ws, ¬ cs w <+: l := fun w mw p => by
  have z := List.find?_eq_none.mp h w mw
  exact z (decide_eq_true p)
theorem cutF_cut {ws : List Str} (h1 : ∀ w ∈ ws, 1 ≤ w.length) : ∀ (n : Nat) (l : List Nat), l.length ≤ n → Cut ws l (cutF ws n l).1 (cutF ws n l).2 := by
  intro n
  induction n with
  | zero =>
    intro l hl
    refine .stop fun w mw p => ?_
    have z := p.length_le
    have o := h1 w mw
    rw [cs_len] at z
    omega
  | succ n ih =>
    intro l hl
    unfold cutF
    cases h : hdF ws l with
    | none => exact .stop (hd_none h)
    | some w =>
      obtain ⟨mw, t, rfl⟩ := hd_some h
      have o := h1 w mw
      rw [List.length_append, cs_len] at hl
      have e : (cs w ++ t).drop w.length = t := by rw [← cs_len w, List.drop_left]
      show Cut ws (cs w ++ t) (w :: (cutF ws n ((cs w ++ t).drop w.length)).1) (cutF ws n ((cs w ++ t).drop w.length)).2
      rw [e]
      exact .go mw (ih t (by omega))
def rowB (ws : List Str) (l : List Nat) : Bool := (cutF ws l.length l).2.isEmpty
def rowR (ws : List Str) (l : List Nat) : List Str := (cutF ws l.length l).1
theorem rowB_of {ws : List Str} (F : Free2 ws) {l : List Nat} {R : List Str} {e : List Nat} (c : Cut ws l R e) : rowB ws l = decide (e = []) := by
  obtain ⟨_, h⟩ := cut_one F c (cutF_cut F.one l.length l (Nat.le_refl _))
  unfold rowB
  rw [← h]
  cases e <;> rfl
theorem row_cut {ws : List Str} (F : Free2 ws) {l : List Nat} (h : rowB ws l = true) : Cut ws l (rowR ws l) [] := by
  have c := cutF_cut F.one l.length l (Nat.le_refl _)
  have z : (cutF ws l.length l).2 = [] := List.isEmpty_iff.mp h
  rw [z] at c
  exact c
theorem cut_app {ws : List Str} : ∀ (r : List Str), (∀ w ∈ r, w ∈ ws) → ∀ {l : List Nat} {r2 : List Str} {e : List Nat}, Cut ws l r2 e → Cut ws ((r.map cs).flatten ++ l) (r ++ r2) e
  | [], _, _, _, _, c => c
  | w :: r, m, l, r2, e, c => by
    have ih := cut_app r (fun v mv => m v (List.mem_cons_of_mem _ mv)) c
    rw [List.map_cons, List.flatten_cons, List.append_assoc]
    exact .go (m w (List.mem_cons_self ..)) ih
theorem cutE_app {ws : List Str} : ∀ (r : List Str), (∀ w ∈ r, w ∈ ws) → ∀ {l : List Nat} {r2 : List Str} {e : List Nat}, CutE ws l r2 e → CutE ws (l ++ (r.reverse.map cs).flatten) (r ++ r2) e
  | [], _, l, _, _, c => by simpa using c
  | w :: r, m, l, r2, e, c => by
    have ih := cutE_app r (fun v mv => m v (List.mem_cons_of_mem _ mv)) c
    have z : l ++ ((w :: r).reverse.map cs).flatten = (l ++ (r.reverse.map cs).flatten) ++ cs w := by simp
    rw [z]
    exact .go (m w (List.mem_cons_self ..)) ih
theorem cut_end {ws : List Str} {l : List Nat} {r : List Str} {e : List Nat} (c : Cut ws l r e) : ∀ w ∈ ws, ¬ cs w <+: e := by
  induction c with
  | stop no => exact no
  | go _ _ ih => exact ih
theorem cutE_mem {ws : List Str} {l : List Nat} {r : List Str} {e : List Nat} (c : CutE ws l r e) : ∀ w ∈ r, w ∈ ws := by
  induction c with
  | stop _ => intro w m; cases m
  | go mw _ ih =>
    intro v m
    rcases List.mem_cons.mp m with rfl | m
    · exact mw
    · exact ih v m
/-- words that are cut from behind are cut in one way alone -/
theorem cutE_uni {ws : List Str} (F : Free2 ws) {l : List Nat} {r : List Str} {e : List Nat} (c : CutE ws l r e) : ∀ {r2 : List Str} {e2 : List Nat}, CutE ws l r2 e2 → r = r2 ∧ e = e2 := by
  induction c with
  | stop no =>
    intro r2 e2 c2
    cases c2 with
    | stop _ => exact ⟨rfl, rfl⟩
    | go mw _ => exact absurd (List.suffix_append _ _) (no _ mw)
  | @go l e w r mw c ih =>
    intro r2 e2 c2
    generalize g : l ++ cs w = l2 at c2
    cases c2 with
    | stop no => exact absurd (by rw [← g]; exact List.suffix_append _ _) (no _ mw)
    | @go l3 _ v r3 mv c3 =>
      have ev : w = v := F.suf_one mw mv (l := l ++ cs w) (List.suffix_append _ _) (by rw [g]; exact List.suffix_append _ _)
      subst ev
      obtain rfl := List.append_cancel_right g
      obtain ⟨e1, e2⟩ := ih c3
      exact ⟨by rw [e1], e2⟩
/-- a row ahead, cut off, changes nothing -/
theorem row_front {ws : List Str} (F : Free2 ws) {A : List Str} (mA : ∀ w ∈ A, w ∈ ws) (t : List Nat) : rowB ws ((A.map cs).flatten ++ t) = rowB ws t := by
  obtain ⟨R, e, c⟩ := cut_ex F.one _ t (Nat.le_refl _)
  rw [rowB_of F c, rowB_of F (cut_app A mA c)]
theorem row_iffE {ws : List Str} (F : Free2 ws) {l : List Nat} {r : List Str} {e : List Nat} (c : CutE ws l r e) : rowB ws l = decide (e = []) := by
  rw [Bool.eq_iff_iff, decide_eq_true_eq]
  constructor
  · intro h
    have k := row_cut F h
    have t := cut_text k
    rw [List.append_nil] at t
    have c2 := cutE_words F.one (rowR ws l).reverse fun w m => cut_mem k w (List.mem_reverse.mp m)
    rw [List.reverse_reverse, ← t] at c2
    exact (cutE_uni F c c2).2
  · intro h
    have t := cutE_text c
    rw [h, List.nil_append] at t
    have c2 := cut_words F.one r.reverse fun w m => cutE_mem c w (List.mem_reverse.mp m)
    rw [← t] at c2
    rw [rowB_of F c2]
    rfl
theorem row_back {ws : List Str} (F : Free2 ws) {B : List Str} (mB : ∀ w ∈ B, w ∈ ws) (t : List Nat) : rowB ws (t ++ (B.reverse.map cs).flatten) = rowB ws t := by
  obtain ⟨R, e, c⟩ := cutE_ex F.one _ t (Nat.le_refl _)
  rw [row_iffE F c, row_iffE F (cutE_app B mB c)]
/-- what is cut off at both ends decides nothing -/
theorem row_inner {ws : List Str} (F : Free2 ws) {l1 l2 a b : List Nat} {A B : List Str} (cA : Cut ws l1 A a) (cB : CutE ws l2 B b) (m : List Nat) : rowB ws (l1 ++ m ++ l2) = rowB ws (a ++ m ++ b) := by
  have e : l1 ++ m ++ l2 = (A.map cs).flatten ++ ((a ++ m ++ b) ++ (B.reverse.map cs).flatten) := by
    rw [cut_text cA, cutE_text cB]
    simp only [List.append_assoc]
  rw [e, row_front F (cut_mem cA), row_back F (cutE_mem cB)]
theorem near_long {ws : List Str} (F : Free2 ws) {n : Nat} (hn : ∀ w ∈ ws, w.length ≤ n) {l a : List Nat} {A : List Str} (cA : Cut ws l A a) (h : n < a.length) (t : List Nat) : rowB ws (a ++ t) = false := by
  rw [← Bool.not_eq_true]
  intro z
  have c := row_cut F z
  generalize rowR ws (a ++ t) = R at c
  have no := cut_end cA
  generalize g : a ++ t = l2 at c
  generalize ge : ([] : List Nat) = e at c
  cases c with
  | stop _ =>
    rw [← ge] at g
    have y := congrArg List.length g
    rw [List.length_append] at y
    have y : a.length + t.length = 0 := y
    omega
  | @go l3 _ w r mw c3 =>
    have p1 : cs w <+: a ++ t := by rw [g]; exact List.prefix_append _ _
    have lw := hn w mw
    rcases List.prefix_or_prefix_of_prefix p1 (List.prefix_append a t) with p | p
    · exact no w mw p
    · have y := p.length_le
      rw [cs_len] at y
      omega
theorem far_long {ws : List Str} (F : Free2 ws) {n : Nat} (hn : ∀ w ∈ ws, w.length ≤ n) {l b : List Nat} {B : List Str} (cB : CutE ws l B b) (h : n < b.length) (t : List Nat) : rowB ws (t ++ b) = false := by
  obtain ⟨R, e, c⟩ := cutE_ex F.one _ (t ++ b) (Nat.le_refl _)
  rw [row_iffE F c, decide_eq_false_iff_not]
  have no := cutE_end cB
  generalize g : t ++ b = l2 at c
  cases c with
  | stop _ =>
    intro z
    rw [z] at g
    have y := congrArg List.length g
    rw [List.length_append] at y
    have y : t.length + b.length = 0 := y
    omega
  | @go l3 _ w r mw c3 =>
    exfalso
    have p1 : cs w <:+ t ++ b := by rw [g]; exact List.suffix_append _ _
    have lw := hn w mw
    rcases List.suffix_or_suffix_of_suffix p1 (List.suffix_append t b) with p | p
    · exact no w mw p
    · have y := p.length_le
      rw [cs_len] at y
      omega
theorem row_begins {ws : List Str} (F : Free2 ws) {l1 a t : List Nat} {A R : List Str} (cA : Cut ws l1 A a) (c : Cut ws (l1 ++ t) R []) : ∃ R', R = A ++ R' := by
  obtain ⟨R', e, c2⟩ := cut_ex F.one _ (a ++ t) (Nat.le_refl _)
  have c3 := cut_app A (cut_mem cA) c2
  rw [← List.append_assoc, ← cut_text cA] at c3
  exact ⟨R', (cut_one F c c3).1⟩
theorem row_ends {ws : List Str} (F : Free2 ws) {l2 b t : List Nat} {B R : List Str} (cB : CutE ws l2 B b) (c : Cut ws (t ++ l2) R []) : ∃ R', R = R' ++ B.reverse := by
  obtain ⟨R', e, c2⟩ := cutE_ex F.one _ (t ++ b) (Nat.le_refl _)
  have c3 := cutE_app B (cutE_mem cB) c2
  rw [List.append_assoc, ← cutE_text cB] at c3
  have tx := cut_text c
  rw [List.append_nil] at tx
  have c4 := cutE_words F.one R.reverse fun w m => cut_mem c w (List.mem_reverse.mp m)
  rw [List.reverse_reverse, ← tx] at c4
  have z := (cutE_uni F c4 c3).1
  refine ⟨R'.reverse, ?_⟩
  rw [← List.reverse_reverse R, z, List.reverse_append]
end XCf

/-! rows of words that differ from a text in one letter -/
namespace XNr
open PySem PySem.Spec PyProof.Rows L2 XSt NX XFd XCf
/-- a text with another letter -/
def modL (l : List Nat) (q c : Nat) : List Nat := l.take q ++ c :: l.drop (q + 1)
theorem modL_len {l : List Nat} {q c : Nat} (h : q < l.length) : (modL l q c).length = l.length := by
  unfold modL
  rw [List.length_append, List.length_cons, List.length_take, List.length_drop]
  omega
theorem modL_take {l : List Nat} {q c s : Nat} (h : s ≤ q) (hq : q ≤ l.length) : (modL l q c).take s = l.take s := by
  unfold modL
  rw [List.take_append_of_le_length (by rw [List.length_take]; omega), List.take_take, Nat.min_eq_left h]
theorem modL_drop {l : List Nat} {q c t : Nat} (h : q < t) (hq : q < l.length) : (modL l q c).drop t = l.drop t := by
  unfold modL
  have e : t = (l.take q).length + (1 + (t - q - 1)) := by rw [List.length_take]; omega
  rw [e, List.drop_length_add_append, Nat.add_comm 1, List.drop_succ_cons, List.drop_drop]
  congr 1
  rw [List.length_take]
  omega
/-- a word in the place of a piece of the text, with one letter unlike -/
structure Chg (ws : List Str) (l : List Nat) (s : Nat) (w : Str) (q : Nat) : Prop where
  mem : w ∈ ws
  head : rowB ws (l.take s) = true
  fit : s + w.length ≤ l.length
  tail : rowB ws (l.drop (s + w.length)) = true
  lo : s ≤ q
  hi : q < s + w.length
  ahead : (cs w).take (q - s) = (l.drop s).take (q - s)
  unlike : (cs w)[q - s]? ≠ l[q]?
  behind : (cs w).drop (q - s + 1) = (l.drop (q + 1)).take (s + w.length - (q + 1))
/-- the letter that it brings -/
def letF (s : Nat) (w : Str) (q : Nat) : Nat := (cs w).getD (q - s) 0
theorem chg_text {ws : List Str} {l : List Nat} {s q : Nat} {w : Str} (h : Chg ws l s w q) : modL l q (letF s w q) = l.take s ++ (cs w ++ l.drop (s + w.length)) := by
  have lw : (cs w).length = w.length := cs_len w
  have h1 := h.lo
  have h2 := h.hi
  have h3 := h.fit
  have e1 : cs w = (cs w).take (q - s) ++ letF s w q :: (cs w).drop (q - s + 1) := by
    have lt : q - s < (cs w).length := by omega
    have g : letF s w q = (cs w)[q - s] := by
      unfold letF
      rw [List.getD_eq_getElem?_getD, List.getElem?_eq_getElem lt]
      rfl
    rw [g, ← List.drop_eq_getElem_cons lt, List.take_append_drop]
  have e2 : l.take q = l.take s ++ (l.drop s).take (q - s) := by
    have z := List.take_add (l := l) (i := s) (j := q - s)
    rw [show s + (q - s) = q by omega] at z
    exact z
  have e3 : l.drop (q + 1) = (l.drop (q + 1)).take (s + w.length - (q + 1)) ++ l.drop (s + w.length) := by
    have z := (List.take_append_drop (s + w.length - (q + 1)) (l.drop (q + 1))).symm
    rw [List.drop_drop, show q + 1 + (s + w.length - (q + 1)) = s + w.length by omega] at z
    exact z
  unfold modL
  rw [e2, ← h.ahead, e3, ← h.behind]
  conv => rhs; rw [e1]
  simp only [List.append_assoc, List.cons_append]
theorem row_of_text {ws : List Str} (F : Free2 ws) {a b : List Nat} {w : Str} (mw : w ∈ ws) (ha : rowB ws a = true) (hb : rowB ws b = true) : Cut ws (a ++ (cs w ++ b)) (rowR ws a ++ w :: rowR ws b) [] := by
  have ca := row_cut F ha
  have cb := row_cut F hb
  have ta := cut_text ca
  rw [List.append_nil] at ta
  have z := cut_app (rowR ws a) (cut_mem ca) (Cut.go mw cb)
  rw [← ta] at z
  exact z
theorem chg_row {ws : List Str} (F : Free2 ws) {l : List Nat} {s q : Nat} {w : Str} (h : Chg ws l s w q) : Cut ws (modL l q (letF s w q)) (rowR ws (l.take s) ++ w :: rowR ws (l.drop (s + w.length))) [] := by
  rw [chg_text h]
  exact row_of_text F h.mem h.head h.tail
/-- in a row each place lies in one word alone -/
theorem one_word {A A' B B' : List Str} {w w' : Str} {q : Nat} (e : A ++ w :: B = A' ++ w' :: B') (h1 : (A.map cs).flatten.length ≤ q) (h2 : q < (A.map cs).flatten.length + w.length) (h3 : (A'.map cs).flatten.length ≤ q) (h4 : q < (A'.map cs).flatten.length + w'.length) : A = A' ∧ w = w' := by
  induction A generalizing A' q with
  | nil =>
    cases A' with
    | nil =>
      rw [List.nil_append, List.nil_append, List.cons.injEq] at e
      exact ⟨rfl, e.1⟩
    | cons a A' =>
      rw [List.nil_append, List.cons_append, List.cons.injEq] at e
      obtain ⟨rfl, _⟩ := e
      rw [List.map_cons, List.flatten_cons, List.length_append, cs_len] at h3
      have h2 : q < 0 + w.length := h2
      omega
  | cons a A ih =>
    cases A' with
    | nil =>
      rw [List.nil_append, List.cons_append, List.cons.injEq] at e
      obtain ⟨rfl, _⟩ := e
      rw [List.map_cons, List.flatten_cons, List.length_append, cs_len] at h1
      have h4 : q < 0 + a.length := h4
      omega
    | cons a' A' =>
      rw [List.cons_append, List.cons_append, List.cons.injEq] at e
      obtain ⟨rfl, e⟩ := e
      rw [List.map_cons, List.flatten_cons, List.length_append, cs_len] at h1 h2 h3 h4
      obtain ⟨i1, i2⟩ := ih (q := q - a.length) e (by omega) (by omega) (by omega) (by omega)
      exact ⟨by rw [i1], i2⟩
theorem row_len {ws : List Str} (F : Free2 ws) {a : List Nat} (h : rowB ws a = true) : ((rowR ws a).map cs).flatten.length = a.length := by
  have t := cut_text (row_cut F h)
  rw [List.append_nil] at t
  rw [← t]
theorem chg_one {ws : List Str} (F : Free2 ws) {l : List Nat} {s s' q : Nat} {w w' : Str} (h : Chg ws l s w q) (h' : Chg ws l s' w' q) (e : letF s w q = letF s' w' q) : s = s' ∧ w = w' := by
  have c := chg_row F h
  have c' := chg_row F h'
  rw [e] at c
  have r := (cut_one F c c').1
  have l1 := row_len F h.head
  have l2 := row_len F h'.head
  have b1 := h.fit
  have b2 := h'.fit
  rw [List.length_take, Nat.min_eq_left (by omega)] at l1 l2
  have a1 := h.lo
  have a2 := h.hi
  have a3 := h'.lo
  have a4 := h'.hi
  obtain ⟨z1, z2⟩ := one_word r (q := q) (by omega) (by omega) (by omega) (by omega)
  refine ⟨?_, z2⟩
  rw [← l1, ← l2, z1]
/-- the word that a place of a row lies in -/
theorem word_at : ∀ (R : List Str) (q : Nat), q < (R.map cs).flatten.length → ∃ A w B, R = A ++ w :: B ∧ (A.map cs).flatten.length ≤ q ∧ q < (A.map cs).flatten.length + w.length
  | [], q, h => absurd h (Nat.not_lt_zero _)
  | w :: R, q, h => by
    by_cases g : q < w.length
    · exact ⟨[], w, R, rfl, Nat.zero_le _, by show q < 0 + w.length; omega⟩
    · rw [List.map_cons, List.flatten_cons, List.length_append, cs_len] at h
      obtain ⟨A, v, B, e, h1, h2⟩ := word_at R (q - w.length) (by omega)
      refine ⟨w :: A, v, B, by rw [e]; rfl, ?_, ?_⟩
      · rw [List.map_cons, List.flatten_cons, List.length_append, cs_len]
        omega
      · rw [List.map_cons, List.flatten_cons, List.length_append, cs_len]
        omega
/-- each row that differs in one letter comes of a word -/
theorem chg_of {ws : List Str} (F : Free2 ws) {l : List Nat} {q c : Nat} (hq : q < l.length) (ne : l[q]? ≠ some c) (h : rowB ws (modL l q c) = true) : ∃ s w, Chg ws l s w q ∧ letF s w q = c := by
  have cc := row_cut F h
  generalize rowR ws (modL l q c) = R at cc
  have t := cut_text cc
  rw [List.append_nil] at t
  have ml := modL_len (c := c) hq
  obtain ⟨A, w, B, rfl, h1, h2⟩ := word_at R q (by rw [← t, ml]; exact hq)
  have mem := cut_mem cc
  rw [List.map_append, List.map_cons, List.flatten_append, List.flatten_cons] at t
  generalize ea : (A.map cs).flatten = a at t h1 h2
  generalize eb : (B.map cs).flatten = b at t
  have lw : (cs w).length = w.length := cs_len w
  have lt : a.length + (w.length + b.length) = l.length := by
    have z := congrArg List.length t
    rw [ml, List.length_append, List.length_append, lw] at z
    exact z.symm
  have ta : l.take a.length = a := by
    rw [← modL_take (c := c) h1 (by omega), t, List.take_left]
  have tb : l.drop (a.length + w.length) = b := by
    rw [← modL_drop (c := c) h2 hq, t, ← List.drop_drop, List.drop_left, ← lw, List.drop_left]
  have tw : cs w = ((modL l q c).drop a.length).take w.length := by
    rw [t, List.drop_left, ← lw, List.take_left]
  have rA : rowB ws a = true := by
    have z := cut_words F.one A fun v mv => mem v (List.mem_append_left _ mv)
    rw [ea] at z
    rw [rowB_of F z]
    rfl
  have rB : rowB ws b = true := by
    have z := cut_words F.one B fun v mv => mem v (List.mem_append_right _ (List.mem_cons_of_mem _ mv))
    rw [eb] at z
    rw [rowB_of F z]
    rfl
  have at_q : (modL l q c)[q]? = some c := by
    unfold modL
    rw [List.getElem?_append_right (by rw [List.length_take]; omega), List.length_take, Nat.min_eq_left (by omega), Nat.sub_self]
    rfl
  have wq : (cs w)[q - a.length]? = some c := by
    rw [tw, List.getElem?_take_of_lt (by omega), List.getElem?_drop, show a.length + (q - a.length) = q by omega]
    exact at_q
  refine ⟨a.length, w, ⟨mem w (List.mem_append_right _ (List.mem_cons_self ..)), by rw [ta]; exact rA, by omega, by rw [tb]; exact rB, h1, h2, ?_, ?_, ?_⟩, ?_⟩
  · have z : (cs w).take (q - a.length) = ((modL l q c).drop a.length).take (q - a.length) := by
      rw [tw, List.take_take, Nat.min_eq_left (by omega)]
    have z2 : ((modL l q c).drop a.length).take (q - a.length) = (l.drop a.length).take (q - a.length) := by
      rw [List.take_drop, List.take_drop, show a.length + (q - a.length) = q by omega, modL_take (Nat.le_refl _) (by omega)]
    rw [z, z2]
  · rw [wq]
    exact fun z => ne z.symm
  · have z : (cs w).drop (q - a.length + 1) = ((modL l q c).drop (q + 1)).take (w.length - (q - a.length + 1)) := by
      rw [tw, List.drop_take, List.drop_drop, show a.length + (q - a.length + 1) = q + 1 by omega]
    rw [z, modL_drop (Nat.lt_succ_self q) hq]
    congr 1
    omega
  · unfold letF
    rw [List.getD_eq_getElem?_getD, wq]
    rfl
end XNr

/-! the places up to which a text is a row of words, and those from which on it is one; as the keys of a dict -/
namespace XHt
open PySem PySem.Spec PyProof.Rows L2 XSt NX XFd XCf
/-- the ends of the words of a row, its start too -/
def endsL : Nat → List Str → List Nat
  | s, [] => [s]
  | s, w :: R => s :: endsL (s + w.length) R
/-- the letters of a row -/
def lenR (R : List Str) : Nat := (R.map cs).flatten.length
theorem lenR_nil : lenR [] = 0 := rfl
theorem lenR_cons (w : Str) (R : List Str) : lenR (w :: R) = w.length + lenR R := by
  unfold lenR
  rw [List.map_cons, List.flatten_cons, List.length_append, cs_len]
theorem lenR_app (A B : List Str) : lenR (A ++ B) = lenR A + lenR B := by
  unfold lenR
  rw [List.map_append, List.flatten_append, List.length_append]
theorem lenR_rev (R : List Str) : lenR R.reverse = lenR R := by
  induction R with
  | nil => rfl
  | cons w R ih =>
    rw [List.reverse_cons, lenR_app, ih, lenR_cons, lenR_cons, lenR_nil]
    omega
theorem ends_snoc (w : Str) : ∀ (R : List Str) (s : Nat), endsL s (R ++ [w]) = endsL s R ++ [s + lenR R + w.length]
  | [], s => rfl
  | v :: R, s => by
    show s :: endsL (s + v.length) (R ++ [w]) = s :: (endsL (s + v.length) R ++ [_])
    rw [ends_snoc w R, lenR_cons]
    congr 4
    omega
theorem ends_len : ∀ (R : List Str) (s : Nat), (endsL s R).length = R.length + 1
  | [], _ => rfl
  | v :: R, s => congrArg (· + 1) (ends_len R _)
theorem mem_ends {t : Nat} : ∀ (R : List Str) (s : Nat), t ∈ endsL s R ↔ ∃ A B, R = A ++ B ∧ t = s + lenR A
  | [], s => by
    constructor
    · intro h
      exact ⟨[], [], rfl, List.mem_singleton.mp h⟩
    · rintro ⟨A, B, e, rfl⟩
      obtain ⟨rfl, rfl⟩ := List.append_eq_nil_iff.mp e.symm
      exact List.mem_singleton.mpr rfl
  | v :: R, s => by
    show t ∈ s :: endsL (s + v.length) R ↔ _
    rw [List.mem_cons, mem_ends R]
    constructor
    · rintro (rfl | ⟨A, B, rfl, rfl⟩)
      · exact ⟨[], v :: R, rfl, rfl⟩
      · exact ⟨v :: A, B, rfl, by rw [lenR_cons]; omega⟩
    · rintro ⟨A, B, e, rfl⟩
      cases A with
      | nil => exact .inl rfl
      | cons a A =>
        rw [List.cons_append, List.cons.injEq] at e
        obtain ⟨rfl, rfl⟩ := e
        exact .inr ⟨A, B, rfl, by rw [lenR_cons]; omega⟩
theorem ends_low : ∀ (R : List Str) (s t : Nat), t ∈ endsL s R → s ≤ t := fun R s t h => by
  obtain ⟨A, B, _, rfl⟩ := (mem_ends R s).mp h
  omega
theorem ends_asc : ∀ (R : List Str) (s : Nat), (∀ w ∈ R, 1 ≤ w.length) → (endsL s R).Pairwise (· < ·)
  | [], _, _ => List.pairwise_singleton _ _
  | v :: R, s, h => by
    refine List.Pairwise.cons (fun t m => ?_) (ends_asc R _ fun w m => h w (List.mem_cons_of_mem _ m))
    have z := ends_low R _ t m
    have h1 := h v (List.mem_cons_self ..)
    omega
theorem cut_len {ws : List Str} {l : List Nat} {R : List Str} {e : List Nat} (c : Cut ws l R e) : lenR R + e.length = l.length := by
  have z := congrArg List.length (cut_text c)
  rw [List.length_append] at z
  exact z.symm
theorem cutE_len {ws : List Str} {l : List Nat} {R : List Str} {e : List Nat} (c : CutE ws l R e) : lenR R + e.length = l.length := by
  have z := congrArg List.length (cutE_text c)
  rw [List.length_append] at z
  have := lenR_rev R
  unfold lenR at this ⊢
  omega
/-- up to there the text is a row -/
theorem heads_iff {ws : List Str} (F : Free2 ws) {l : List Nat} {R : List Str} {e : List Nat} (c : Cut ws l R e) (t : Nat) : t ∈ endsL 0 R ↔ t ≤ l.length ∧ rowB ws (l.take t) = true := by
  rw [mem_ends]
  constructor
  · rintro ⟨A, B, rfl, rfl⟩
    have z := cut_text c
    rw [List.map_append, List.flatten_append, List.append_assoc] at z
    have n := cut_len c
    rw [lenR_app] at n
    refine ⟨by omega, ?_⟩
    have tk : l.take (0 + lenR A) = (A.map cs).flatten := by
      rw [Nat.zero_add, z]
      exact List.take_left
    rw [tk, rowB_of F (cut_words F.one A fun v mv => cut_mem c v (List.mem_append_left _ mv))]
    rfl
  · rintro ⟨le, h⟩
    have ca := row_cut F h
    obtain ⟨r2, e2, c2⟩ := cut_ex F.one _ (l.drop t) (Nat.le_refl _)
    have z := cut_app (rowR ws (l.take t)) (cut_mem ca) c2
    have ta := cut_text ca
    rw [List.append_nil] at ta
    rw [← ta, List.take_append_drop] at z
    refine ⟨_, r2, (cut_one F c z).1, ?_⟩
    have n := cut_len ca
    rw [List.length_take] at n
    have e0 : ([] : List Nat).length = 0 := rfl
    omega
/-- from there on the text is a row -/
theorem tails_iff {ws : List Str} (F : Free2 ws) {l : List Nat} {R : List Str} {e : List Nat} (c : CutE ws l R e) (t : Nat) : t ≤ l.length → (l.length - t ∈ endsL 0 R ↔ rowB ws (l.drop t) = true) := by
  intro le
  rw [mem_ends]
  constructor
  · rintro ⟨A, B, rfl, h⟩
    have z := cutE_text c
    rw [List.reverse_append, List.map_append, List.flatten_append] at z
    have mA : ∀ v ∈ A, v ∈ ws := fun v mv => cutE_mem c v (List.mem_append_left _ mv)
    have n := cutE_len c
    rw [lenR_app] at n
    have rv := lenR_rev A
    have rb := lenR_rev B
    have dr : l.drop t = (A.reverse.map cs).flatten := by
      rw [z, ← List.append_assoc]
      have e1 : (e ++ (B.reverse.map cs).flatten).length = t := by
        rw [List.length_append]
        unfold lenR at n rv rb h
        omega
      rw [← e1]
      exact List.drop_left
    rw [dr, rowB_of F (cut_words F.one A.reverse fun v mv => mA v (List.mem_reverse.mp mv))]
    rfl
  · intro h
    have ca := row_cut F h
    have ta := cut_text ca
    rw [List.append_nil] at ta
    obtain ⟨r2, e2, c2⟩ := cutE_ex F.one _ (l.take t) (Nat.le_refl _)
    have mr : ∀ w ∈ (rowR ws (l.drop t)).reverse, w ∈ ws := fun w m => cut_mem ca w (List.mem_reverse.mp m)
    have z := cutE_app (rowR ws (l.drop t)).reverse mr c2
    rw [List.reverse_reverse, ← ta, List.take_append_drop] at z
    refine ⟨_, r2, (cutE_uni F c z).1, ?_⟩
    have n := cut_len ca
    rw [List.length_drop] at n
    have e0 : ([] : List Nat).length = 0 := rfl
    rw [lenR_rev]
    omega
theorem back_iff {ws : List Str} (F : Free2 ws) {l : List Nat} {R : List Str} {e : List Nat} (c : CutE ws l R e) (t : Nat) : t ∈ (endsL 0 R).map (fun k => l.length - k) ↔ t ≤ l.length ∧ rowB ws (l.drop t) = true := by
  have n := cutE_len c
  constructor
  · intro h
    obtain ⟨k, mk, rfl⟩ := List.mem_map.mp h
    refine ⟨Nat.sub_le .., ?_⟩
    rw [← tails_iff F c _ (Nat.sub_le ..)]
    obtain ⟨A, B, e1, e2⟩ := (mem_ends R 0).mp mk
    have z := congrArg lenR e1
    rw [lenR_app] at z
    rw [show l.length - (l.length - k) = k by omega]
    exact mk
  · rintro ⟨le, h⟩
    rw [← tails_iff F c t le] at h
    exact List.mem_map.mpr ⟨_, h, by omega⟩
/-- numbers as the keys of a dict -/
def kvT (L : List Nat) : List (Key × V) := L.map fun (i : Nat) => (kI (i : Int), V.bl true)
theorem kvT_len (L : List Nat) : (kvT L).length = L.length := List.length_map ..
theorem kvT_val (i : Nat) : ∀ L : List Nat, valV (kvT L) (kI (i : Int)) = if i ∈ L then some (.bl true) else none
  | [] => rfl
  | j :: L => by
    have ih := kvT_val i L
    show valV ((kI (j : Int), V.bl true) :: kvT L) _ = _
    by_cases e : j = i
    · rw [valV_pos (by rw [e]), if_pos (by rw [e]; exact List.mem_cons_self ..)]
    · rw [valV_neg (by intro z; have z2 : (j : Int) = (i : Int) := Sum.inl.inj z; omega), ih]
      by_cases m : i ∈ L
      · rw [if_pos m, if_pos (List.mem_cons_of_mem _ m)]
      · rw [if_neg m, if_neg (fun z => by rcases List.mem_cons.mp z with z | z; exact e z.symm; exact m z)]
theorem kvT_is (i : Nat) (L : List Nat) : (valV (kvT L) (kI (i : Int))).isSome = decide (i ∈ L) := by
  rw [kvT_val]
  by_cases m : i ∈ L
  · rw [if_pos m, decide_eq_true m]
    rfl
  · rw [if_neg m, decide_eq_false m]
    rfl
end XHt

/-! the way from an index on; whether a value is a way -/
namespace B17
open PySem PySem.Spec PyProof.Rows L2 XSt NX XB XE XFd XFl XF XWy XCf XHt
open PySem.W (Frag)
abbrev sCutsFrom : Stmt := top 44
abbrev sIsWay : Stmt := top 43
theorem upd_id {H : Hp} {a : Addr} {o : HO} (h : H a = some o) : H = upd H a o := by
  funext b
  by_cases e : b = a
  · rw [e, upd_same, h]
  · rw [upd_ne e]
def natV (n : Nat) : V := V.int (n : Int)
/-- the way that begins at an index -/
def wayF (ws : List Str) (l : List Nat) (s : Nat) : List Nat := endsL s (rowR ws (l.drop s))
def spCutsFrom : Sp := fun vs H Q _ => ∃ (d : Addr) (i : Nat) (ws : List Str) (y : Str), vs = [.ref d, .int (i : Int)] ∧ H d = some (.dK (kvF (foundD y ws))) ∧ Asks ws y ∧ i ≤ y.length ∧
  ∀ p H', Ext H H' → H' p = some (.tup ((wayF ws (cs y) i).map natV)) → Q (.ref p) H'
def isWayV (ws : List Str) (y : Str) : List V → Bool
  | .int s :: r => (V.int s :: r).all longV && (decide (0 ≤ s) && decide (s ≤ (y.length : Int)) && !shutB ws ((cs y).take s.toNat) && decide (V.int s :: r = (wayF ws (cs y) s.toNat).map natV))
  | _ => false
def spIsWay (K : Frag) (C : Addr) : Sp := fun vs H Q _ => ∃ (b : Addr) (ws : List Str) (y : Str) (v : V), vs = [.ref b, .str y, v] ∧ BT K C H b ws y ∧ ((NoTuple K H v ∧ ∀ H', Ext H H' → Q (.bl false) H') ∨ ∃ p zs, v = .ref p ∧ SqT K H p zs ∧ zs.length ≤ 4000 ∧ (∀ z ∈ zs, Asked K H z) ∧
  ∀ H', Ext H H' → Q (.bl (isWayV ws y zs)) H')
theorem longs_int : ∀ {zs : List V}, zs.all longV = true → ∃ ns : List Int, zs = ns.map V.int
  | [], _ => ⟨[], rfl⟩
  | z :: zs, h => by
    rw [List.all_cons, Bool.and_eq_true] at h
    obtain ⟨ns, rfl⟩ := longs_int h.2
    cases z with
    | int i => exact ⟨i :: ns, rfl⟩
    | _ => cases h.1
theorem ints_dp {K : Frag} {H : Hp} : ∀ ns : List Int, DpAll K H (ns.map V.int) (ns.map PyData.int)
  | [] => .nil
  | n :: ns => .cons (.int n) (ints_dp ns)
theorem ints_shT (l : List Int) : SeqAt.shaped (.tuple (l.map PyData.int)) = true := by
  unfold SeqAt.shaped
  have a : ∀ l : List Int, PyData.canLayAll0 (l.map PyData.int) = true := fun l => by
    induction l with
    | nil => rfl
    | cons i l ih => exact ih
  have b : ∀ l : List Int, PyData.depthAll (l.map PyData.int) = 0 := fun l => by
    induction l with
    | nil => rfl
    | cons i l ih => simpa [PyData.depthAll, PyData.depth] using ih
  rw [Bool.and_eq_true, decide_eq_true_eq]
  refine ⟨a l, ?_⟩
  simp [PyData.depth, b]
theorem eqvAll_ints : ∀ a b : List Int, PyData.eqvAll (a.map PyData.int) (b.map PyData.int) = decide (a = b)
  | [], [] => rfl
  | [], _ :: _ => by simp [PyData.eqvAll]
  | _ :: _, [] => by simp [PyData.eqvAll]
  | x :: a, y :: b => by
    show (PyData.eqv (.int x) (.int y) && PyData.eqvAll (a.map PyData.int) (b.map PyData.int)) = _
    rw [eqvAll_ints a b]
    show ((x == y) && decide (a = b)) = _
    by_cases e : x = y
    · subst e
      by_cases e2 : a = b
      · rw [e2]; simp
      · rw [decide_eq_false e2, decide_eq_false (fun z => e2 (List.cons.inj z).2), Bool.and_false]
    · rw [decide_eq_false (fun z => e (List.cons.inj z).1), show (x == y) = false from beq_eq_false_iff_ne.mpr e, Bool.false_and]
theorem eqv_ints (a b : List Int) : PyData.eqv (.tuple (a.map PyData.int)) (.tuple (b.map PyData.int)) = decide (a = b) := eqvAll_ints a b
theorem nat_ints (l : List Nat) : l.map natV = (l.map fun (n : Nat) => (n : Int)).map V.int := by
  rw [List.map_map]
  rfl
theorem int_inj {a b : List Int} (h : a.map V.int = b.map V.int) : a = b := by
  induction a generalizing b with
  | nil => cases b with
    | nil => rfl
    | cons _ _ => cases h
  | cons x a ih => cases b with
    | nil => cases h
    | cons y b =>
      rw [List.map_cons, List.map_cons, List.cons.injEq] at h
      rw [V.int.inj h.1, ih h.2]
theorem way_row {ws : List Str} (F : Free2 ws) {l : List Nat} {s : Nat} {R : List Str} {e : List Nat} (c : Cut ws (l.drop s) R e) : endsL s R = wayF ws l s := by
  unfold wayF rowR
  rw [(cut_one F c (cutF_cut F.one _ _ (Nat.le_refl _))).1]
theorem way_pos (ws : List Str) (l : List Nat) (s : Nat) : ∃ r, wayF ws l s = s :: r := by
  unfold wayF
  cases rowR ws (l.drop s) with
  | nil => exact ⟨[], rfl⟩
  | cons w R => exact ⟨_, rfl⟩
section
variable {P : Program} {w : World} {K : Frag} {mg : Str → Option Value} {base : Heap} {f C : Addr} {fd : FuncData}
theorem scCutsFrom : FnScope ["found", "start", "cuts", "word"] ["found", "start"] (defScope sCutsFrom) := ⟨rfl, rfl, rfl, by decide +kernel, rfl, by decide +kernel, by decide +kernel⟩
theorem scIsWay : FnScope ["book", "text", "value", "found", "start", "index"] ["book", "text", "value"] (defScope sIsWay) := ⟨rfl, rfl, rfl, by decide +kernel, rfl, by decide +kernel, by decide +kernel⟩
theorem ok_cuts_from (F : FnP K "_cuts_from" sCutsFrom f fd) (M : Free mg) (DR : Def P w K mg base CX0 1 "row_from" ["found", "start"] spRowFrom) : FnOk P w K mg base CX0 2 f fd ["found", "start"] spCutsFrom := by
  obtain ⟨fR, dR, FR, gR, kR, bR⟩ := DR.ex
  refine F.ok scCutsFrom (fun vs H Q E h => ?_) (fun cdv A outer s H vs Q E hr h => ?_)
  · obtain ⟨d, i, ws, y, rfl, _⟩ := h
    rfl
  · obtain ⟨d, i, ws, y, rfl, ed, as, il, q⟩ := h
    have hs : sizeLine = 16777216 := sizeLine_eq
    have yl := as.len
    refine ⟨_, PSs.nox (pss_cons (ps_set (i := 2) scCutsFrom.nd rfl (.inl rfl) (pe_lst (pa_cons (pv 1) pa_nil)))
      (pss_cons (ps_for PassesOwn.never rfl (pi_list (pe_call FR (hr.mono (by decide)) (by rfl) gR kR bR .nil pass0 (pa_cons (pv 0) (pa_cons (pv 1) pa_nil)))) (pg_name (i := 3) scCutsFrom.nd rfl (.inl rfl))
        (pss_one (ps_expr (pe_bm PySem.F.plainAttrs_list PySem.F.slot_list_append PySem.F.type_list_append mt_append (pv 2) (pa_cons (pe_op op_add (pe_ix ix_list (pv 2) (pe_un un_neg pe_int) (fun _ _ => rfl)) (pe_callB call_len (by rfl) M.len PySem.boot_len (pa_cons (pv 3) pa_nil))) pa_nil)))))
      (pss_one (ps_ret (pe_callTy call_tuple_of (by rfl) M.tuple (by decide +kernel) (pa_cons (pv 2) pa_nil)))))), ?_⟩
    refine ⟨_, rfl, by show 1 ≤ sizeLine; decide, fun l hl => ?_⟩
    have x1 := (Ext.refl H).new hl (o := .lst [.int (i : Int)])
    have el : (upd H l (.lst [.int (i : Int)])) l = some (.lst [.int (i : Int)]) := upd_same
    generalize upd H l (.lst [.int (i : Int)]) = H1 at x1 el ⊢
    refine ⟨_, rfl, _, rfl, d, i, ws, y, rfl, x1 _ _ ed, as, il, fun r R e H2 k2 ct er => ?_⟩
    refine ⟨r, rfl, ⟨_, SqL.of er⟩, ?_⟩
    have lRy : R.length ≤ y.length := by
      have z := row_len as.free.one ct
      rw [List.length_drop, cs_len] at z
      omega
    have el2 := k2 _ _ el
    have nlr : l ≠ r := fun z => by
      rw [z, er] at el2
      cases R with
      | nil => cases el2
      | cons a R => cases el2
    have lens : ∀ w ∈ R, w.length ≤ y.length := fun w mw => by
      have t := congrArg List.length (cut_text ct)
      have m : ∀ R : List Str, w ∈ R → w.length ≤ (R.map cs).flatten.length := fun R => by
        induction R with
        | nil => intro z; cases z
        | cons a R ih =>
          intro z
          rw [List.map_cons, List.flatten_cons, List.length_append, cs_len]
          rcases List.mem_cons.mp z with rfl | z
          · omega
          · have := ih z; omega
      have := m R mw
      rw [List.length_append, List.length_drop, cs_len] at t
      omega
    refine for_list (xs := R.map V.str) (fun a σ H3 => (∃ o3, σ = [some (.ref d), some (.int (i : Int)), some (.ref l), o3]) ∧ H3 l = some (.lst ((endsL i (R.take a)).map natV)) ∧ ∃ o, H3 = upd H2 l o) ⟨⟨_, rfl⟩, el2, _, upd_id el2⟩ (fun a σ H3 _ z => by obtain ⟨_, _, o, rfl⟩ := z; exact SqL.of (by rw [upd_ne nlr.symm]; exact er)) ?_ ?_
    · rintro a v σ H3 ev ⟨⟨o3, rfl⟩, e3, o, hH⟩
      rw [List.getElem?_map] at ev
      cases gi : R[a]? with
      | none => rw [gi] at ev; cases ev
      | some w =>
        rw [gi] at ev
        obtain rfl : V.str w = v := Option.some.inj ev
        have la := (List.getElem?_eq_some_iff.mp gi).1
        have lw := lens w (List.mem_of_getElem? gi)
        have tk : R.take (a + 1) = R.take a ++ [w] := by rw [List.take_succ, gi]; rfl
        have en := ends_snoc w (R.take a) i
        have ll := ends_len (R.take a) i
        have lt : (R.take a).length ≤ R.length := by rw [List.length_take]; exact Nat.min_le_right ..
        have last : ∀ (S : List Str) (j : Nat), ∃ pre, endsL j S = pre ++ [j + lenR S] := fun S => by
          induction S with
          | nil => intro j; exact ⟨[], rfl⟩
          | cons b S ih =>
            intro j
            obtain ⟨pre, ep⟩ := ih (j + b.length)
            refine ⟨j :: pre, ?_⟩
            show j :: endsL (j + b.length) S = _
            rw [ep, lenR_cons, Nat.add_assoc]
            rfl
        obtain ⟨pre, ep⟩ := last (R.take a) i
        refine ⟨_, rfl, .inl ⟨rfl, _, SqL.of e3⟩, _, rfl, _, rfl, l, _, _, .int ((i + lenR (R.take a) : Nat) : Int), rfl, rfl, SqL.of e3, by rw [ep, List.map_append]; exact atI_last _ _, _, rfl, _, w.length, rfl, ⟨by omega, rfl⟩, _, _, rfl, rfl, ?_⟩
        refine ⟨l, _, _, rfl, rfl, e3, by rw [List.length_map, ll]; omega, ⟨_, rfl⟩, ?_, .lst ((endsL i (R.take a)).map natV ++ [V.int (((i + lenR (R.take a) : Nat) : Int) + (w.length : Int))]), by rw [hH, upd_upd]⟩
        rw [upd_same, tk, en, List.map_append]
        show _ = some (HO.lst (_ ++ [V.int ((i + lenR (R.take a) + w.length : Nat) : Int)]))
        have z : ((i + lenR (R.take a) + w.length : Nat) : Int) = ((i + lenR (R.take a) : Nat) : Int) + (w.length : Int) := Int.natCast_add _ _
        rw [z]
    · rintro σ H3 ⟨⟨o3, rfl⟩, e3, o, hH⟩
      rw [List.length_map, List.take_length, way_row as.free ct] at e3
      refine ⟨_, rfl, l, _, rfl, .inl ⟨SqL.of e3, fun p hp => ?_⟩⟩
      have xx : Ext H H3 := fun b ob eb => by
        rw [hH, upd_ne (ne_of_none eb hl)]
        exact k2 _ _ (x1 _ _ eb)
      exact q p _ (xx.new hp) upd_same
theorem ok_is_way (F : FnP K "is_way" sIsWay f fd) (M : Free mg) (mA : mg "all" = none) (DI : Def P w K mg base CX0 1 "is_integer" ["value"] (spIsInteger K)) (DW : Def P w K mg base CX0 5 "words_at" ["book", "text"] (spWordsAt K C)) (DA : Def P w K mg base CX0 1 "words_ahead" ["found"] spAhead)
    (DC : Def P w K mg base CX0 2 "_cuts_from" ["found", "start"] spCutsFrom) : FnOk P w K mg base CX0 6 f fd ["book", "text", "value"] (spIsWay K C) := by
  obtain ⟨fI, dI, FI, gI, kII, bI⟩ := DI.ex
  obtain ⟨fW, dW, FW, gW, kW, bW⟩ := DW.ex
  obtain ⟨fA, dA, FA, gA, kA, bA⟩ := DA.ex
  obtain ⟨fC, dC, FC, gC, kC, bC⟩ := DC.ex
  refine F.ok scIsWay (fun vs H Q E h => ?_) (fun cdv A outer s H vs Q E hr h => ?_)
  · obtain ⟨b, ws, y, v, rfl, _⟩ := h
    rfl
  · obtain ⟨b, ws, y, v, rfl, bt, way⟩ := h
    have hs : sizeLine = 16777216 := sizeLine_eq
    have as : Asks ws y := bt.choose_spec.2.2.2.2
    have FR := as.free
    have yl := as.len
    refine ⟨_, PSs.nox (pss_cons (ps_set (i := 3) scIsWay.nd rfl (.inl rfl) (pe_call FW (hr.mono (by decide)) (by rfl) gW kW bW .nil pass0 (pa_cons (pv 0) (pa_cons (pv 1) pa_nil))))
      (pss_cons (ps_if (PW.pt (pw_or (pt_not (pt_val (pe_callB call_isi (by rfl) M.isi (by decide +kernel) (pa_cons (pv 2) (pa_cons (pe_bltn (v := .ty "tuple") (by rfl) M.tuple (by decide +kernel) rfl) pa_nil)))))
        (pw_or (pt_not (pt_truth (pv 2) (by intro _; rfl))) (pw_or1 (pt_not (pt_val (pe_callB (cr_all rfl) (by rfl) mA (by decide +kernel) (pa_cons (pe_lc (own := [("index", 5)]) (g := gName 5) (tt := tYes) (te := tCall (spIsInteger K) [] E0 (tCons (tVar 5) tNil)) rfl scIsWay.nd (pi_tup (pv 2)) (blkOk_by (N := ["book", "text", "value", "found", "start", "index"]) (sc := defScope sIsWay) (by decide +kernel))
          (fun _ _ _ _ _ => pg_name (i := 5) scIsWay.nd rfl (Or.inl rfl)) (fun _ _ _ _ _ => pts_nil) (fun _ _ _ _ _ => by exact pe_call FI (hr.mono (by decide)) (by rfl) gI kII bI .nil pass0 (pa_cons (pv 5) pa_nil))) pa_nil)))))))) (pss_one (ps_ret pe_bl)) pss_nil)
      (pss_cons (ps_set (i := 4) scIsWay.nd rfl (.inl rfl) (pe_ix ix_tup (pv 2) pe_int (fun _ _ => rfl)))
      (pss_cons (ps_if (PW.pt (pw_or (pt_not (pt_chain op_le op_le pe_int (pv 4) (pe_callB call_len (by rfl) M.len PySem.boot_len (pa_cons (pv 1) pa_nil)))) (pw_or1 (pt_cmp (pc_din (hu_of hr) (pv 4) (pe_call FA (hr.mono (by decide)) (by rfl) gA kA bA .nil pass0 (pa_cons (pv 3) pa_nil))) rfl)))) (pss_one (ps_ret pe_bl)) pss_nil)
      (pss_one (ps_ret (pe_cmpR (op_eqD hr.units) (pv 2) (pe_call FC (hr.mono (by decide)) (by rfl) gC kC bC .nil pass0 (pa_cons (pv 3) (pa_cons (pv 4) pa_nil))) (nomark _)))))))), ?_⟩
    refine ⟨_, rfl, _, rfl, b, ws, y, rfl, bt, fun d H1 k1 ed => ?_⟩
    rcases way with ⟨⟨t, n1, n2⟩, q⟩ | ⟨p, zs, rfl, sq, few, asks, q⟩
    · exact ⟨_, rfl, _, _, t, _, _, rfl, .ty "tuple", tyx_ext k1 n1, n2, _, rfl, iteT (iteT (q _ k1))⟩
    have sq1 := sqT_ext k1 sq
    refine ⟨_, rfl, _, _, _, _, _, rfl, .ty "tuple", sqT_ty sq1, rfl, _, rfl, iteF ?_⟩
    refine ⟨_, rfl, !zs.isEmpty, .inr (.inl ⟨zs, sq1, rfl⟩), ?_⟩
    cases zs with
    | nil => exact iteT (iteT (q _ k1))
    | cons z0 zr =>
    refine iteF ⟨_, rfl, p, rfl, ⟨_, sq1⟩, fun D hD => ?_⟩
    refine walk_it walk_tup (fun i H2 => H2 D = some (.lst ((((z0 :: zr).take i).map longV).map V.bl)) ∧ Ext H1 H2) ⟨upd_same, (Ext.refl _).new hD⟩ (fun i H2 _ z => sqT_ext z.2 sq1) ?_ ?_
    · rintro i v H2 H3 hi ⟨g1, g2⟩ ⟨rfl, ex⟩
      have ask := asked_ext g2 (asked_ext k1 (asks v (List.mem_of_getElem? ex)))
      refine ⟨rfl, ?_⟩
      dsimp only [tYes]
      refine iteT ⟨_, rfl, v, rfl, ask, _, g1, by rw [List.length_map, List.length_map]; have := List.length_take_le' i (z0 :: zr); omega, ?_, fun c o e => ?_⟩
      · rw [take_more ex, List.map_append, List.map_append]
        exact upd_same
      · rw [upd_ne (ne_of_none e hD)]
        exact g2 c o e
    · rintro H2 ⟨g1, g2⟩
      rw [List.take_length] at g1
      have k2 := k1.trans g2
      refine ⟨D, (z0 :: zr).map longV, rfl, SqL.of g1, _, rfl, ?_⟩
      have ea : (((z0 :: zr).map longV).all id) = (z0 :: zr).all longV := by rw [List.all_map]; rfl
      rw [ea]
      cases hall : (z0 :: zr).all longV with
      | false =>
        have e : isWayV ws y (z0 :: zr) = false := by
          cases z0 with
          | int s0 =>
            show ((V.int s0 :: zr).all longV && _) = false
            rw [hall, Bool.false_and]
          | _ => rfl
        rw [e] at q
        exact iteT (q _ k2)
      | true =>
      obtain ⟨ns, ens⟩ := longs_int hall
      obtain ⟨s0, nr, rfl⟩ : ∃ s0 nr, ns = s0 :: nr := by
        cases ns with
        | nil => cases ens
        | cons a b => exact ⟨a, b, rfl⟩
      rw [List.map_cons, List.cons.injEq] at ens
      obtain ⟨rfl, rfl⟩ := ens
      have sq2 := sqT_ext g2 sq1
      have ew : isWayV ws y (V.int s0 :: nr.map V.int) = (decide (0 ≤ s0) && decide (s0 ≤ (y.length : Int)) && !shutB ws ((cs y).take s0.toNat) && decide (V.int s0 :: nr.map V.int = (wayF ws (cs y) s0.toNat).map natV)) := by
        show ((V.int s0 :: nr.map V.int).all longV && _) = _
        rw [hall, Bool.true_and]
      rw [ew] at q
      refine iteF ⟨_, rfl, p, _, _, .int s0, rfl, rfl, sq2, atI_nat (j := 0) rfl, ?_⟩
      refine ⟨_, rfl, _, _, rfl, rfl, _, rfl, ?_⟩
      by_cases h0 : (0 : Int) ≤ s0
      · rw [decide_eq_true h0] at q ⊢
        refine iteT ⟨_, rfl, _, y.length, rfl, ⟨by omega, rfl⟩, _, _, rfl, rfl, _, rfl, ?_⟩
        by_cases h1 : s0 ≤ (y.length : Int)
        · rw [decide_eq_true h1] at q ⊢
          obtain ⟨n, rfl⟩ : ∃ n : Nat, s0 = (n : Int) := ⟨s0.toNat, by omega⟩
          have nl : n ≤ y.length := by omega
          refine iteF ⟨_, rfl, _, rfl, d, ws, y, rfl, g2 _ _ ed, as, fun e H3 k3 ee => ?_⟩
          refine ⟨e, _, rfl, DGet.k (k := kI (n : Int)) ee, _, rfl, ?_⟩
          have vk : (valV (kvF (aheadD y ws)) (kI (n : Int))).isSome = shutB ws ((cs y).take n) := by
            cases hb : shutB ws ((cs y).take n) with
            | true =>
              obtain ⟨w0, m0, h0⟩ := shut_iff.mp hb
              rw [end_some FR (by omega) m0 h0]
              rfl
            | false =>
              rw [end_none FR (by omega) fun w0 m0 h0 => by
                rw [shut_iff.mpr ⟨w0, m0, h0⟩] at hb
                cases hb]
              rfl
          rw [vk]
          rw [show ((n : Int)).toNat = n from Int.toNat_natCast n] at q
          cases hb : shutB ws ((cs y).take n) with
          | true =>
            rw [hb] at q
            exact iteT (q _ (k2.trans k3))
          | false =>
            rw [hb] at q
            refine iteF ⟨_, rfl, _, rfl, _, rfl, d, n, ws, y, rfl, k3 _ _ (g2 _ _ ed), as, nl, fun pw H4 k4 ep => ?_⟩
            rw [nat_ints] at ep
            refine ⟨.tuple (((n : Int) :: nr).map PyData.int), .tuple (((wayF ws (cs y) n).map fun (n : Nat) => (n : Int)).map PyData.int), .tup (sqT_ext (k3.trans k4) sq2) (ints_dp ((n : Int) :: nr)), .tup (SqT.of ep) (ints_dp _), ints_shT _, ints_shT _, ?_⟩
            rw [eqv_ints]
            have z := q _ (k2.trans (k3.trans k4))
            have e9 : decide (V.int (n : Int) :: nr.map V.int = (wayF ws (cs y) n).map natV) = decide ((n : Int) :: nr = (wayF ws (cs y) n).map fun (n : Nat) => (n : Int)) := by
              rw [nat_ints]
              apply decide_eq_decide.mpr
              constructor
              · intro z
                exact int_inj (a := (n : Int) :: nr) z
              · intro z
                rw [← z]
                rfl
            rw [e9] at z
            simpa using z
        · rw [decide_eq_false h1] at q ⊢
          exact iteT (iteT (q _ k2))
      · rw [decide_eq_false h0] at q ⊢
        exact iteF ⟨_, rfl, iteT (iteT (q _ k2))⟩
end
end B17

/-! sorted of a list of plain data; of a dict with any number of whole numbers as keys -/
namespace XSd
open PySem PySem.Spec PyProof.Rows L2 PySem.W
section
variable {X : Cx}
/-- values and what they read as, in order -/
def srtP (ps : List (V × PyData)) : List (V × PyData) := ps.mergeSort (dataLe false Prod.snd)
def rSortD (K : PySem.W.Frag) : List V → Hp → VK → Prop := fun vs H Q => ∃ (l : Addr) (ps : List (V × PyData)), vs = [.ref l] ∧ SqL K H l (ps.map Prod.fst) ∧ DpAll K H (ps.map Prod.fst) (ps.map Prod.snd) ∧
  (∀ p ∈ ps, ∀ q ∈ ps, alike p.2 q.2 = true) ∧ (∀ p ∈ ps, ∃ x r, p.2 = .tuple (x :: r)) ∧ (∀ p ∈ ps, p.2.depth ≤ 60) ∧ ∀ q, H q = none → Q (.ref q) (upd H q (.lst ((srtP ps).map Prod.fst)))
theorem each_of {pins : List (Addr × Obj)} {s : Shared} {σ : L2.St} {H : Hp} (I : Inv X pins σ H s) : ∀ {ps : List (V × PyData)} {us : List Value}, Vals (ps.map Prod.fst) us → DpAll X.K H (ps.map Prod.fst) (ps.map Prod.snd) → EachIs (fun v (p : V × PyData) => RelV p.1 v) us ps ∧ EachIs (fun v (p : V × PyData) => ∃ as, Reads s.heap v p.2 as) us ps
  | [], _, .nil, _ => ⟨.nil, .nil⟩
  | p :: ps, _, .cons r t, .cons d e => ⟨.cons r (each_of I t e).1, .cons (Dp.reads I p.2 p.1 _ d r) (each_of I t e).2⟩
theorem vals_of : ∀ {ps : List (V × PyData)} {us : List Value}, EachIs (fun v (p : V × PyData) => RelV p.1 v) us ps → Vals (ps.map Prod.fst) us
  | _, _, .nil => .nil
  | _, _, .cons r t => .cons r (vals_of t)
theorem cr_sortD (hu : X.A.units + 64 < cLine) : CallR X (.builtin "sorted") (rSortD X.K) := by
  intro pins s σ H vs us Q I r h
  obtain ⟨l, ps, rfl, sq, dp, al, tu, dep, q⟩ := h
  obtain ⟨u, rfl, rx⟩ := vals1 r
  obtain rfl : u = Value.ref l := rx
  obtain ⟨its, rv, pl, hz⟩ := I.list sq
  obtain ⟨e, er⟩ := each_of I rv dp
  have few : ps.length ≤ sizeLine := by rw [List.length_map] at hz; exact hz
  refine sorted_data (enc := Prod.snd) pl.isList e er (fun d hd d' hd' => ?_) (.inl fun d hd => ?_) few (fun p hp => ?_) fun out lo eo => ?_
  · obtain ⟨p, mp, rfl⟩ := List.mem_map.mp hd
    obtain ⟨p', mp', rfl⟩ := List.mem_map.mp hd'
    exact al p mp p' mp'
  · obtain ⟨p, mp, rfl⟩ := List.mem_map.mp hd
    exact tu p mp
  · have := dep p hp
    omega
  · have rv2 : Vals ((srtP ps).map Prod.fst) out := vals_of eo
    have few2 : ((srtP ps).map Prod.fst).length ≤ sizeLine := by
      rw [List.length_map, srtP, List.length_mergeSort]
      exact few
    obtain ⟨ep, he'⟩ := PyProof.Rows.sortedAll_at (vs := its) s.heap out.toArray
    exact ⟨.ref (s.heap.objs.size + 1), upd H (s.heap.objs.size + 1) (.lst ((srtP ps).map Prod.fst)), I.laid (t' := s.toks) (fun _ _ => PyProof.Rows.sortedAll_old) (Nat.le_succ _) ⟨few2, out, ep, rv2, he'⟩, rfl, q _ (I.hok.fresh (Nat.le_succ _))⟩
/-- what is in order already -/
theorem srt_id {ps : List (V × PyData)} (h : ps.Pairwise fun a b => dataLe false Prod.snd a b = true) : srtP ps = ps := List.mergeSort_of_pairwise h
theorem call_sortedDA (hcalm : X.calm = true) : CallR X (.builtin "sorted") (fun xs H Q => ∃ (a : Addr) (kvs : List (L2.Key × V)) (ks : List Int), xs = [.ref a] ∧ Rd H a (.dK kvs) ∧ kvs.map (·.1) = ks.map Sum.inl ∧ ks.length ≤ 16000000 ∧
    ∀ (ys : List Int) (p : Addr), ys.Perm ks → ys.Pairwise (· ≤ ·) → H p = none → Q (.ref p) (upd H p (.lst (ys.map V.int)))) := by
  intro pins s σ H xs us Q I r q
  obtain ⟨a, kvs, ks, ex, hd, hks, h64, q⟩ := q
  subst ex
  obtain ⟨u, eu, rx⟩ := vals1 r
  subst eu
  cases rx
  have hs : sizeLine = 16777216 := sizeLine_eq
  obtain ⟨z, lo, vs, rel, dd⟩ := dk_rd I.hok hd
  obtain ⟨ep, hat⟩ := dd.dictAt
  have hkeys : vs.map (·.1) = ks.map Sum.inl := rel.keys.symm.trans hks
  have hl : vs.length = ks.length := by
    have e := congrArg List.length hkeys
    rw [List.length_map, List.length_map] at e
    exact e
  have h16 : vs.length ≤ sizeLine := by rw [hl]; omega
  refine Calls.call_function_entry PyProof.Rows.kind_sorted PyProof.Rows.plain_sorted PyProof.Rows.entry_sorted (PyProof.Rows.args_sorted1 _) ?_
  unfold Builtin.«sorted»
  refine wpAny_bind (m := checkCount "sorted" 1 1 _) (wpAny_pure ?_)
  refine wpAny_bind (PySem.W.kdu_collect (A := X.A.in1) (PySem.W.kdl_dict (knd := mixKind X.prog X.w) (kvs := vs) (ep := ep) lo) (I.ok.hd hcalm) hat h16 fun h' tk acc hk hacc => ?_)
  have hal : acc.toList.length = ks.length := by rw [Array.length_toList, hacc.1, hl]
  have hS : IntsAre acc.toList ks := ints_each hal fun j v e => by
    obtain ⟨k, x, e1, e2⟩ := hacc.2 j v (by rw [← Array.getElem?_toList]; exact e)
    have e3 : (vs.map (·.1))[j]? = some k := by rw [List.getElem?_map, e1]; rfl
    rw [hkeys, List.getElem?_map] at e3
    cases e4 : ks[j]? with
    | none => rw [e4] at e3; cases e3
    | some y =>
      rw [e4] at e3
      have e5 : Sum.inl y = k := Option.some.inj e3
      subst e5
      rcases keyIs_shape (show keyIs (Sum.inl y) v = true from e2) with ⟨i, t, ek, ev⟩ | ⟨z, t, ek, ev⟩
      · cases ek
        exact ⟨y, t, rfl, ev⟩
      · cases ek
  have I1 : Inv X pins σ H { s with heap := h', toks := tk } := I.kept hk
  refine wpAny_bind (wpAny_newList ?_ (by rw [hal]; omega))
  have hoL : (h'.push (seqObj "list" acc.toList.toArray 0)).get? h'.objs.size = some (seqObj "list" acc.toList.toArray 0) := Heap.get?_push_size _ rfl
  show wpAny _ _ _ _ _ { s with heap := h'.push (seqObj "list" acc.toList.toArray 0), toks := tk }
  refine wpAny_bind (wpAny_holding (wpAny_call_entry PyProof.Rows.slot_list_sort ⟨_, hoL, rfl⟩ PyProof.Rows.entry_list_sort
    (SrtO.list_sort_ord (s := { s with heap := h'.push (seqObj "list" acc.toList.toArray 0), toks := tk }) SrtO.swo_int hoL (by rw [hal]; omega) (fun h2 => SrtO.ints_sortable hS h2) fun out g1 g2 => ⟨_, rfl, ?_⟩) (PyProof.Rows.args_list_sort _)))
  obtain ⟨k1, k2, k3⟩ := SrtO.ints_out hS g1 g2
  obtain ⟨e', he'⟩ := PyProof.Rows.sortedHeap_at (vs := acc.toList) (out := out.toArray) hoL
  have hlen : ((out.map SrtO.iv).map V.int).length ≤ sizeLine := by
    rw [List.length_map, k2.length_eq]
    omega
  refine wpAny_pure ⟨_, rfl, .ref h'.objs.size, upd H h'.objs.size (.lst ((out.map SrtO.iv).map V.int)), I1.laid (t' := tk) (fun b u e => ?_) (Nat.le_refl _)
    (show ObjOk X.prog X.w _ _ _ (.lst ((out.map SrtO.iv).map V.int)) from ⟨hlen, out, e', vals_of_ints k1, he'⟩), rfl, q _ _ k2 k3 (I1.hok.fresh (Nat.le_refl _))⟩
  have hb : b < h'.objs.size := Heap.lt_size e
  rw [PyProof.Rows.sortedHeap_old (Nat.ne_of_lt hb) (by rw [size_push']; exact Nat.lt_succ_of_lt hb)]
  exact Heap.get?_push_of_some _ e
end
end XSd

/-! ways: what is refused; places of any number -/
namespace B17
open PySem PySem.Spec PyProof.Rows L2 XSt NX XB XE XFd XFl XF XCf XWy XSd
open PySem.W (Frag)
abbrev sWays : Stmt := top 41
/-- no book, or no text of its letters -/
def NoBT (K : Frag) (C cB cT : Addr) (H : Hp) (u v : V) (E : XK) : Prop := (NoBook K H u ∧ E (.ref cB) none H) ∨ ∃ b x ws, u = .ref b ∧ BookAt H b C x ws ∧ GoodL x ∧ Asked K H v ∧ textV x 4000 v = false ∧ ∀ H', Ext H H' → E (.ref cT) none H'
def spNoTwo (K : Frag) (C cB cT : Addr) : Sp := fun vs H Q E => ∃ u v, vs = [u, v] ∧ NoBT K C cB cT H u v E
def spNoThree (K : Frag) (C cB cT : Addr) : Sp := fun vs H Q E => ∃ u v t, vs = [u, v, t] ∧ NoBT K C cB cT H u v E
def spGWays (K : Frag) (C cB cT : Addr) : SpG := fun vs H Q E => ∃ u v, vs = [u, v] ∧ NoBT K C cB cT H u v E
/-- exceptions that end no iterator -/
def NoS (K : Frag) (E : XK) : XK := fun cls d H => E cls d H ∧ PySem.W.subIn K cls (.type "StopIteration") = some false
def spPlacesA (K : Frag) (C : Addr) : Sp := fun vs H Q _ => ∃ (b : Addr) (ws : List Str) (y : Str), vs = [.ref b, .str y] ∧ BT K C H b ws y ∧ ∀ p ts H', Ext H H' → H' p = some (.tup (ts.map V.ref)) → PrsAt H' ts (spotsL ws (cs y)) → Q (.ref p) H'
section
variable {P : Program} {w : World} {K : Frag} {mg : Str → Option Value} {base : Heap} {f fB fT C cB cT : Addr} {fd dB dT : FuncData}
theorem scWays : GScope ["book", "text", "found", "ahead", "start"] ["book", "text"] (defScope sWays) := ⟨rfl, rfl, rfl, by decide +kernel, rfl, by decide +kernel, by decide +kernel⟩
theorem ok_placesA (F : FnP K "places" sPlaces f fd) (M : Free mg) (DW : Def P w K mg base CX0 5 "words_at" ["book", "text"] (spWordsAt K C)) : FnOk P w K mg base CX0 6 f fd ["book", "text"] (spPlacesA K C) := by
  obtain ⟨fW, dW, FW, gW, kW, bW⟩ := DW.ex
  refine F.ok scPlaces (fun vs H Q E h => ?_) (fun cdv A outer s H vs Q E hr h => ?_)
  · obtain ⟨b, ws, y, rfl, _⟩ := h
    rfl
  · obtain ⟨b, ws, y, rfl, bt, q⟩ := h
    have hs : sizeLine = 16777216 := sizeLine_eq
    refine ⟨_, PSs.nox (pss_cons (ps_set (i := 2) scPlaces.nd rfl (.inr rfl) (pe_call FW (hr.mono (by decide)) (by rfl) gW kW bW .nil pass0 (pa_cons (pv 0) (pa_cons (pv 1) pa_nil))))
      (pss_one (ps_ret (pe_callTy call_tuple_of (by rfl) M.tuple (by decide +kernel) (pa_cons (pe_lc (own := [("index", 3)]) (g := gName 3) (tt := tYes) (te := tTup (tCons (tVar 3) (tCons (tDGet (tVar 2) (tVar 3)) tNil))) rfl scPlaces.nd (pi_list (pe_callB (call_sortedDA rfl) (by rfl) M.sorted (by decide +kernel) (pa_cons (pv 2) pa_nil))) (blkOk_by (N := ["book", "text", "found", "index"]) (sc := defScope sPlaces) (by decide +kernel))
          (fun _ _ _ _ _ => pg_name (i := 3) scPlaces.nd rfl (Or.inl rfl)) (fun _ _ _ _ _ => pts_nil) (fun _ _ _ _ _ => by exact pe_tup (pa_cons (pv 3) (pa_cons (pe_dget (hu_of hr) (pv 2) (pv 3) (fun _ _ => rfl)) pa_nil)))) pa_nil))))), ?_⟩
    have as : Asks ws y := bt.choose_spec.2.2.2.2
    have FR := as.free
    have few := as.few
    have yl := as.len
    refine ⟨_, rfl, _, rfl, b, ws, y, rfl, bt, fun d H1 k1 ed => ?_⟩
    refine ⟨_, rfl, d, _, (foundD y ws).map fun p => (p.1 : Int), rfl, .inl ed, by unfold kvF; rw [List.map_map, List.map_map]; rfl, by rw [List.length_map]; omega, fun ys ps perm asc hps => ?_⟩
    have eys := keys_spots FR y perm asc
    subst eys
    have x2 := (Ext.refl H1).new hps (o := .lst (((spotsL ws (cs y)).map fun p => (p.1 : Int)).map V.int))
    have eps : (upd H1 ps (.lst (((spotsL ws (cs y)).map fun p => (p.1 : Int)).map V.int))) ps = some (.lst (((spotsL ws (cs y)).map fun p => (p.1 : Int)).map V.int)) := upd_same
    generalize upd H1 ps (.lst (((spotsL ws (cs y)).map fun p => (p.1 : Int)).map V.int)) = H2 at x2 eps ⊢
    have ed2 := x2 _ _ ed
    refine ⟨ps, rfl, ⟨_, SqL.of eps⟩, fun D hD => ?_⟩
    have sl := spots_len FR y
    refine walk_it walk_list (fun a H3 => ∃ ts, H3 D = some (.lst (ts.map V.ref)) ∧ PrsAt H3 ts ((spotsL ws (cs y)).take a) ∧ Ext H2 H3) ⟨[], upd_same, .nil, (Ext.refl _).new hD⟩ (fun a H3 _ z => by obtain ⟨_, _, _, x3⟩ := z; exact SqL.of (x3 _ _ eps)) ?_ ?_
    · rintro i v H3 H4 hi ⟨ts, e3, prs, x3⟩ ⟨rfl, ex⟩
      rw [List.getElem?_map, List.getElem?_map] at ex
      cases gi : (spotsL ws (cs y))[i]? with
      | none => rw [gi] at ex; cases ex
      | some p0 =>
        rw [gi] at ex
        obtain rfl : V.int (p0.1 : Int) = v := Option.some.inj ex
        have mp0 := (mem_spots FR.one).mp (List.mem_of_getElem? gi)
        obtain ⟨m0, h0⟩ := (mem_found FR.one).mp mp0
        have vv := at_some FR m0 (of_decide_eq_true h0)
        have tk : (spotsL ws (cs y)).take (i + 1) = (spotsL ws (cs y)).take i ++ [p0] := by rw [List.take_succ, gi]; rfl
        refine ⟨rfl, ?_⟩
        dsimp only [tYes]
        refine iteT ⟨_, rfl, _, rfl, _, rfl, d, .str p0.2, rfl, by rw [← vv]; exact DGet.k (k := kI (p0.1 : Int)) (x3 _ _ ed2), by show 2 ≤ sizeLine; decide, fun t ht => ?_⟩
        have x5 := (Ext.refl H4).new ht (o := .tup [.int (p0.1 : Int), .str p0.2])
        have et : (upd H4 t (.tup [.int (p0.1 : Int), .str p0.2])) t = some (.tup [.int (p0.1 : Int), .str p0.2]) := upd_same
        generalize upd H4 t (.tup [.int (p0.1 : Int), .str p0.2]) = H5 at x5 et ⊢
        have l1 := prs.1
        rw [List.length_take] at l1
        have e5 := x5 _ _ e3
        have nDt : t ≠ D := fun z => by
          rw [z, e5] at et
          cases et
        refine ⟨_, e5, by rw [List.length_map]; omega, ts ++ [t], by rw [List.map_append]; exact upd_same, ?_, fun b o e => ?_⟩
        · rw [tk]
          have pz := (prs.ext x5).snoc (q := p0) et
          refine ⟨pz.1, fun i' t' q' a' b' => ?_⟩
          have z := pz.2 i' t' q' a' b'
          have n2 : t' ≠ D := fun z2 => by
            rw [z2, e5] at z
            cases z
          rw [upd_ne n2]
          exact z
        · rw [upd_ne (ne_of_none e hD)]
          exact x5 _ _ (x3 _ _ e)
    · rintro H3 ⟨ts, e3, prs, x3⟩
      rw [List.length_map, List.length_map, List.take_length] at prs
      refine ⟨D, _, rfl, .inl ⟨SqL.of e3, fun p hp => ?_⟩⟩
      have x6 := (Ext.refl H3).new hp (o := .tup (ts.map V.ref))
      exact q p ts _ (k1.trans (x2.trans (x3.trans x6))) upd_same (prs.ext x6)
theorem ok_words_atN (F : FnP K "words_at" sWordsAt f fd) (B : BookK K C) (FB : FnOk P w K mg base (L2.CX P w) 1 fB dB ["book"] (spCheckBookX K C cB)) (gB : mg "check_book" = some (.ref fB)) (kB : PySem.W.keepIn K (.ref fB) = true) (bB : Binds K dB ["book"] [])
    (FT : FnOk P w K mg base (L2.CX P w) 4 fT dT ["letters", "text"] (spCheckTextX K cT)) (gT : mg "check_text" = some (.ref fT)) (kT : PySem.W.keepIn K (.ref fT) = true) (bT : Binds K dT ["letters", "text"] [])
    (lt : ∃ p g fd, PropOf K C "letters" p g ∧ FnOk P w K mg base CX0 1 g fd ["self"] (spLetters C) ∧ Binds K fd ["self"] []) :
    FnOk P w K mg base (L2.CX P w) 5 f fd ["book", "text"] (spNoTwo K C cB cT) := by
  obtain ⟨p3, g3, d3, P3, F3, b3⟩ := lt
  refine F.ok scWordsAt (fun vs H Q E h => ?_) (fun cdv A outer s H vs Q E hr h => ?_)
  · obtain ⟨u, v, rfl, _⟩ := h
    rfl
  · obtain ⟨u, v, rfl, way⟩ := h
    refine ⟨_, pss_cons (ps_expr (pe_call FB (hr.mono (by decide)) (by rfl) gB kB bB .nil (passes_call (takes_of rfl rfl rfl rfl) (fun _ _ _ _ z => z)) (pa_cons (pv 0) pa_nil)))
      (pss_cons (ps_expr (pe_call FT (hr.mono (by decide)) (by rfl) gT kT bT .nil (passes_call (takes_of rfl rfl rfl rfl) (fun _ _ _ _ z => z)) (pa_cons (pe_prop (pv 0) B.cls P3 F3 (hr.mono (by decide)) b3 .nil pass0 rfl) (pa_cons (pv 1) pa_nil)))) pss_never), ?_⟩
    rcases way with ⟨nb, q⟩ | ⟨b, x, ws, rfl, bk, gl, ask, no, q⟩
    · exact ⟨u, rfl, u, rfl, .inl ⟨nb, q⟩⟩
    obtain ⟨dx, p1, d1, h1, h2, h3⟩ := id bk
    refine ⟨_, rfl, _, rfl, .inr ⟨b, x, ws, rfl, bk, ?_⟩⟩
    refine ⟨_, rfl, b, dx, _, rfl, h1, b, x, ws, rfl, bk, v, rfl, x, v, rfl, gl.ask, ask, gl.2.2, fun good => ?_, fun _ => q⟩
    rw [good] at no
    cases no
theorem ok_count_waysN (F : FnP K "count_ways" sCountWays f fd) (DW : Def P w K mg base (L2.CX P w) 5 "words_at" ["book", "text"] (spNoTwo K C cB cT)) : FnOk P w K mg base (L2.CX P w) 6 f fd ["book", "text"] (spNoTwo K C cB cT) := by
  obtain ⟨fW, dW, FW, gW, kW, bW⟩ := DW.ex
  refine F.ok scCountWays (fun vs H Q E h => ?_) (fun cdv A outer s H vs Q E hr h => ?_)
  · obtain ⟨u, v, rfl, _⟩ := h
    rfl
  · obtain ⟨u, v, rfl, way⟩ := h
    exact ⟨_, pss_cons (ps_set (i := 2) scCountWays.nd rfl (.inl rfl) (pe_call FW (hr.mono (by decide)) (by rfl) gW kW bW .nil (passes_call (takes_of rfl rfl rfl rfl) (fun _ _ _ _ z => z)) (pa_cons (pv 0) (pa_cons (pv 1) pa_nil)))) pss_never, _, rfl, _, rfl, u, v, rfl, way⟩
theorem ok_placesN (F : FnP K "places" sPlaces f fd) (DW : Def P w K mg base (L2.CX P w) 5 "words_at" ["book", "text"] (spNoTwo K C cB cT)) : FnOk P w K mg base (L2.CX P w) 6 f fd ["book", "text"] (spNoTwo K C cB cT) := by
  obtain ⟨fW, dW, FW, gW, kW, bW⟩ := DW.ex
  refine F.ok scPlaces (fun vs H Q E h => ?_) (fun cdv A outer s H vs Q E hr h => ?_)
  · obtain ⟨u, v, rfl, _⟩ := h
    rfl
  · obtain ⟨u, v, rfl, way⟩ := h
    exact ⟨_, pss_cons (ps_set (i := 2) scPlaces.nd rfl (.inr rfl) (pe_call FW (hr.mono (by decide)) (by rfl) gW kW bW .nil (passes_call (takes_of rfl rfl rfl rfl) (fun _ _ _ _ z => z)) (pa_cons (pv 0) (pa_cons (pv 1) pa_nil)))) pss_never, _, rfl, _, rfl, u, v, rfl, way⟩
theorem ok_countsN (F : FnP K "counts" sCounts f fd) (DW : Def P w K mg base (L2.CX P w) 5 "words_at" ["book", "text"] (spNoTwo K C cB cT)) (DA : Def P w K mg base CX0 1 "words_ahead" ["found"] spAhead) : FnOk P w K mg base (L2.CX P w) 6 f fd ["book", "text"] (spNoTwo K C cB cT) := by
  obtain ⟨fW, dW, FW, gW, kW, bW⟩ := DW.ex
  obtain ⟨fA, dA, FA, gA, kA, bA⟩ := DA.ex
  refine F.ok scCounts (fun vs H Q E h => ?_) (fun cdv A outer s H vs Q E hr h => ?_)
  · obtain ⟨u, v, rfl, _⟩ := h
    rfl
  · obtain ⟨u, v, rfl, way⟩ := h
    exact ⟨_, pss_cons (ps_set (i := 2) scCounts.nd rfl (.inl rfl) (pe_call FA (hr.mono (by decide)) (by rfl) gA kA bA .nil pass0 (pa_cons (pe_call FW (hr.mono (by decide)) (by rfl) gW kW bW .nil (passes_call (takes_of rfl rfl rfl rfl) (fun _ _ _ _ z => z)) (pa_cons (pv 0) (pa_cons (pv 1) pa_nil))) pa_nil))) pss_never, _, rfl, _, rfl, u, v, rfl, way⟩
theorem ok_is_wayN (F : FnP K "is_way" sIsWay f fd) (DW : Def P w K mg base (L2.CX P w) 5 "words_at" ["book", "text"] (spNoTwo K C cB cT)) : FnOk P w K mg base (L2.CX P w) 6 f fd ["book", "text", "value"] (spNoThree K C cB cT) := by
  obtain ⟨fW, dW, FW, gW, kW, bW⟩ := DW.ex
  refine F.ok scIsWay (fun vs H Q E h => ?_) (fun cdv A outer s H vs Q E hr h => ?_)
  · obtain ⟨u, v, t, rfl, _⟩ := h
    rfl
  · obtain ⟨u, v, t, rfl, way⟩ := h
    exact ⟨_, pss_cons (ps_set (i := 3) scIsWay.nd rfl (.inl rfl) (pe_call FW (hr.mono (by decide)) (by rfl) gW kW bW .nil (passes_call (takes_of rfl rfl rfl rfl) (fun _ _ _ _ z => z)) (pa_cons (pv 0) (pa_cons (pv 1) pa_nil)))) pss_never, _, rfl, _, rfl, u, v, rfl, way⟩
theorem ok_waysN (F : FnP K "ways" sWays f fd) (DW : Def P w K mg base (L2.CX P w) 5 "words_at" ["book", "text"] (spNoTwo K C cB cT)) : GFn P w K mg base 6 f fd ["book", "text"] (spGWays K C cB cT) := by
  obtain ⟨fW, dW, FW, gW, kW, bW⟩ := DW.ex
  obtain ⟨oc, od, dV, kV, doc, pm, an, cdv, ct, osl, rfl, lk, hcd, _, _⟩ := F.ex
  refine gfn_of lk hcd scWays (fun vs H Q E h => ?_) fun A outer s H vs Q E pn hr h => ?_
  · obtain ⟨u, v, rfl, _⟩ := h
    rfl
  · obtain ⟨u, v, rfl, way⟩ := h
    exact ⟨_, gss_cons (gs_ps (ps_set (i := 2) scWays.nd rfl (.inl rfl) (pe_call FW (hr.mono (by decide)) (by rfl) gW kW bW .nil (passes_call takes_gcx (fun _ _ _ _ z => z)) (pa_cons (pv 0) (pa_cons (pv 1) pa_nil))))) (gss_pss pss_never), _, rfl, _, rfl, u, v, rfl, way⟩
end
end B17

/-! what stays true as long as some objects stand -/
namespace B17
open PySem PySem.Spec PyProof.Rows L2 XSt NX XB XE LamX
open PySem.W (Frag)
/-- true as long as these objects stand, none of which is the jug -/
def KeptM (j : Addr) (H : Hp) (l : List (Addr × HO)) (R : Hp → Prop) : Prop := (∀ p ∈ l, H p.1 = some p.2 ∧ (∀ ps, p.2 ≠ .tbl ps) ∧ p.1 ≠ j) ∧ ∀ H', (∀ p ∈ l, H' p.1 = some p.2) → R H'
/-- true, and to stay so -/
def Stay (j : Addr) (H : Hp) (R : Hp → Prop) : Prop := ∃ l, KeptM j H l R
section
variable {K : Frag} {H H1 : Hp} {v : V} {R R' : Hp → Prop} {T : List (Addr × Str)} {j a a2 : Addr} {o o2 : HO}
theorem Stay.now (h : Stay j H R) : R H := by
  obtain ⟨l, h1, h2⟩ := h
  exact h2 H fun p m => (h1 p m).1
theorem Stay.go (h : Stay j H R) (g : Go T j H H1) : Stay j H1 R := by
  obtain ⟨l, h1, h2⟩ := h
  exact ⟨l, fun p m => ⟨g.keep _ _ (h1 p m).2.2 (h1 p m).2.1 (h1 p m).1, (h1 p m).2⟩, h2⟩
theorem Stay.n (h : Stay j H R) (k : ExtN H H1) : Stay j H1 R := by
  obtain ⟨l, h1, h2⟩ := h
  exact ⟨l, fun p m => ⟨k _ _ (h1 p m).1 (h1 p m).2.1, (h1 p m).2⟩, h2⟩
theorem Stay.e (h : Stay j H R) (k : Ext H H1) : Stay j H1 R := h.n (fun b o e _ => k b o e)
theorem Stay.mono (h : Stay j H R) (q : ∀ H, R H → R' H) : Stay j H R' := by
  obtain ⟨l, h1, h2⟩ := h
  exact ⟨l, h1, fun H' k => q _ (h2 H' k)⟩
theorem Stay.all (q : ∀ H', R H') : Stay j H R := ⟨[], fun _ m => (by cases m), fun H' _ => q H'⟩
theorem Stay.one (n1 : ∀ ps, o ≠ .tbl ps) (n2 : a ≠ j) (e : H a = some o) (q : ∀ H', H' a = some o → R H') : Stay j H R :=
  ⟨[(a, o)], fun p m => by rw [List.mem_singleton.mp m]; exact ⟨e, n1, n2⟩, fun H' k => q H' (k (a, o) (List.mem_singleton_self _))⟩
theorem Stay.lst {xs : List V} (n2 : a ≠ j) (e : H a = some (.lst xs)) (q : ∀ H', H' a = some (.lst xs) → R H') : Stay j H R := .one (fun _ z => by cases z) n2 e q
theorem Stay.both (h : Stay j H R) (h' : Stay j H R') : Stay j H fun H' => R H' ∧ R' H' := by
  obtain ⟨l, h1, h2⟩ := h
  obtain ⟨l', h3, h4⟩ := h'
  refine ⟨l ++ l', fun p m => ?_, fun H' k => ⟨h2 H' fun p m => k p (List.mem_append_left _ m), h4 H' fun p m => k p (List.mem_append_right _ m)⟩⟩
  rcases List.mem_append.mp m with m | m
  · exact h1 p m
  · exact h3 p m
theorem Stay.tup {xs : List V} (hj : JugAt H j) (e : H a = some (.tup xs)) (q : ∀ H', H' a = some (.tup xs) → R H') : Stay j H R := .one (fun _ z => by cases z) (not_j hj e fun _ _ _ z => by cases z) e q
theorem Stay.dict {xs : List (L2.Key × V)} (hj : JugAt H j) (e : H a = some (.dK xs)) (q : ∀ H', H' a = some (.dK xs) → R H') : Stay j H R := .one (fun _ z => by cases z) (not_j hj e fun _ _ _ z => by cases z) e q
theorem stay_nil (hj : JugAt H j) (e : H a = some (.lst [])) (q : ∀ H', H' a = some (.lst []) → R H') : Stay j H R := .lst (not_j hj e fun _ _ _ z => by cases z) e q
theorem stay_lst1 {b : Addr} (hj : JugAt H j) (e : H a = some (.lst [.ref b])) (q : ∀ H', H' a = some (.lst [.ref b]) → R H') : Stay j H R := .lst (not_j hj e fun _ _ _ z => by cases z) e q
/-- a list that begins with a text -/
theorem stay_txt {z : Str} {xs : List V} (hj : JugAt H j) (e : H a = some (.lst (.str z :: xs))) (q : ∀ H', H' a = some (.lst (.str z :: xs)) → R H') : Stay j H R := .lst (not_j hj e fun _ _ _ z => by cases z) e q
end
end B17

/-! the law's places of words, the law's number of ways -/
namespace B17
open PySem PySem.Spec PyProof.Rows L2 XSt NX XB XFl
open PySem.W (Frag)
abbrev sSpots : Stmt := top 55
abbrev sMuch : Stmt := top 56
def spSpots (K : Frag) : Sp := fun vs H Q _ => ∃ (p : Addr) (ks : List Str) (z : Str), vs = [.ref p, .str z] ∧ SqT K H p (ks.map V.str) ∧ ks.length ≤ 1000 ∧ (∀ k ∈ ks, k.length ≤ 1000) ∧ z.length ≤ 1000 ∧
  ∀ r xs H', Ext H H' → H' r = some (.lst xs) → xs.length = spotsN ks (cs z) → Q (.ref r) H'
def spMuch (K : Frag) : Sp := fun vs H Q _ => ∃ (p : Addr) (ks : List Str) (z : Str), vs = [.ref p, .str z] ∧ SqT K H p (ks.map V.str) ∧ ks.length ≤ 1000 ∧ (∀ k ∈ ks, k.length ≤ 1000) ∧ z.length ≤ 1000 ∧
  ∀ H', Ext H H' → Q (.int (much ks (cs z))) H'
section
variable {P : Program} {w : World} {K : Frag} {mg : Str → Option Value} {base : Heap} {f fS : Addr} {fd dS : FuncData}
theorem scSpots : FnScope ["lot", "line", "found", "at", "piece"] ["lot", "line"] (defScope sSpots) := ⟨rfl, rfl, rfl, by decide +kernel, rfl, by decide +kernel, by decide +kernel⟩
theorem scMuch : FnScope ["lot", "line"] ["lot", "line"] (defScope sMuch) := ⟨rfl, rfl, rfl, by decide +kernel, rfl, by decide +kernel, by decide +kernel⟩
theorem ok_spots (F : FnP K "_law_spots" sSpots f fd) (M : Free mg) (mR : mg "range" = none) : FnOk P w K mg base CX0 1 f fd ["lot", "line"] (spSpots K) := by
  refine F.ok scSpots (fun vs H Q E h => ?_) (fun cdv A outer s H vs Q E hr h => ?_)
  · obtain ⟨p, ks, z, rfl, _⟩ := h
    rfl
  · obtain ⟨p, ks, z, rfl, sq, few, lk, lz, q⟩ := h
    have hs : sizeLine = 16777216 := sizeLine_eq
    refine ⟨_, PSs.nox (pss_cons (ps_set (i := 2) scSpots.nd rfl (.inl rfl) (pe_lst pa_nil))
      (pss_cons (ps_for PassesOwn.never rfl (pi_range1 (by rfl) mR (pa_cons (pe_callB call_len (by rfl) M.len PySem.boot_len (pa_cons (pv 1) pa_nil)) pa_nil)) (pg_name (i := 3) scSpots.nd rfl (.inr rfl))
        (pss_one (ps_set (i := 2) scSpots.nd rfl (.inl rfl) (pe_op op_cat (pv 2) (pe_lc (own := [("piece", 4)]) (g := gName 4) (tt := tTest (tOp rEq (tSl rSlS (tVar 1) (tPart (tVar 3)) (tPart (tOp (rI0 fun i j => .int (i + j)) (tVar 3) (tCB (rLen K) (tCons (tVar 4) tNil))))) (tVar 4))) (te := tTup (tCons (tVar 3) (tCons (tVar 4) tNil))) rfl scSpots.nd (pi_tup (pv 0)) (blkOk_by (N := ["lot", "line", "found", "at", "piece"]) (sc := defScope sSpots) (by decide +kernel))
          (fun _ _ _ _ _ => pg_name (i := 4) scSpots.nd rfl (Or.inl rfl)) (fun _ _ _ _ _ => by exact pts_one (pt_cmpR op_eq (pe_slice sl_str (pv 1) (po_some (pv 3)) (po_some (pe_op op_add (pv 3) (pe_callB call_len (by rfl) M.len PySem.boot_len (pa_cons (pv 4) pa_nil))))) (pv 4) (nomark _)))
          (fun _ _ _ _ _ => by exact pe_tup (pa_cons (pv 3) (pa_cons (pv 4) pa_nil)))))))) 
      (pss_one (ps_ret (pv 2))))), ?_⟩
    refine ⟨by show 0 ≤ sizeLine; decide, fun l hl => ?_⟩
    refine ⟨_, rfl, _, z.length, rfl, ⟨by omega, rfl⟩, _, rfl, by omega, by omega, ?_⟩
    refine for_range (n := z.length) (fun i σ H2 => ∃ o3 o4 r xs, σ = [some (.ref p), some (.str z), some (.ref r), o3, o4] ∧ H2 r = some (.lst xs) ∧ xs.length = upTo ks (cs z) i ∧ Ext H H2) ⟨_, _, l, [], rfl, upd_same, rfl, (Ext.refl H).new hl⟩ ?_ ?_
    · rintro i σ H2 hi ⟨o3, o4, r, xs, rfl, er, lx, x2⟩
      have up := upTo_le ks (cs z) i
      have upm : upTo ks (cs z) i ≤ 1000 * 1000 := Nat.le_trans up (Nat.mul_le_mul (by omega) few)
      refine ⟨_, rfl, _, rfl, p, rfl, ⟨_, sqT_ext x2 sq⟩, fun D hD => ?_⟩
      refine walk_it walk_tup (fun a H3 => ∃ ys, H3 D = some (.lst ys) ∧ ys.length = occ (ks.take a) ((cs z).drop i) ∧ Ext H2 H3) ⟨[], upd_same, rfl, (Ext.refl _).new hD⟩ (fun a H3 _ y => by obtain ⟨_, _, _, x3⟩ := y; exact sqT_ext (x2.trans x3) sq) ?_ ?_
      · rintro a v H3 H4 ha ⟨ys, e1, ly, x3⟩ ⟨rfl, ex⟩
        rw [List.getElem?_map] at ex
        cases g : ks[a]? with
        | none => rw [g] at ex; cases ex
        | some k =>
          rw [g] at ex
          obtain rfl : V.str k = v := Option.some.inj ex
          have hk := lk k (List.mem_of_getElem? g)
          have al : a < ks.length := (List.getElem?_eq_some_iff.mp g).1
          refine ⟨rfl, _, rfl, _, rfl, _, rfl, _, rfl, _, rfl, _, k.length, rfl, ⟨by omega, rfl⟩, _, _, rfl, rfl, _, rfl, z, rfl, by omega, _, rfl, rfl, _, rfl, ?_⟩
          rw [Int.zero_add, cut_at (by omega)]
          have nx : occ (ks.take (a + 1)) ((cs z).drop i) = occ (ks.take a) ((cs z).drop i) + (if cs k <+: (cs z).drop i then 1 else 0) := by
            unfold occ
            rw [take_more g, List.filter_append, List.length_append]
            by_cases c : cs k <+: (cs z).drop i <;> simp [c]
          by_cases c : cs k <+: (cs z).drop i
          · rw [decide_eq_true c]
            refine iteT ⟨_, rfl, _, rfl, by show 2 ≤ sizeLine; decide, fun T hT => ?_⟩
            have nDT : D ≠ T := ne_of_none e1 hT
            have lo := occ_le (ks.take a) ((cs z).drop i)
            have la := List.length_take_le a ks
            refine ⟨_, (by rw [upd_ne nDT]; exact e1), by omega, ys ++ [.ref T], upd_same, ?_, fun b u e => ?_⟩
            · rw [nx, if_pos c, List.length_append, ly]
              rfl
            · have z3 := x3 b u e
              rw [upd_ne (ne_of_none e hD), upd_ne (ne_of_none z3 hT)]
              exact z3
          · rw [decide_eq_false c]
            exact iteF ⟨ys, e1, by rw [nx, if_neg c, ly, Nat.add_zero], x3⟩
      · rintro H3 ⟨ys, e1, ly, x3⟩
        rw [List.length_map, List.take_length] at ly
        have lo := occ_le ks ((cs z).drop i)
        have er3 := x3 _ _ er
        refine ⟨r, D, xs, ys, rfl, rfl, er3, e1, by omega, fun R hR => ?_⟩
        exact ⟨_, _, R, xs ++ ys, rfl, upd_same, by rw [List.length_append, lx, ly]; rfl, (x2.trans x3).new hR⟩
    · rintro σ H2 ⟨o3, o4, r, xs, rfl, er, lx, x2⟩
      have z := cs_len z
      refine ⟨_, rfl, q r xs H2 x2 er ?_⟩
      rw [lx, ← upTo_all, z]
theorem ok_much (F : FnP K "_law_much" sMuch f fd) (M : Free mg) (FS : FnOk P w K mg base CX0 1 fS dS ["lot", "line"] (spSpots K)) (gS : mg "_law_spots" = some (.ref fS)) (kS : PySem.W.keepIn K (.ref fS) = true) (bS : Binds K dS ["lot", "line"] []) : FnOk P w K mg base CX0 2 f fd ["lot", "line"] (spMuch K) := by
  refine F.ok scMuch (fun vs H Q E h => ?_) (fun cdv A outer s H vs Q E hr h => ?_)
  · obtain ⟨p, ks, z, rfl, _⟩ := h
    rfl
  · obtain ⟨p, ks, z, rfl, sq, few, lk, lz, q⟩ := h
    have hs : sizeLine = 16777216 := sizeLine_eq
    refine ⟨_, PSs.nox (pss_one (ps_ret (pe_op op_sub (pe_op op_add (pe_callB call_len (by rfl) M.len PySem.boot_len (pa_cons (pv 1) pa_nil)) pe_int) (pe_callB call_len_seq (by rfl) M.len PySem.boot_len (pa_cons (pe_call FS hr (by rfl) gS kS bS .nil pass0 (pa_cons (pv 0) (pa_cons (pv 1) pa_nil))) pa_nil))))), ?_⟩
    refine ⟨_, rfl, _, z.length, rfl, ⟨by omega, rfl⟩, _, _, rfl, rfl, _, rfl, _, rfl, p, ks, z, rfl, sq, few, lk, lz, fun r xs H1 x1 er lx => ⟨r, xs, rfl, .inl (SqL.of er), _, _, rfl, rfl, ?_⟩⟩
    have e : ((z.length : Int) + 1 - ((xs.length : Nat) : Int)) = much ks (cs z) := by
      unfold much
      rw [lx, cs_len]
    have y := q H1 x1
    rw [← e] at y
    exact y
end
end B17

/-! the law's low texts -/
namespace B17
open PySem PySem.Spec PyProof.Rows L2 XSt NX XB XFl XF XNil
open PySem.W (Frag)
abbrev sGrown : Stmt := top 57
def spGrown (K : Frag) : Sp := fun vs H Q _ => ∃ (p : Addr) (x : Str) (ks : List Str) (d : Int) (m : Nat), vs = [.str x, .ref p, .int d, .int (m : Int)] ∧ Abc x ∧ SqT K H p (ks.map V.str) ∧ ks.length ≤ 1000 ∧ (∀ k ∈ ks, k.length ≤ 1000) ∧ 2 ≤ d ∧ m ≤ 900 ∧
  (growF x ks d m (m + 1) [] [Str.ofString ""] = none → ∀ H', Ext H H' → Q .non H') ∧
  (∀ ls r H', growF x ks d m (m + 1) [] [Str.ofString ""] = some ls → Ext H H' → H' r = some (.lst (ls.map V.str)) → Q (.ref r) H')
section
variable {P : Program} {w : World} {K : Frag} {mg : Str → Option Value} {base : Heap} {f fM : Addr} {fd dM : FuncData}
theorem scGrown : FnScope ["signs", "core", "deep", "most", "found", "layer", "longer", "line", "sign"] ["signs", "core", "deep", "most"] (defScope sGrown) := ⟨rfl, rfl, rfl, by decide +kernel, rfl, by decide +kernel, by decide +kernel⟩
theorem ok_grown (F : FnP K "_law_grown" sGrown f fd) (M : Free mg) (FM : FnOk P w K mg base CX0 2 fM dM ["lot", "line"] (spMuch K)) (gM : mg "_law_much" = some (.ref fM)) (kM : PySem.W.keepIn K (.ref fM) = true) (bM : Binds K dM ["lot", "line"] []) : FnOk P w K mg base CX0 3 f fd ["signs", "core", "deep", "most"] (spGrown K) := by
  refine F.ok scGrown (fun vs H Q E h => ?_) (fun cdv A outer s H vs Q E hr h => ?_)
  · obtain ⟨p, x, ks, d, m, rfl, _⟩ := h
    rfl
  · obtain ⟨p, x, ks, d, m, rfl, abc, sq, few, lk, d2, m9, qn, qs⟩ := h
    have hs : sizeLine = 16777216 := sizeLine_eq
    refine ⟨_, PSs.nox (pss_cons (ps_par (i := 4) (j := 5) (by rfl) scGrown.nd rfl rfl (by decide) rfl rfl (pa_cons (pe_lst pa_nil) (pa_cons (pe_ifExp (pt_cmpR op_gt (pv 2) pe_int (nomark _)) (pe_lst (pa_cons pe_str pa_nil)) (pe_lst pa_nil)) pa_nil)) (by rfl))
      (pss_cons (ps_while PassesOwn.never (pt_cmpR (op_neE hr.units) (pv 5) (pe_lst pa_nil) (nomark _))
        (pss_cons (ps_set (i := 4) scGrown.nd rfl (.inl rfl) (pe_op op_cat (pv 4) (pv 5)))
        (pss_cons (ps_if (pt_cmpR op_gt (pe_callB call_len_seq (by rfl) M.len PySem.boot_len (pa_cons (pv 4) pa_nil)) (pv 3) (nomark _)) (pss_one (ps_ret pe_non)) pss_nil)
        (pss_cons (ps_set (i := 6) scGrown.nd rfl (.inl rfl) (pe_lst pa_nil))
        (pss_cons (ps_for PassesOwn.never rfl (pi_list (pv 5)) (pg_name (i := 7) scGrown.nd rfl (.inr rfl))
          (pss_one (ps_set (i := 6) scGrown.nd rfl (.inl rfl) (pe_op op_cat (pv 6) (pe_lc (own := [("sign", 8)]) (g := gName 8) (tt := tTest (tOp (rI0 fun i j => .bl (decide (i < j))) (tCall (spMuch K) [] E0 (tCons (tVar 1) (tCons (tOp rAddS (tVar 7) (tVar 8)) tNil))) (tVar 2))) (te := tOp rAddS (tVar 7) (tVar 8)) rfl scGrown.nd (pi_str (pv 0)) (blkOk_by (N := ["signs", "core", "deep", "most", "found", "layer", "longer", "line", "sign"]) (sc := defScope sGrown) (by decide +kernel))
            (fun _ _ _ _ _ => pg_name (i := 8) scGrown.nd rfl (Or.inl rfl)) (fun _ _ _ _ _ => by exact pts_one (pt_cmpR op_lt (pe_call FM hr (by rfl) gM kM bM .nil pass0 (pa_cons (pv 1) (pa_cons (pe_op op_addS (pv 7) (pv 8)) pa_nil))) (pv 2) (nomark _)))
            (fun _ _ _ _ _ => by exact pe_op op_addS (pv 7) (pv 8)))))))
        (pss_one (ps_set (i := 5) scGrown.nd rfl (.inl rfl) (pv 6))))))))
      (pss_one (ps_ret (pv 4))))), ?_⟩
    refine ⟨by show 0 ≤ sizeLine; decide, fun r0 hr0 => ?_⟩
    have x0 := (Ext.refl H).new hr0 (o := .lst [])
    have er0 : (upd H r0 (.lst [])) r0 = some (.lst []) := upd_same
    generalize upd H r0 (.lst []) = H0 at x0 er0 ⊢
    refine ⟨_, rfl, _, _, rfl, rfl, _, rfl, ?_⟩
    rw [decide_eq_true (show (1 : Int) < d by omega)]
    refine iteT ⟨by show 1 ≤ sizeLine; decide, fun l0 hl0 => ?_⟩
    have x1 := x0.new hl0 (o := .lst [.str (Str.ofString "")])
    have er1 : (upd H0 l0 (.lst [.str (Str.ofString "")])) r0 = some (.lst []) := by rw [upd_ne (ne_of_none er0 hl0)]; exact er0
    have el1 : (upd H0 l0 (.lst [.str (Str.ofString "")])) l0 = some (.lst ([Str.ofString ""].map V.str)) := upd_same
    generalize upd H0 l0 (.lst [.str (Str.ofString "")]) = H1 at x1 er1 el1 ⊢
    refine ⟨_, _, rfl, ?_⟩
    generalize hR : growF x ks d m (m + 1) [] [Str.ofString ""] = R at qn qs
    refine ⟨fun n σ Hx => ∃ r l found layer o6 o7 o8, σ = [some (.str x), some (.ref p), some (.int d), some (.int (m : Int)), some (.ref r), some (.ref l), o6, o7, o8] ∧ Hx r = some (.lst (found.map V.str)) ∧ Hx l = some (.lst (layer.map V.str)) ∧
      m + 1 ≤ n + found.length ∧ growF x ks d m n found layer = R ∧ found.length ≤ m ∧ (∀ w ∈ layer, w.length ≤ found.length) ∧ layer.length ≤ 3 * (m + 1) ∧ Ext H Hx, ⟨m + 1, r0, l0, [], [Str.ofString ""], _, _, _, rfl, er1, el1, by simp, hR, by simp, fun w mw => by rw [List.mem_singleton.mp mw]; decide +kernel, by show 1 ≤ 3 * (m + 1); omega, x1⟩, fun n σ Hx h => ?_⟩
    obtain ⟨r, l, found, layer, o6, o7, o8, rfl, er, el, fuel, hg, lf, ll, lay, x3⟩ := h
    refine ⟨_, rfl, by show 0 ≤ sizeLine; decide, fun N hN => ⟨l, _, N, rfl, rfl, SqL.of (by rw [upd_ne (ne_of_none el hN)]; exact el), SqL.of upd_same, _, rfl, ?_⟩⟩
    have x4 := x3.new hN (o := .lst [])
    have er4 : (upd Hx N (.lst [])) r = some (.lst (found.map V.str)) := by rw [upd_ne (ne_of_none er hN)]; exact er
    have el4 : (upd Hx N (.lst [])) l = some (.lst (layer.map V.str)) := by rw [upd_ne (ne_of_none el hN)]; exact el
    generalize upd Hx N (.lst []) = H3 at x4 er4 el4 ⊢
    obtain ⟨n, rfl⟩ : ∃ k, n = k + 1 := ⟨n - 1, by omega⟩
    unfold growF at hg
    have em : (layer.map V.str).isEmpty = layer.isEmpty := by cases layer <;> rfl
    rw [em]
    cases e : layer.isEmpty with
    | true =>
      rw [e, if_pos rfl] at hg
      exact iteF ⟨_, rfl, qs found r H3 hg.symm x4 er4⟩
    | false =>
      rw [e, if_neg (by decide)] at hg
      have pos : 1 ≤ layer.length := by
        cases layer with
        | nil => cases e
        | cons a l => simp
      refine iteT ⟨_, fun σ' H' h' => ⟨n, Nat.lt_succ_self n, h'⟩, ?_⟩
      refine ⟨_, rfl, _, rfl, r, l, _, _, rfl, rfl, er4, el4, by rw [List.length_map, List.length_map]; omega, fun r2 hr2 => ?_⟩
      rw [← List.map_append]
      have x5 := x4.new hr2 (o := .lst ((found ++ layer).map V.str))
      have er5 : (upd H3 r2 (.lst ((found ++ layer).map V.str))) r2 = some (.lst ((found ++ layer).map V.str)) := upd_same
      have el5 : (upd H3 r2 (.lst ((found ++ layer).map V.str))) l = some (.lst (layer.map V.str)) := by rw [upd_ne (ne_of_none el4 hr2)]; exact el4
      generalize upd H3 r2 (.lst ((found ++ layer).map V.str)) = H5 at x5 er5 el5 ⊢
      refine ⟨_, rfl, r2, _, rfl, .inl (SqL.of er5), _, rfl, _, _, rfl, rfl, _, rfl, ?_⟩
      rw [List.length_map]
      by_cases big : m < (found ++ layer).length
      · rw [if_pos big] at hg
        rw [decide_eq_true (show (m : Int) < ((found ++ layer).length : Int) by omega)]
        exact iteT (qn hg.symm H5 x5)
      · rw [if_neg big] at hg
        rw [decide_eq_false (show ¬ (m : Int) < ((found ++ layer).length : Int) by omega)]
        have lsum : found.length + layer.length ≤ m := by rw [List.length_append] at big; omega
        refine iteF ⟨by show 0 ≤ sizeLine; decide, fun g0 hg0 => ?_⟩
        have x6 := x5.new hg0 (o := .lst [])
        have er6 : (upd H5 g0 (.lst [])) r2 = some (.lst ((found ++ layer).map V.str)) := by rw [upd_ne (ne_of_none er5 hg0)]; exact er5
        have el6 : (upd H5 g0 (.lst [])) l = some (.lst (layer.map V.str)) := by rw [upd_ne (ne_of_none el5 hg0)]; exact el5
        have eg6 : (upd H5 g0 (.lst [])) g0 = some (.lst []) := upd_same
        generalize upd H5 g0 (.lst []) = H6 at x6 er6 el6 eg6 ⊢
        refine ⟨_, rfl, l, rfl, ⟨_, SqL.of el6⟩, ?_⟩
        have kl : ∀ w, (kids x ks d w).length ≤ 3 := fun w => by
          unfold kids
          refine Nat.le_trans (List.length_filter_le _ _) ?_
          rw [List.length_map, signs_count]
          exact abc.few
        have fl : ∀ t : List Str, (t.flatMap (kids x ks d)).length ≤ 3 * t.length := fun t => by
          induction t with
          | nil => simp
          | cons a t ih =>
            rw [List.flatMap_cons, List.length_append, List.length_cons]
            have := kl a
            omega
        refine for_list (xs := layer.map V.str) (fun i σ H7 => ∃ g7 o7 o8, σ = [some (.str x), some (.ref p), some (.int d), some (.int (m : Int)), some (.ref r2), some (.ref l), some (.ref g7), o7, o8] ∧ H7 g7 = some (.lst (((layer.take i).flatMap (kids x ks d)).map V.str)) ∧ Ext H6 H7) ⟨g0, _, _, rfl, eg6, Ext.refl _⟩ (fun i σ H7 _ z => by obtain ⟨_, _, _, _, _, y⟩ := z; exact SqL.of (y _ _ el6)) ?_ ?_
        · rintro i v σ H7 ev ⟨g7, o7', o8', rfl, eg7, x7⟩
          rw [List.getElem?_map] at ev
          cases gi : layer[i]? with
          | none => rw [gi] at ev; cases ev
          | some w0 =>
            rw [gi] at ev
            obtain rfl : V.str w0 = v := Option.some.inj ev
            have lw := ll w0 (List.mem_of_getElem? gi)
            have lt := fl (layer.take i)
            have l2 := List.length_take_le' i layer
            refine ⟨_, rfl, _, rfl, x, rfl, fun D hD => ?_⟩
            have sg : x.cps.size = ((XSt.signs x).map V.str).length := by rw [List.length_map, signs_count]; rfl
            refine lc_fm walk_str Ext (ext_keeps hD) ((XSt.signs x).map V.str) sg (by rw [List.length_map, signs_count]; have := abc.few; omega) (lowV ks d w0) (kidV w0) (fun _ _ => trivial) at_str ?_ ?_
            · intro a v H8 Nx ex k8 hF hT
              rw [List.getElem?_map] at ex
              cases gc : (XSt.signs x)[a]? with
              | none => rw [gc] at ex; cases ex
              | some c =>
                rw [gc] at ex
                obtain rfl : V.str c = v := Option.some.inj ex
                have mc := List.mem_of_getElem? gc
                unfold XSt.signs at mc
                obtain ⟨cc, _, rfl⟩ := List.mem_map.mp mc
                have lz : (w0 ++ (⟨#[cc]⟩ : Str)).length ≤ 1000 := by
                  rw [app_len]
                  show w0.length + 1 ≤ 1000
                  omega
                have x8 : Ext H H8 := ((x6.trans x7).trans k8)
                refine ⟨rfl, _, rfl, _, rfl, _, rfl, _, _, rfl, rfl, by show w0.length + 1 ≤ sizeLine; omega, p, ks, _, rfl, sqT_ext x8 sq, few, lk, lz, fun H9 x9 => ⟨_, rfl, _, _, rfl, rfl, _, rfl, ?_⟩⟩
                have tell : lowV ks d w0 (.str ⟨#[cc]⟩) = decide (much ks (cs (w0 ++ (⟨#[cc]⟩ : Str))) < d) := rfl
                cases hl : decide (much ks (cs (w0 ++ (⟨#[cc]⟩ : Str))) < d) with
                | true => exact iteT ⟨_, rfl, _, rfl, _, _, rfl, rfl, by show w0.length + 1 ≤ sizeLine; omega, hT (by rw [tell, hl]) _ x9⟩
                | false => exact iteF (hF (by rw [tell, hl]) _ x9)
            · intro H8 e8 x8
              rw [kids_v] at e8
              refine ⟨g7, D, _, _, rfl, rfl, x8 _ _ eg7, e8, by rw [List.length_map, List.length_map]; have := kl w0; unfold kids at this; omega, fun R2 hR2 => ?_⟩
              refine ⟨R2, _, _, rfl, ?_, (x7.trans x8).new hR2⟩
              rw [take_more gi, List.flatMap_append, List.flatMap_singleton, List.map_append]
              exact upd_same
        · rintro σ H7 ⟨g7, o7', o8', rfl, eg7, x7⟩
          rw [List.length_map, List.take_length] at eg7
          refine ⟨_, rfl, r2, g7, _, _, _, _, _, rfl, x7 _ _ er6, eg7, by rw [List.length_append]; omega, hg, by rw [List.length_append]; exact lsum, fun w mw => ?_, ?_, x6.trans x7⟩
          · obtain ⟨l', ml, mk⟩ := List.mem_flatMap.mp mw
            have k1 := (kids_mem mk).1
            have := ll l' ml
            rw [List.length_append]
            omega
          · have := fl layer
            omega
end
end B17

/-! the full books that the laws draw, as a finite table -/
namespace XBk
open PySem PySem.Spec PyProof.Rows L2 XSt NX XFl
abbrev W := List Nat
def strOf (w : W) : Str := ⟨w.toArray⟩
def wds (K : List W) : List Str := K.map strOf
theorem cs_of (w : W) : cs (strOf w) = w := rfl
theorem of_cs (s : Str) : strOf (cs s) = s := cs_inj (cs_of _)
theorem of_inj {a b : W} (h : strOf a = strOf b) : a = b := by rw [← cs_of a, h, cs_of]
theorem mem_wds {K : List W} {s : Str} : s ∈ wds K ↔ cs s ∈ K := by
  constructor
  · intro h
    obtain ⟨w, m, rfl⟩ := List.mem_map.mp h
    exact m
  · intro h
    exact List.mem_map.mpr ⟨cs s, h, of_cs s⟩
/-! ### beginnings, order -/
def isPre : W → W → Bool
  | [], _ => true
  | _ :: _, [] => false
  | a :: k, b :: w => Nat.beq a b && isPre k w
theorem isPre_iff : ∀ k w : W, isPre k w = true ↔ k <+: w
  | [], w => by simp [isPre]
  | a :: k, [] => by simp [isPre]
  | a :: k, b :: w => by
    unfold isPre
    rw [Bool.and_eq_true, isPre_iff k w, Nat.beq_eq, List.cons_prefix_cons]
def lexLe : W → W → Bool
  | [], _ => true
  | _ :: _, [] => false
  | a :: k, b :: w => Nat.blt a b || (Nat.beq a b && lexLe k w)
theorem lexLe_iff : ∀ a b : W, lexLe a b = true ↔ a ≤ b
  | [], w => by simp [lexLe]
  | a :: k, [] => by simp [lexLe]
  | a :: k, b :: w => by
    unfold lexLe
    rw [Bool.or_eq_true, Bool.and_eq_true, lexLe_iff k w, Nat.beq_eq, List.cons_le_cons_iff, Nat.blt_eq]
def leW (a b : W) : Bool := Nat.blt a.length b.length || (Nat.beq a.length b.length && lexLe a b)
theorem leW_t (a b : W) : leW a b = XSt.tLe (strOf a) (strOf b) := by
  rw [Bool.eq_iff_iff]
  unfold leW XSt.tLe
  rw [pLe_iff, Bool.or_eq_true, Bool.and_eq_true, lexLe_iff, Nat.beq_eq, Nat.blt_eq]
  have e1 : (lenOf (strOf a)).1 = (a.length : Int) := rfl
  have e2 : (lenOf (strOf b)).1 = (b.length : Int) := rfl
  have e3 : sLe (lenOf (strOf a)).2 (lenOf (strOf b)).2 = true ↔ a ≤ b := decide_eq_true_iff
  rw [e1, e2, e3, Int.ofNat_lt, Int.ofNat_inj]
def insW (a : W) : List W → List W
  | [] => [a]
  | b :: l => if leW a b then (if leW b a then b :: l else a :: b :: l) else b :: insW a l
def ordW : List W → List W
  | [] => []
  | a :: l => insW a (ordW l)
theorem leW_anti {a b : W} (h : leW a b = true) (g : leW b a = true) : a = b := by
  rw [leW_t] at h g
  exact of_inj (XSt.tLe_ord.anti _ _ h g)
theorem mem_ins {a x : W} : ∀ {l : List W}, x ∈ insW a l ↔ x = a ∨ x ∈ l
  | [] => by simp [insW]
  | b :: l => by
    unfold insW
    split
    · rename_i h
      split
      · rename_i g
        have e := leW_anti h g
        subst e
        simp
      · simp
    · rw [List.mem_cons, mem_ins, List.mem_cons]
      constructor
      · rintro (h | h | h)
        · exact .inr (.inl h)
        · exact .inl h
        · exact .inr (.inr h)
      · rintro (h | h | h)
        · exact .inr (.inl h)
        · exact .inl h
        · exact .inr (.inr h)
theorem mem_ord {x : W} : ∀ {l : List W}, x ∈ ordW l ↔ x ∈ l
  | [] => Iff.rfl
  | a :: l => by
    unfold ordW
    rw [mem_ins, mem_ord, List.mem_cons]
theorem ins_sorted {a : W} : ∀ {l : List W}, l.Pairwise (fun x y => leW x y = true ∧ x ≠ y) → (insW a l).Pairwise (fun x y => leW x y = true ∧ x ≠ y)
  | [], _ => List.pairwise_singleton _ _
  | b :: l, h => by
    obtain ⟨h1, h2⟩ := List.pairwise_cons.mp h
    unfold insW
    split
    · rename_i c
      split
      · exact h
      · rename_i g
        refine List.pairwise_cons.mpr ⟨fun x m => ?_, h⟩
        have ab : a ≠ b := fun e => g (by rw [← e] at c ⊢; exact c)
        rcases List.mem_cons.mp m with rfl | m
        · exact ⟨c, ab⟩
        · have z := h1 x m
          refine ⟨?_, fun e => ?_⟩
          · rw [leW_t] at c ⊢
            exact XSt.tLe_ord.tr _ _ _ c (by rw [← leW_t]; exact z.1)
          · subst e
            exact ab (leW_anti c z.1)
    · rename_i c
      have ba : leW b a = true := by
        have t := XSt.tLe_ord.tot (strOf a) (strOf b)
        rw [← leW_t, ← leW_t, Bool.or_eq_true] at t
        exact t.resolve_left c
      refine List.pairwise_cons.mpr ⟨fun x m => ?_, ins_sorted h2⟩
      rcases mem_ins.mp m with rfl | m
      · exact ⟨ba, fun e => c (by rw [e] at ba ⊢; exact ba)⟩
      · exact h1 x m
theorem ord_sorted : ∀ l : List W, (ordW l).Pairwise (fun x y => leW x y = true ∧ x ≠ y)
  | [] => List.Pairwise.nil
  | a :: l => ins_sorted (ord_sorted l)
theorem ord_nodup (l : List W) : (ordW l).Nodup := (ord_sorted l).imp fun h => h.2
theorem ordT_wds (l : List W) : ordT (wds l) = wds (ordW l) := by
  symm
  refine XSt.tLe_ord.one ?_ ?_
  · show (wds (ordW l)).Perm (once (wds l))
    have nd : (wds (ordW l)).Nodup := List.Pairwise.map strOf (fun a b h e => h (of_inj e)) (ord_nodup l)
    rw [List.perm_ext_iff_of_nodup nd (nodup_once _)]
    intro x
    rw [mem_once, mem_wds, mem_wds, mem_ord]
  · refine List.Pairwise.map strOf (fun a b h => ?_) (ord_sorted l)
    rw [← leW_t]
    exact h.1
theorem ordW_same {l m : List W} (e : ∀ x, x ∈ l ↔ x ∈ m) : ordW l = ordW m := by
  have h := ordT_same (l := wds m) (m := wds l) fun x => by rw [mem_wds, mem_wds, e]
  rw [ordT_wds, ordT_wds] at h
  exact (List.map_inj_right fun a b => of_inj).mp h
theorem ordT_ordW (l : List W) : ordT (wds (ordW l)) = wds (ordW l) := by
  rw [← ordT_wds, ordT_twice]
end XBk

/-! growing lines and making books, as functions that can be told quickly -/
namespace XBk
open PySem PySem.Spec PyProof.Rows L2 XSt NX XFl
def anyPre (K : List W) (w : W) : Bool := K.any fun k => isPre k w
def muchL (K : List W) : W → Nat
  | [] => 1
  | c :: w => muchL K w + 1 - (if anyPre K (c :: w) = true then 1 else 0)
theorem occ_any {K : List W} (c : Core (wds K)) (w : W) : occ (wds K) w = if anyPre K w = true then 1 else 0 := by
  have le := occ_one c w
  cases h : anyPre K w with
  | true =>
    obtain ⟨k, mk, hk⟩ := List.any_eq_true.mp h
    have := occ_pos (K := wds K) (k := strOf k) (List.mem_map.mpr ⟨k, mk, rfl⟩) ((isPre_iff k w).mp hk)
    rw [if_pos rfl]
    omega
  | false =>
    rw [if_neg (by decide)]
    cases e : occ (wds K) w with
    | zero => rfl
    | succ n =>
      exfalso
      have pos : 0 < ((wds K).filter fun k => decide (cs k <+: w)).length := by
        show 0 < occ (wds K) w
        omega
      obtain ⟨s, ms⟩ := List.exists_mem_of_length_pos pos
      obtain ⟨m1, m2⟩ := List.mem_filter.mp ms
      have : anyPre K w = true := List.any_eq_true.mpr ⟨cs s, mem_wds.mp m1, (isPre_iff _ _).mpr (of_decide_eq_true m2)⟩
      rw [h] at this
      cases this
theorem enc_any {K : List W} (c : Core (wds K)) (w : W) : enc (wds K) w = if anyPre (K.map List.reverse) w.reverse = true then 1 else 0 := by
  have le := enc_one c w
  cases h : anyPre (K.map List.reverse) w.reverse with
  | true =>
    obtain ⟨k0, mk0, hk⟩ := List.any_eq_true.mp h
    obtain ⟨k, mk, e0⟩ := List.mem_map.mp mk0
    rw [← e0] at hk
    have := enc_pos (K := wds K) (w := w) (k := strOf k) (List.mem_map.mpr ⟨k, mk, rfl⟩) (List.reverse_prefix.mp ((isPre_iff _ _).mp hk))
    rw [if_pos rfl]
    omega
  | false =>
    rw [if_neg (by decide)]
    cases e : enc (wds K) w with
    | zero => rfl
    | succ n =>
      exfalso
      have pos : 0 < ((wds K).filter fun k => decide (cs k <:+ w)).length := by
        show 0 < enc (wds K) w
        omega
      obtain ⟨s, ms⟩ := List.exists_mem_of_length_pos pos
      obtain ⟨m1, m2⟩ := List.mem_filter.mp ms
      have : anyPre (K.map List.reverse) w.reverse = true := List.any_eq_true.mpr ⟨(cs s).reverse, List.mem_map.mpr ⟨cs s, mem_wds.mp m1, rfl⟩, (isPre_iff _ _).mpr (List.reverse_prefix.mpr (of_decide_eq_true m2))⟩
      rw [h] at this
      cases this
theorem muchL_eq {K : List W} (c : Core (wds K)) : ∀ w : W, much (wds K) w = (muchL K w : Int)
  | [] => rfl
  | a :: w => by
    rw [much_cons, muchL_eq c w, occ_any c]
    show (muchL K w : Int) + 1 - _ = ((muchL K w + 1 - (if anyPre K (a :: w) = true then 1 else 0) : Nat) : Int)
    split <;> omega
/-! ### growing -/
def kidsR (sg : W) (KR : List W) (d : Nat) (p : W × Nat) : List (W × Nat) := (sg.map fun c => (c :: p.1, p.2 + 1 - (if anyPre KR (c :: p.1) = true then 1 else 0))).filter fun q => Nat.blt q.2 d
def growR (sg : W) (KR : List W) (d m : Nat) : Nat → List (W × Nat) → List (W × Nat) → Option (List (W × Nat))
  | 0, _, _ => none
  | n + 1, found, layer => if layer.isEmpty = true then some found else if Nat.blt m (found ++ layer).length = true then none else growR sg KR d m n (found ++ layer) (layer.flatMap (kidsR sg KR d))
def lineS (p : W × Nat) : Str := strOf p.1.reverse
def GoodP (K : List W) (p : W × Nat) : Prop := much (wds K) p.1.reverse = (p.2 : Int)
theorem str_app (a b : W) : strOf a ++ strOf b = strOf (a ++ b) := cs_inj (by rw [cs_app, cs_of, cs_of, cs_of])
theorem good_kid {K : List W} (c : Core (wds K)) {p : W × Nat} (g : GoodP K p) (s : Nat) : much (wds K) (p.1.reverse ++ [s]) = ((p.2 + 1 - (if anyPre (K.map List.reverse) (s :: p.1) = true then 1 else 0) : Nat) : Int) := by
  have g : much (wds K) p.1.reverse = (p.2 : Int) := g
  rw [much_snoc c, g, enc_any c, List.reverse_append, List.reverse_reverse]
  show (p.2 : Int) + 1 - ((if anyPre (K.map List.reverse) (s :: p.1) = true then 1 else 0 : Nat) : Int) = _
  split <;> omega
theorem map_filter_two {α β γ : Type} (f : α → β) (g : α → γ) (P : β → Bool) (Q : γ → Bool) (r : γ → β) (_u : Unit) (h1 : ∀ a, P (f a) = Q (g a)) (h2 : ∀ a, f a = r (g a)) : ∀ l : List α, (l.map f).filter P = ((l.map g).filter Q).map r
  | [] => rfl
  | a :: l => by
    have ih := map_filter_two f g P Q r _u h1 h2 l
    rw [List.map_cons, List.map_cons, List.filter_cons, List.filter_cons, h1, ih]
    cases Q (g a) with
    | true => rw [if_pos rfl, if_pos rfl, List.map_cons, h2]
    | false => rw [if_neg (by decide), if_neg (by decide)]
theorem kids_eq {K : List W} (c : Core (wds K)) {sg : W} {d : Nat} {p : W × Nat} (g : GoodP K p) :
    kids (strOf sg) (wds K) (d : Int) (lineS p) = (kidsR sg (K.map List.reverse) d p).map lineS ∧ ∀ q ∈ kidsR sg (K.map List.reverse) d p, GoodP K q := by
  unfold kids kidsR
  have es : XSt.signs (strOf sg) = sg.map fun n => (⟨#[n]⟩ : Str) := rfl
  rw [es]
  refine ⟨?_, fun q mq => ?_⟩
  · rw [List.map_map]
    refine map_filter_two _ _ _ _ _ () (fun a => ?_) (fun a => ?_) sg
    · show decide (much (wds K) (cs (lineS p ++ (⟨#[a]⟩ : Str))) < (d : Int)) = Nat.blt (p.2 + 1 - (if anyPre (K.map List.reverse) (a :: p.1) = true then 1 else 0)) d
      have e1 : lineS p ++ (⟨#[a]⟩ : Str) = strOf (p.1.reverse ++ [a]) := by
        show strOf p.1.reverse ++ strOf [a] = _
        rw [str_app]
      rw [e1, cs_of, good_kid c g a, Bool.eq_iff_iff, decide_eq_true_eq, Nat.blt_eq]
      omega
    · show lineS p ++ (⟨#[a]⟩ : Str) = strOf (a :: p.1).reverse
      rw [List.reverse_cons]
      show strOf p.1.reverse ++ strOf [a] = _
      rw [str_app]
  · obtain ⟨m1, _⟩ := List.mem_filter.mp mq
    obtain ⟨a, _, rfl⟩ := List.mem_map.mp m1
    show much (wds K) (a :: p.1).reverse = _
    rw [List.reverse_cons]
    exact good_kid c g a
theorem grow_eq {K : List W} (c : Core (wds K)) {sg : W} {d m : Nat} : ∀ (n : Nat) (found layer : List (W × Nat)), (∀ p ∈ layer, GoodP K p) →
    growF (strOf sg) (wds K) (d : Int) m n (found.map lineS) (layer.map lineS) = (growR sg (K.map List.reverse) d m n found layer).map fun ls => ls.map lineS
  | 0, _, _, _ => rfl
  | n + 1, found, layer, g => by
    unfold growF growR
    have e1 : (layer.map lineS).isEmpty = layer.isEmpty := by cases layer <;> rfl
    have e2 : (found.map lineS ++ layer.map lineS) = (found ++ layer).map lineS := List.map_append.symm
    have e3 : (layer.map lineS).flatMap (kids (strOf sg) (wds K) (d : Int)) = (layer.flatMap (kidsR sg (K.map List.reverse) d)).map lineS := by
      induction layer with
      | nil => rfl
      | cons p l ih =>
        rw [List.map_cons, List.flatMap_cons, List.flatMap_cons, List.map_append, (kids_eq c (g p List.mem_cons_self)).1, ih (fun q mq => g q (List.mem_cons_of_mem _ mq)) (by cases l <;> rfl) List.map_append.symm]
    rw [e1, e2, e3, List.length_map]
    cases h : layer.isEmpty with
    | true => rfl
    | false =>
      have nt : ¬ (false = true) := by decide
      rw [if_neg nt, if_neg nt]
      have e4 : Nat.blt m (found ++ layer).length = decide (m < (found ++ layer).length) := by
        rw [Bool.eq_iff_iff, decide_eq_true_eq, Nat.blt_eq]
      rw [e4]
      by_cases big : m < (found ++ layer).length
      · rw [if_pos big, if_pos (decide_eq_true big)]
        rfl
      · rw [if_neg big, if_neg (by rw [decide_eq_false big]; decide)]
        refine grow_eq c n _ _ fun q mq => ?_
        obtain ⟨p, mp, mk⟩ := List.mem_flatMap.mp mq
        exact (kids_eq c (g p mp)).2 q mk
/-! ### new words -/
def leftF (x : Str) (K : List Str) (d : Int) (l : Str) : List Str := (XSt.signs x).filter fun s => decide (much K (cs (s ++ l)) = d)
def rightF (x : Str) (K : List Str) (d : Int) (l : Str) : List Str := (XSt.signs x).filter fun s => decide (much K (cs (l ++ s)) = d)
def newF (x : Str) (K : List Str) (d : Int) (l : Str) : List Str := if much K (cs l) = d - 1 then (leftF x K d l).flatMap fun s => ((rightF x K d l).map fun t => s ++ l ++ t).filter fun p => decide (much K (cs p) = d + 1) else []
def newL (sg : W) (K : List W) (d : Nat) (l : W) : List W := if Nat.beq (muchL K l + 1) d = true then (sg.filter fun s => Nat.beq (muchL K (s :: l)) d).flatMap fun s => ((sg.filter fun t => Nat.beq (muchL K (l ++ [t])) d).map fun t => s :: (l ++ [t])).filter fun p => Nat.beq (muchL K p) (d + 1) else []
theorem filter_signs (sg : W) (f : Nat → Bool) (g : Str → Bool) (h : ∀ n, g ⟨#[n]⟩ = f n) : (XSt.signs (strOf sg)).filter g = (sg.filter f).map fun n => (⟨#[n]⟩ : Str) := by
  have es : XSt.signs (strOf sg) = sg.map fun n => (⟨#[n]⟩ : Str) := rfl
  rw [es]
  induction sg with
  | nil => rfl
  | cons a l ih =>
    rw [List.map_cons, List.filter_cons, List.filter_cons, h, ih rfl]
    split <;> rfl
theorem new_eq {K : List W} (c : Core (wds K)) (sg : W) (d : Nat) (l : W) : newF (strOf sg) (wds K) (d : Int) (strOf l) = wds (newL sg K d l) := by
  have dec : ∀ (w : W) (e : Nat), decide (much (wds K) w = (e : Int)) = Nat.beq (muchL K w) e := fun w e => by
    rw [muchL_eq c, Bool.eq_iff_iff, decide_eq_true_eq, Nat.beq_eq]
    omega
  have eL : leftF (strOf sg) (wds K) (d : Int) (strOf l) = (sg.filter fun s => Nat.beq (muchL K (s :: l)) d).map fun n => (⟨#[n]⟩ : Str) := filter_signs sg _ _ fun n => by
    show decide (much (wds K) (cs (strOf [n] ++ strOf l)) = (d : Int)) = _
    rw [str_app, cs_of, dec]
    rfl
  have eR : rightF (strOf sg) (wds K) (d : Int) (strOf l) = (sg.filter fun t => Nat.beq (muchL K (l ++ [t])) d).map fun n => (⟨#[n]⟩ : Str) := filter_signs sg _ _ fun n => by
    show decide (much (wds K) (cs (strOf l ++ strOf [n])) = (d : Int)) = _
    rw [str_app, cs_of, dec]
  unfold newF newL
  rw [eL, eR, cs_of, muchL_eq c]
  by_cases h : muchL K l + 1 = d
  · rw [if_pos (by omega), if_pos (by rw [Nat.beq_eq]; exact h)]
    generalize (sg.filter fun s => Nat.beq (muchL K (s :: l)) d) = L
    generalize (sg.filter fun t => Nat.beq (muchL K (l ++ [t])) d) = R
    induction L with
    | nil => rfl
    | cons a L ih =>
      rw [List.map_cons, List.flatMap_cons, List.flatMap_cons, ih]
      show _ = List.map strOf (_ ++ _)
      rw [List.map_append]
      congr 1
      clear ih
      induction R with
      | nil => rfl
      | cons b R ih =>
        rw [List.map_cons, List.map_cons, List.map_cons, List.filter_cons, List.filter_cons, ih]
        have e : (⟨#[a]⟩ : Str) ++ strOf l ++ (⟨#[b]⟩ : Str) = strOf (a :: (l ++ [b])) := by
          show strOf [a] ++ strOf l ++ strOf [b] = _
          rw [str_app, str_app]
          rfl
        rw [e, cs_of]
        have e5 : decide (much (wds K) (a :: (l ++ [b])) = (d : Int) + 1) = Nat.beq (muchL K (a :: (l ++ [b]))) (d + 1) := dec _ (d + 1)
        rw [e5]
        split <;> rfl
  · rw [if_neg (by omega), if_neg (by rw [Nat.beq_eq]; exact h)]
    rfl
/-! ### trying a core -/
def tryR (sg : W) (d : Nat) (K : List W) : Option (List W) := (growR sg (K.map List.reverse) d 90 91 [] [([], 1)]).map fun ps => K ++ ps.flatMap fun p => newL sg K d p.1.reverse
theorem try_eq {K : List W} (c : Core (wds K)) (sg : W) (d : Nat) :
    (growF (strOf sg) (wds K) (d : Int) 90 91 [] [Str.ofString ""] = none ∧ tryR sg d K = none) ∨ ∃ ls f, growF (strOf sg) (wds K) (d : Int) 90 91 [] [Str.ofString ""] = some ls ∧ tryR sg d K = some f ∧ wds K ++ ls.flatMap (newF (strOf sg) (wds K) (d : Int)) = wds f := by
  have e0 : [Str.ofString ""] = [(([] : W), 1)].map lineS := by
    show [Str.ofString ""] = [strOf []]
    decide +kernel
  have e := grow_eq c (sg := sg) (d := d) (m := 90) 91 [] [([], 1)] fun p mp => by
    rw [List.mem_singleton.mp mp]
    rfl
  rw [← e0] at e
  have e : growF (strOf sg) (wds K) (d : Int) 90 91 [] [Str.ofString ""] = _ := e
  unfold tryR
  cases h : growR sg (K.map List.reverse) d 90 91 [] [([], 1)] with
  | none =>
    rw [h] at e
    exact .inl ⟨e, rfl⟩
  | some ps =>
    rw [h] at e
    refine .inr ⟨_, _, e, rfl, ?_⟩
    show _ = List.map strOf (K ++ _)
    rw [List.map_append]
    congr 1
    clear h e e0
    show List.flatMap (newF (strOf sg) (wds K) (d : Int)) (List.map lineS ps) = List.map strOf (ps.flatMap fun p => newL sg K d p.1.reverse)
    induction ps with
    | nil => rfl
    | cons p ps ih =>
      rw [List.map_cons, List.flatMap_cons, List.flatMap_cons, List.map_append, ih]
      congr 1
      exact new_eq c sg d p.1.reverse
end XBk

/-! the full book of its inner words -/
namespace B17
open PySem PySem.Spec PyProof.Rows L2 XSt NX XB XFl XF XNil XBk
open PySem.W (Frag)
abbrev sBookBy : Stmt := top 58
def spBookBy (K : Frag) : Sp := fun vs H Q _ => ∃ (p q0 : Addr) (x : Str) (ks ls : List Str) (d : Nat), vs = [.str x, .ref p, .int (d : Int), .ref q0] ∧ Abc x ∧ SqT K H p (ks.map V.str) ∧ ks.length ≤ 1000 ∧ (∀ k ∈ ks, k.length ≤ 900) ∧ 2 ≤ d ∧ H q0 = some (.lst (ls.map V.str)) ∧ (∀ l ∈ ls, l.length ≤ 900) ∧ ls.length ≤ 1000 ∧
  (ks ++ ls.flatMap (newF x ks (d : Int))).length < 64 ∧ ∀ r H', H r = none → Ext H H' → H' r = some (.tup ((ordT (ks ++ ls.flatMap (newF x ks (d : Int)))).map V.str)) → Q (.ref r) H'
theorem fm_v (b : V → Bool) (c : Str → Bool) (f : V → V) (g : Str → Str) (h : ∀ s, b (.str s) = c s) (hf : ∀ s, f (.str s) = .str (g s)) : ∀ l : List Str, ((l.map V.str).filter b).map f = ((l.filter c).map g).map V.str
  | [] => rfl
  | a :: l => by
    have ih := fm_v b c f g h hf l
    rw [List.map_cons, List.filter_cons, List.filter_cons, h]
    cases c a with
    | true => rw [if_pos rfl, if_pos rfl, List.map_cons, List.map_cons, List.map_cons, ih, hf]
    | false => rw [if_neg (by decide), if_neg (by decide), ih]
theorem new_len {x : Str} {K : List Str} {d : Int} {l y : Str} (h : y ∈ newF x K d l) : y.length = l.length + 2 := by
  unfold newF at h
  split at h
  · obtain ⟨s, ms, h⟩ := List.mem_flatMap.mp h
    obtain ⟨h, _⟩ := List.mem_filter.mp h
    obtain ⟨t, mt, rfl⟩ := List.mem_map.mp h
    have one : ∀ z ∈ XSt.signs x, z.length = 1 := fun z mz => by
      unfold XSt.signs at mz
      obtain ⟨c, _, rfl⟩ := List.mem_map.mp mz
      rfl
    have e1 := one s (List.mem_filter.mp ms).1
    have e2 := one t (List.mem_filter.mp mt).1
    rw [app_len, app_len, e1, e2]
    omega
  · cases h
section
variable {P : Program} {w : World} {K : Frag} {mg : Str → Option Value} {base : Heap} {f fM fS : Addr} {fd dM dS : FuncData}
theorem scBookBy : FnScope ["signs", "core", "deep", "inner", "found", "line", "sign", "left", "right", "some", "last", "piece"] ["signs", "core", "deep", "inner"] (defScope sBookBy) := ⟨rfl, rfl, rfl, by decide +kernel, rfl, by decide +kernel, by decide +kernel⟩
theorem ok_book_by (F : FnP K "_law_book_by" sBookBy f fd) (M : Free mg) (mLs : mg "list" = none) (FM : FnOk P w K mg base CX0 2 fM dM ["lot", "line"] (spMuch K)) (gM : mg "_law_much" = some (.ref fM)) (kM : PySem.W.keepIn K (.ref fM) = true) (bM : Binds K dM ["lot", "line"] [])
    (FS : FnOk P w K mg base CX0 1 fS dS ["lot"] (spSorted K)) (gS : mg "_law_sorted" = some (.ref fS)) (kS : PySem.W.keepIn K (.ref fS) = true) (bS : Binds K dS ["lot"] []) : FnOk P w K mg base CX0 3 f fd ["signs", "core", "deep", "inner"] (spBookBy K) := by
  refine F.ok scBookBy (fun vs H Q E h => ?_) (fun cdv A outer s H vs Q E hr h => ?_)
  · obtain ⟨p, q0, x, ks, ls, d, rfl, _⟩ := h
    rfl
  · obtain ⟨p, q0, x, ks, ls, d, rfl, abc, sq, few, lk, d2, eq0, ll, lls, tot, q⟩ := h
    have hs : sizeLine = 16777216 := sizeLine_eq
    refine ⟨_, PSs.nox (pss_cons (ps_set (i := 4) scBookBy.nd rfl (.inl rfl) (pe_callTy call_list_of (by rfl) mLs (by decide +kernel) (pa_cons (pv 1) pa_nil)))
      (pss_cons (ps_if (pt_cmpR op_eq (pv 2) pe_int (nomark _)) (pss_one ps_never) pss_nil)
      (pss_cons (ps_for PassesOwn.never rfl (pi_list (pv 3)) (pg_name (i := 5) scBookBy.nd rfl (.inr rfl))
        (pss_one (ps_if (pt_cmpR op_eq (pe_call FM (hr.mono (by decide)) (by rfl) gM kM bM .nil pass0 (pa_cons (pv 1) (pa_cons (pv 5) pa_nil))) (pe_op op_sub (pv 2) pe_int) (nomark _))
          (pss_cons (ps_setLc (i := 7) (own := [("sign", 6)]) (g := gName 6) (tt := tTest (tOp rEq (tCall (spMuch K) [] E0 (tCons (tVar 1) (tCons (tOp rAddS (tVar 6) (tVar 5)) tNil))) (tVar 2))) (te := tVar 6) rfl scBookBy.nd rfl rfl (by rfl) (pi_str (pv 0)) (blkOk_by (N := ["signs", "core", "deep", "inner", "found", "line", "sign", "left", "right", "some", "last", "piece"]) (sc := defScope sBookBy) (by decide +kernel))
              (fun _ _ _ _ _ => pg_name (i := 6) scBookBy.nd rfl (Or.inl rfl)) (fun _ _ _ _ _ => by exact pts_one (pt_cmpR op_eq (pe_call FM (hr.mono (by decide)) (by rfl) gM kM bM .nil pass0 (pa_cons (pv 1) (pa_cons (pe_op op_addS (pv 6) (pv 5)) pa_nil))) (pv 2) (nomark _))) (fun _ _ _ _ _ => by exact pv 6))
          (pss_cons (ps_setLc (i := 8) (own := [("sign", 6)]) (g := gName 6) (tt := tTest (tOp rEq (tCall (spMuch K) [] E0 (tCons (tVar 1) (tCons (tOp rAddS (tVar 5) (tVar 6)) tNil))) (tVar 2))) (te := tVar 6) rfl scBookBy.nd rfl rfl (by rfl) (pi_str (pv 0)) (blkOk_by (N := ["signs", "core", "deep", "inner", "found", "line", "sign", "left", "right", "some", "last", "piece"]) (sc := defScope sBookBy) (by decide +kernel))
              (fun _ _ _ _ _ => pg_name (i := 6) scBookBy.nd rfl (Or.inl rfl)) (fun _ _ _ _ _ => by exact pts_one (pt_cmpR op_eq (pe_call FM (hr.mono (by decide)) (by rfl) gM kM bM .nil pass0 (pa_cons (pv 1) (pa_cons (pe_op op_addS (pv 5) (pv 6)) pa_nil))) (pv 2) (nomark _))) (fun _ _ _ _ _ => by exact pv 6))
          (pss_one (ps_for PassesOwn.never rfl (pi_list (pv 7)) (pg_name (i := 6) scBookBy.nd rfl (.inr rfl))
            (pss_cons (ps_setLc (i := 9) (own := [("last", 10)]) (g := gName 10) (tt := tYes) (te := tOp rAddS (tOp rAddS (tVar 6) (tVar 5)) (tVar 10)) rfl scBookBy.nd rfl rfl (by rfl) (pi_list (pv 8)) (blkOk_by (N := ["signs", "core", "deep", "inner", "found", "line", "sign", "left", "right", "some", "last", "piece"]) (sc := defScope sBookBy) (by decide +kernel))
              (fun _ _ _ _ _ => pg_name (i := 10) scBookBy.nd rfl (Or.inl rfl)) (fun _ _ _ _ _ => pts_nil) (fun _ _ _ _ _ => by exact pe_op op_addS (pe_op op_addS (pv 6) (pv 5)) (pv 10)))
            (pss_one (ps_set (i := 4) scBookBy.nd rfl (.inl rfl) (pe_op op_cat (pv 4) (pe_lc (own := [("piece", 11)]) (g := gName 11) (tt := tTest (tOp rEq (tCall (spMuch K) [] E0 (tCons (tVar 1) (tCons (tVar 11) tNil))) (tOp (rI0 fun i j => .int (i + j)) (tVar 2) (tC (.int 1))))) (te := tVar 11) rfl scBookBy.nd (pi_list (pv 9)) (blkOk_by (N := ["signs", "core", "deep", "inner", "found", "line", "sign", "left", "right", "some", "last", "piece"]) (sc := defScope sBookBy) (by decide +kernel))
              (fun _ _ _ _ _ => pg_name (i := 11) scBookBy.nd rfl (Or.inl rfl)) (fun _ _ _ _ _ => by exact pts_one (pt_cmpR op_eq (pe_call FM (hr.mono (by decide)) (by rfl) gM kM bM .nil pass0 (pa_cons (pv 1) (pa_cons (pv 11) pa_nil))) (pe_op op_add (pv 2) pe_int) (nomark _))) (fun _ _ _ _ _ => by exact pv 11)))))))))) pss_nil)))
      (pss_one (ps_ret (pe_call FS (hr.mono (by decide)) (by rfl) gS kS bS .nil pass0 (pa_cons (pv 4) pa_nil))))))), ?_⟩
    refine ⟨_, rfl, p, _, rfl, .inr sq, fun r0 hr0 => ?_⟩
    have x0 := (Ext.refl H).new hr0 (o := .lst (ks.map V.str))
    have er0 : (upd H r0 (.lst (ks.map V.str))) r0 = some (.lst (ks.map V.str)) := upd_same
    generalize upd H r0 (.lst (ks.map V.str)) = H0 at x0 er0 ⊢
    refine ⟨_, rfl, rfl, _, rfl, ?_⟩
    have nd1 : decide (V.int (d : Int) = V.int 1) = false := decide_eq_false fun z => by have := V.int.inj z; omega
    rw [nd1]
    refine iteF ⟨_, rfl, q0, rfl, ⟨_, SqL.of (x0 _ _ eq0)⟩, ?_⟩
    have part : ∀ i, (ks ++ (ls.take i).flatMap (newF x ks (d : Int))).length < 64 := fun i => by
      have e : ls.flatMap (newF x ks (d : Int)) = (ls.take i).flatMap (newF x ks (d : Int)) ++ (ls.drop i).flatMap (newF x ks (d : Int)) := by rw [← List.flatMap_append, List.take_append_drop]
      rw [e] at tot
      simp only [List.length_append] at tot ⊢
      omega
    have one : ∀ z ∈ XSt.signs x, ∃ c, z = (⟨#[c]⟩ : Str) := fun z mz => by
      unfold XSt.signs at mz
      obtain ⟨c, _, rfl⟩ := List.mem_map.mp mz
      exact ⟨c, rfl⟩
    have sg : x.cps.size = ((XSt.signs x).map V.str).length := by rw [List.length_map, signs_count]; rfl
    have sgl : ((XSt.signs x).map V.str).length ≤ sizeLine := by rw [List.length_map, signs_count]; have := abc.few; omega
    refine for_list (xs := ls.map V.str) (fun i σ H7 => ∃ g7 o5 o6 o7 o8 o9 o10 o11, σ = [some (.str x), some (.ref p), some (.int (d : Int)), some (.ref q0), some (.ref g7), o5, o6, o7, o8, o9, o10, o11] ∧ H7 g7 = some (.lst ((ks ++ (ls.take i).flatMap (newF x ks (d : Int))).map V.str)) ∧ Ext H0 H7) ⟨r0, _, _, _, _, _, _, _, rfl, by rw [List.take_zero, List.flatMap_nil, List.append_nil]; exact er0, Ext.refl _⟩ (fun i σ H7 _ z => by obtain ⟨_, _, _, _, _, _, _, _, _, _, y⟩ := z; exact SqL.of (y _ _ (x0 _ _ eq0))) ?_ ?_
    · rintro i v σ H7 ev ⟨g7, o5, o6, o7, o8, o9, o10, o11, rfl, eg7, x7⟩
      rw [List.getElem?_map] at ev
      cases gi : ls[i]? with
      | none => rw [gi] at ev; cases ev
      | some l =>
        rw [gi] at ev
        obtain rfl : V.str l = v := Option.some.inj ev
        have lw := ll l (List.mem_of_getElem? gi)
        have pi := part i
        have pi1 := part (i + 1)
        rw [take_more gi, List.flatMap_append, List.flatMap_singleton, ← List.append_assoc] at pi1 ⊢
        generalize ks ++ (ls.take i).flatMap (newF x ks (d : Int)) = acc at eg7 pi pi1 ⊢
        have x07 := x0.trans x7
        refine ⟨_, rfl, _, rfl, p, ks, l, rfl, sqT_ext x07 sq, few, fun k m => Nat.le_trans (lk k m) (by decide), by omega, fun H8 x8 => ⟨_, rfl, _, _, rfl, rfl, rfl, _, rfl, ?_⟩⟩
        have em : decide (V.int (much ks (cs l)) = V.int ((d : Int) - 1)) = decide (much ks (cs l) = (d : Int) - 1) := decide_eq_decide.mpr ⟨fun z => V.int.inj z, fun z => by rw [z]⟩
        rw [em]
        by_cases hm : much ks (cs l) = (d : Int) - 1
        rotate_left
        · rw [decide_eq_false hm]
          refine iteF ⟨g7, _, _, _, _, _, _, _, rfl, ?_, x7.trans x8⟩
          unfold newF
          rw [if_neg hm, List.append_nil]
          exact x8 _ _ eg7
        rw [decide_eq_true hm]
        have hn : newF x ks (d : Int) l = (leftF x ks (d : Int) l).flatMap fun s => ((rightF x ks (d : Int) l).map fun t => s ++ l ++ t).filter fun p => decide (much ks (cs p) = (d : Int) + 1) := by
          unfold newF
          rw [if_pos hm]
        rw [hn] at pi1 ⊢
        clear hn em
        have x08 := x07.trans x8
        -- left
        refine iteT ⟨_, rfl, x, rfl, fun D hD => ?_⟩
        refine lc_fm walk_str Ext (ext_keeps hD) ((XSt.signs x).map V.str) sg sgl (fun v => match v with | .str s => decide (much ks (cs (s ++ l)) = (d : Int)) | _ => false) id (fun _ _ => trivial) at_str ?_ ?_
        · intro a v H9 Nx ex k9 hF hT
          rw [List.getElem?_map] at ex
          cases gc : (XSt.signs x)[a]? with
          | none => rw [gc] at ex; cases ex
          | some c =>
            rw [gc] at ex
            obtain rfl : V.str c = v := Option.some.inj ex
            obtain ⟨cc, rfl⟩ := one c (List.mem_of_getElem? gc)
            have lz : ((⟨#[cc]⟩ : Str) ++ l).length ≤ 1000 := by
              rw [app_len]
              show 1 + l.length ≤ 1000
              omega
            refine ⟨rfl, _, rfl, _, rfl, _, rfl, _, _, rfl, rfl, by show 1 + l.length ≤ sizeLine; omega, p, ks, _, rfl, sqT_ext (x08.trans k9) sq, few, fun k m => Nat.le_trans (lk k m) (by decide), lz, fun H10 x10 => ⟨_, rfl, rfl, _, rfl, ?_⟩⟩
            have em : decide (V.int (much ks (cs ((⟨#[cc]⟩ : Str) ++ l))) = V.int (d : Int)) = decide (much ks (cs ((⟨#[cc]⟩ : Str) ++ l)) = (d : Int)) := decide_eq_decide.mpr ⟨fun z => V.int.inj z, fun z => by rw [z]⟩
            rw [em]
            cases hl : decide (much ks (cs ((⟨#[cc]⟩ : Str) ++ l)) = (d : Int)) with
            | true => exact iteT ⟨_, rfl, hT hl _ x10⟩
            | false => exact iteF (hF hl _ x10)
        intro H9 eL x9
        have eL : H9 D = some (.lst ((leftF x ks (d : Int) l).map V.str)) := by
          rw [eL, fm_v _ (fun s => decide (much ks (cs (s ++ l)) = (d : Int))) id id (fun _ => rfl) (fun _ => rfl), List.map_id]
          rfl
        have x09 := x08.trans x9
        -- right
        refine ⟨_, rfl, x, rfl, fun D2 hD2 => ?_⟩
        refine lc_fm walk_str Ext (ext_keeps hD2) ((XSt.signs x).map V.str) sg sgl (fun v => match v with | .str s => decide (much ks (cs (l ++ s)) = (d : Int)) | _ => false) id (fun _ _ => trivial) at_str ?_ ?_
        · intro a v H10 Nx ex k10 hF hT
          rw [List.getElem?_map] at ex
          cases gc : (XSt.signs x)[a]? with
          | none => rw [gc] at ex; cases ex
          | some c =>
            rw [gc] at ex
            obtain rfl : V.str c = v := Option.some.inj ex
            obtain ⟨cc, rfl⟩ := one c (List.mem_of_getElem? gc)
            have lz : (l ++ (⟨#[cc]⟩ : Str)).length ≤ 1000 := by
              rw [app_len]
              show l.length + 1 ≤ 1000
              omega
            refine ⟨rfl, _, rfl, _, rfl, _, rfl, _, _, rfl, rfl, by show l.length + 1 ≤ sizeLine; omega, p, ks, _, rfl, sqT_ext (x09.trans k10) sq, few, fun k m => Nat.le_trans (lk k m) (by decide), lz, fun H11 x11 => ⟨_, rfl, rfl, _, rfl, ?_⟩⟩
            have em : decide (V.int (much ks (cs (l ++ (⟨#[cc]⟩ : Str)))) = V.int (d : Int)) = decide (much ks (cs (l ++ (⟨#[cc]⟩ : Str))) = (d : Int)) := decide_eq_decide.mpr ⟨fun z => V.int.inj z, fun z => by rw [z]⟩
            rw [em]
            cases hl : decide (much ks (cs (l ++ (⟨#[cc]⟩ : Str))) = (d : Int)) with
            | true => exact iteT ⟨_, rfl, hT hl _ x11⟩
            | false => exact iteF (hF hl _ x11)
        intro H10 eR x10
        have eR : H10 D2 = some (.lst ((rightF x ks (d : Int) l).map V.str)) := by
          rw [eR, fm_v _ (fun s => decide (much ks (cs (l ++ s)) = (d : Int))) id id (fun _ => rfl) (fun _ => rfl), List.map_id]
          rfl
        have eL := x10 _ _ eL
        have x70 := x8.trans (x9.trans x10)
        have eg10 := x70 _ _ eg7
        have x0A := x09.trans x10
        have oneL : ∀ z ∈ leftF x ks (d : Int) l, z.length = 1 := fun z mz => by
          obtain ⟨c, rfl⟩ := one z (List.mem_filter.mp mz).1
          rfl
        have oneR : ∀ z ∈ rightF x ks (d : Int) l, z.length = 1 := fun z mz => by
          obtain ⟨c, rfl⟩ := one z (List.mem_filter.mp mz).1
          rfl
        have lenR : (rightF x ks (d : Int) l).length ≤ 3 := by
          refine Nat.le_trans (List.length_filter_le _ _) ?_
          rw [signs_count]
          exact abc.few
        generalize leftF x ks (d : Int) l = L at eL oneL pi1 ⊢
        generalize rightF x ks (d : Int) l = R at eR oneR lenR pi1 ⊢
        clear eg7 x8 x9 hm hD hD2
        have sub1 : ∀ a, (acc ++ (L.take a).flatMap fun s => (R.map fun t => s ++ l ++ t).filter fun p => decide (much ks (cs p) = (d : Int) + 1)).length < 64 := fun a => by
          have e : (L.flatMap fun s => (R.map fun t => s ++ l ++ t).filter fun p => decide (much ks (cs p) = (d : Int) + 1)) = ((L.take a).flatMap fun s => (R.map fun t => s ++ l ++ t).filter fun p => decide (much ks (cs p) = (d : Int) + 1)) ++ ((L.drop a).flatMap fun s => (R.map fun t => s ++ l ++ t).filter fun p => decide (much ks (cs p) = (d : Int) + 1)) := by rw [← List.flatMap_append, List.take_append_drop]
          rw [e] at pi1
          simp only [List.length_append] at pi1 ⊢
          omega
        refine ⟨_, rfl, D, rfl, ⟨_, SqL.of eL⟩, ?_⟩
        refine for_list (xs := L.map V.str) (fun a σ H11 => ∃ g11 o6 o9 o10 o11, σ = [some (.str x), some (.ref p), some (.int (d : Int)), some (.ref q0), some (.ref g11), some (.str l), o6, some (.ref D), some (.ref D2), o9, o10, o11] ∧ H11 g11 = some (.lst ((acc ++ (L.take a).flatMap fun s => (R.map fun t => s ++ l ++ t).filter fun p => decide (much ks (cs p) = (d : Int) + 1)).map V.str)) ∧ Ext H10 H11) ⟨g7, _, _, _, _, rfl, by rw [List.take_zero, List.flatMap_nil, List.append_nil]; exact eg10, Ext.refl _⟩ (fun a σ H11 _ z => by obtain ⟨_, _, _, _, _, _, _, y⟩ := z; exact SqL.of (y _ _ eL)) ?_ ?_
        · rintro a v σ H11 ev2 ⟨g11, o6, o9, o10, o11, rfl, eg11, x11⟩
          rw [List.getElem?_map] at ev2
          cases gs : L[a]? with
          | none => rw [gs] at ev2; cases ev2
          | some s0 =>
            rw [gs] at ev2
            obtain rfl : V.str s0 = v := Option.some.inj ev2
            have ls0 := oneL s0 (List.mem_of_getElem? gs)
            have sa := sub1 a
            have sa1 := sub1 (a + 1)
            rw [take_more gs, List.flatMap_append, List.flatMap_singleton, ← List.append_assoc] at sa1 ⊢
            generalize acc ++ ((L.take a).flatMap fun s => (R.map fun t => s ++ l ++ t).filter fun p => decide (much ks (cs p) = (d : Int) + 1)) = acc2 at eg11 sa sa1 ⊢
            have eR11 := x11 _ _ eR
            refine ⟨_, rfl, D2, rfl, ⟨_, SqL.of eR11⟩, fun D3 hD3 => ?_⟩
            refine lc_fm walk_list Ext (ext_keeps hD3) (R.map V.str) rfl (by rw [List.length_map]; omega) (fun _ => true) (fun v => match v with | .str t => .str (s0 ++ l ++ t) | v => v) (fun H z => SqL.of (z _ _ eR11)) (fun _ _ _ _ _ y => y) ?_ ?_
            · intro b v H12 Nx ex k12 hF hT
              rw [List.getElem?_map] at ex
              cases gt : R[b]? with
              | none => rw [gt] at ex; cases ex
              | some t =>
                rw [gt] at ex
                obtain rfl : V.str t = v := Option.some.inj ex
                have lt := oneR t (List.mem_of_getElem? gt)
                refine ⟨rfl, _, rfl, _, rfl, _, _, rfl, rfl, by omega, _, rfl, _, _, rfl, rfl, by rw [app_len]; omega, hT rfl _ (Ext.refl _)⟩
            · intro H12 eS x12
              have eS : H12 D3 = some (.lst ((R.map fun t => s0 ++ l ++ t).map V.str)) := by
                rw [eS, fm_v _ (fun _ => true) _ (fun t => s0 ++ l ++ t) (fun _ => rfl) (fun _ => rfl), List.filter_eq_self.mpr (fun _ _ => rfl)]
              have lenS : ∀ z ∈ R.map (fun t => s0 ++ l ++ t), z.length ≤ 1000 := fun z mz => by
                obtain ⟨t, mt, rfl⟩ := List.mem_map.mp mz
                have := oneR t mt
                rw [app_len, app_len]
                omega
              have fewS : (R.map fun t => s0 ++ l ++ t).length ≤ 3 := by rw [List.length_map]; exact lenR
              generalize (R.map fun t => s0 ++ l ++ t) = S at eS lenS fewS sa1 ⊢
              refine ⟨_, rfl, _, rfl, D3, rfl, ⟨_, SqL.of eS⟩, fun D4 hD4 => ?_⟩
              have x0B := (x0A.trans x11).trans x12
              refine lc_fm walk_list Ext (ext_keeps hD4) (S.map V.str) rfl (by rw [List.length_map]; omega) (fun v => match v with | .str s => decide (much ks (cs s) = (d : Int) + 1) | _ => false) id (fun H z => SqL.of (z _ _ eS)) (fun _ _ _ _ _ y => y) ?_ ?_
              · intro b v H13 Nx ex k13 hF hT
                rw [List.getElem?_map] at ex
                cases gt : S[b]? with
                | none => rw [gt] at ex; cases ex
                | some t =>
                  rw [gt] at ex
                  obtain rfl : V.str t = v := Option.some.inj ex
                  refine ⟨rfl, _, rfl, _, rfl, p, ks, t, rfl, sqT_ext (x0B.trans k13) sq, few, fun k m => Nat.le_trans (lk k m) (by decide), lenS t (List.mem_of_getElem? gt), fun H14 x14 => ⟨_, rfl, _, _, rfl, rfl, rfl, _, rfl, ?_⟩⟩
                  have em : decide (V.int (much ks (cs t)) = V.int ((d : Int) + 1)) = decide (much ks (cs t) = (d : Int) + 1) := decide_eq_decide.mpr ⟨fun z => V.int.inj z, fun z => by rw [z]⟩
                  rw [em]
                  cases hl : decide (much ks (cs t) = (d : Int) + 1) with
                  | true => exact iteT ⟨_, rfl, hT hl _ x14⟩
                  | false => exact iteF (hF hl _ x14)
              · intro H13 eF x13
                have eF : H13 D4 = some (.lst ((S.filter fun p => decide (much ks (cs p) = (d : Int) + 1)).map V.str)) := by
                  rw [eF, fm_v _ (fun p => decide (much ks (cs p) = (d : Int) + 1)) id id (fun _ => rfl) (fun _ => rfl), List.map_id]
                refine ⟨g11, D4, _, _, rfl, rfl, (x12.trans x13) _ _ eg11, eF, by rw [List.length_map, List.length_map]; rw [List.length_append] at sa1; omega, fun R2 hR2 => ?_⟩
                exact ⟨R2, _, _, _, _, rfl, by rw [List.map_append]; exact upd_same, (x11.trans (x12.trans x13)).new hR2⟩
        · rintro σ H11 ⟨g11, o6, o9, o10, o11, rfl, eg11, x11⟩
          rw [List.length_map, List.take_length] at eg11
          exact ⟨g11, _, _, _, _, _, _, _, rfl, eg11, x7.trans (x70.trans x11)⟩
    · rintro σ H7 ⟨g7, o5, o6, o7, o8, o9, o10, o11, rfl, eg7, x7⟩
      rw [List.length_map, List.take_length] at eg7
      have x07 := x0.trans x7
      refine ⟨_, rfl, g7, _, rfl, SqL.of eg7, tot, fun y my => ?_, fun r H' hr k e => q r H' (free_back x07 hr) (x07.trans k) e⟩
      rcases List.mem_append.mp my with m | m
      · have := lk y m
        omega
      · obtain ⟨l, ml, mn⟩ := List.mem_flatMap.mp m
        have := ll l ml
        rw [new_len mn]
        omega
end
end B17

/-! the table of the full books that can be drawn -/
namespace XBk
open PySem PySem.Spec PyProof.Rows L2 XSt NX XFl
def subs : Nat → List W → List (List W)
  | 0, _ => [[]]
  | _ + 1, [] => [[]]
  | n + 1, a :: l => (subs n l).map (a :: ·) ++ subs (n + 1) l
theorem mem_subs : ∀ {n : Nat} {l c : List W}, c.Sublist l → c.length ≤ n → c ∈ subs n l
  | 0, l, c, _, h => by
    have : c = [] := List.eq_nil_of_length_eq_zero (Nat.le_zero.mp h)
    subst this
    cases l <;> exact List.mem_singleton_self _
  | n + 1, [], c, s, _ => by
    rw [List.sublist_nil.mp s]
    exact List.mem_singleton_self _
  | n + 1, a :: l, c, s, h => by
    unfold subs
    rcases List.sublist_cons_iff.mp s with s1 | ⟨c', e, s1⟩
    · exact List.mem_append_right _ (mem_subs s1 h)
    · subst e
      exact List.mem_append_left _ (List.mem_map.mpr ⟨c', mem_subs s1 (by rw [List.length_cons] at h; omega), rfl⟩)
/-! ### growing, with counts alone -/
def growC (sg : W) (KR : List W) (d m : Nat) : Nat → Nat → List (List (W × Nat)) → List (W × Nat) → Option (List (W × Nat))
  | 0, _, _, _ => none
  | n + 1, cnt, acc, layer => if layer.isEmpty = true then some acc.reverse.flatten else if Nat.blt m (cnt + layer.length) = true then none else growC sg KR d m n (cnt + layer.length) (layer :: acc) (layer.flatMap (kidsR sg KR d))
theorem growC_eq (sg : W) (KR : List W) (d m : Nat) : ∀ (n cnt : Nat) (acc : List (List (W × Nat))) (layer : List (W × Nat)), cnt = acc.reverse.flatten.length → growR sg KR d m n acc.reverse.flatten layer = growC sg KR d m n cnt acc layer
  | 0, _, _, _, _ => rfl
  | n + 1, cnt, acc, layer, e => by
    unfold growR growC
    have e1 : (layer :: acc).reverse.flatten = acc.reverse.flatten ++ layer := by
      rw [List.reverse_cons, List.flatten_append, List.flatten_cons, List.flatten_nil, List.append_nil]
    have e2 : (acc.reverse.flatten ++ layer).length = cnt + layer.length := by rw [List.length_append, e]
    have ih := growC_eq sg KR d m n (cnt + layer.length) (layer :: acc) (layer.flatMap (kidsR sg KR d)) (by rw [e1, e2])
    rw [e1] at ih
    rw [e2, ih]
def tryC (sg : W) (d : Nat) (K : List W) : Option (List W) := (growC sg (K.map List.reverse) d 90 91 0 [] [([], 1)]).map fun ps => K ++ ps.flatMap fun p => newL sg K d p.1.reverse
theorem tryC_eq (sg : W) (d : Nat) (K : List W) : tryR sg d K = tryC sg d K := by
  unfold tryR tryC
  rw [← growC_eq sg _ d 90 91 0 [] [([], 1)] rfl]
  rfl
/-- a state: the core, the words, and whether so far all was small -/
structure Stt where
  core : List W
  lot : List W
  ok : Bool
deriving DecidableEq
def outerL (s : Stt) : List W := s.lot.filter fun p => !decide (p ∈ s.core)
def stepR (sg : W) (d : Nat) (s : Stt) : List Stt := (subs 3 (outerL s)).map fun c => match tryC sg d (ordW (s.core ++ c)) with
  | some f => ⟨ordW (s.core ++ c), ordW f, s.ok && Nat.blt f.length 64⟩
  | none => match tryC sg d s.core with
    | some f => ⟨s.core, ordW f, s.ok && Nat.blt f.length 64⟩
    | none => s
def eqS (a b : Stt) : Bool := decide (a.core = b.core) && (decide (a.lot = b.lot) && (a.ok == b.ok))
def dedup : List Stt → List Stt
  | [] => []
  | a :: l => if (dedup l).any (eqS a) = true then dedup l else a :: dedup l
theorem eqS_eq {a b : Stt} (h : eqS a b = true) : a = b := by
  unfold eqS at h
  rw [Bool.and_eq_true, Bool.and_eq_true, decide_eq_true_eq, decide_eq_true_eq, beq_iff_eq] at h
  obtain ⟨a1, a2, a3⟩ := a
  obtain ⟨b1, b2, b3⟩ := b
  obtain ⟨h1, h2, h3⟩ := h
  have h1 : a1 = b1 := h1
  have h2 : a2 = b2 := h2
  have h3 : a3 = b3 := h3
  rw [h1, h2, h3]
theorem mem_dedup {x : Stt} : ∀ {l : List Stt}, x ∈ l → x ∈ dedup l
  | a :: l, h => by
    unfold dedup
    split
    · rename_i c
      rcases List.mem_cons.mp h with rfl | h
      · obtain ⟨y, my, e⟩ := List.any_eq_true.mp c
        rw [eqS_eq e]
        exact my
      · exact mem_dedup h
    · rcases List.mem_cons.mp h with rfl | h
      · exact List.mem_cons_self
      · exact List.mem_cons_of_mem _ (mem_dedup h)
/-- the states behind so many steps -/
def tabR (sg : W) : Nat → List Stt
  | 0 => [⟨[], sg.map fun c => [c], true⟩]
  | n + 1 => dedup ((tabR sg n).flatMap (stepR sg (n + 2)))
/-! ### what holds of all of them -/
def noclL (l : List W) : Bool := l.all fun a => l.all fun b => decide (a = b) || (!isPre a b && !isPre a.reverse b.reverse)
def okS (sg : W) (n : Nat) (s : Stt) : Bool := s.ok && (noclL s.lot && ((s.lot.all fun w => Nat.ble 1 w.length && (Nat.ble w.length n && w.all fun c => decide (c ∈ sg))) && ((s.core.all fun w => decide (w ∈ s.lot)) && Nat.blt s.lot.length 64)))
def lettersL : List W := [[97, 98], [120, 121], [97], [97, 98, 99]]
/-- what the last step from one state gives, checked -/
def chkAt (sg : W) (n k i : Nat) : Bool := match (tabR sg k)[i]? with
  | some s => (dedup (stepR sg (k + 2) s)).all (okS sg n)
  | none => true
theorem chk_all {sg : W} {n k m : Nat} (few : (tabR sg k).length = m) (h : ∀ i, i < m → chkAt sg n k i = true) : ∀ s ∈ tabR sg (k + 1), okS sg n s = true := by
  intro s ms
  have undup : ∀ {l : List Stt} {x : Stt}, x ∈ dedup l → x ∈ l := by
    intro l
    induction l with
    | nil => intro x h; exact h
    | cons a l ih =>
      intro x h
      unfold dedup at h
      split at h
      · exact List.mem_cons_of_mem _ (ih h)
      · rcases List.mem_cons.mp h with rfl | h
        · exact List.mem_cons_self
        · exact List.mem_cons_of_mem _ (ih h)
  obtain ⟨s0, m0, m1⟩ := List.mem_flatMap.mp (undup ms)
  obtain ⟨i, hi, e⟩ := List.mem_iff_getElem.mp m0
  have z := h i (by omega)
  unfold chkAt at z
  rw [List.getElem?_eq_getElem hi, e] at z
  exact List.all_eq_true.mp z s (mem_dedup m1)
end XBk

/-! no word twice in the table -/
namespace XBk
open PySem PySem.Spec PyProof.Rows L2 XSt NX XFl
theorem of_dedup {x : Stt} : ∀ {l : List Stt}, x ∈ dedup l → x ∈ l
  | [], h => h
  | a :: l, h => by
    unfold dedup at h
    split at h
    · exact List.mem_cons_of_mem _ (of_dedup h)
    · rcases List.mem_cons.mp h with rfl | h
      · exact List.mem_cons_self
      · exact List.mem_cons_of_mem _ (of_dedup h)
theorem step_at {sg : W} {d : Nat} {s : Stt} {c : List W} (h : c ∈ subs 3 (outerL s)) : (match tryC sg d (ordW (s.core ++ c)) with
  | some f => ⟨ordW (s.core ++ c), ordW f, s.ok && Nat.blt f.length 64⟩
  | none => match tryC sg d s.core with
    | some f => ⟨s.core, ordW f, s.ok && Nat.blt f.length 64⟩
    | none => s) ∈ stepR sg d s := List.mem_map.mpr ⟨c, h, rfl⟩
theorem next_in {sg : W} {n : Nat} {s s' : Stt} (m : s ∈ tabR sg n) (h : s' ∈ stepR sg (n + 2) s) : s' ∈ tabR sg (n + 1) := mem_dedup (List.mem_flatMap.mpr ⟨s, m, h⟩)
theorem tab_nodup {sg : W} (h : sg.Nodup) : ∀ n, ∀ s ∈ tabR sg n, s.core.Nodup ∧ s.lot.Nodup
  | 0, s, m => by
    obtain rfl := List.mem_singleton.mp m
    exact ⟨List.nodup_nil, List.Pairwise.map (fun c => [c]) (fun a b ne e => ne (by injection e)) h⟩
  | n + 1, s, m => by
    obtain ⟨s0, m0, m1⟩ := List.mem_flatMap.mp (of_dedup m)
    have ih := tab_nodup h n s0 m0
    obtain ⟨c, mc, rfl⟩ := List.mem_map.mp m1
    cases tryC sg (n + 2) (ordW (s0.core ++ c)) with
    | some f => exact ⟨ord_nodup _, ord_nodup _⟩
    | none =>
      cases tryC sg (n + 2) s0.core with
      | some f => exact ⟨ih.1, ord_nodup _⟩
      | none => exact ih
theorem tab_sorted {sg : W} (h : sg.Pairwise (· < ·)) : ∀ n, ∀ s ∈ tabR sg n, s.lot.Pairwise fun x y => leW x y = true ∧ x ≠ y
  | 0, s, m => by
    obtain rfl := List.mem_singleton.mp m
    refine List.Pairwise.map (fun c => [c]) (fun a b lt => ⟨?_, fun e => ?_⟩) h
    · have z : Nat.blt a b = true := by rw [Nat.blt_eq]; exact lt
      show (Nat.blt 1 1 || (Nat.beq 1 1 && (Nat.blt a b || (Nat.beq a b && lexLe [] [])))) = true
      rw [z]
      rfl
    · have : a = b := by injection e
      exact Nat.ne_of_lt lt this
  | n + 1, s, m => by
    obtain ⟨s0, m0, m1⟩ := List.mem_flatMap.mp (of_dedup m)
    have ih := tab_sorted h n s0 m0
    obtain ⟨c, mc, rfl⟩ := List.mem_map.mp m1
    cases tryC sg (n + 2) (ordW (s0.core ++ c)) with
    | some f => exact ord_sorted _
    | none =>
      cases tryC sg (n + 2) s0.core with
      | some f => exact ord_sorted _
      | none => exact ih
theorem ordT_sorted {l : List W} (h : l.Pairwise fun x y => leW x y = true ∧ x ≠ y) : ordT (wds l) = wds l := by
  symm
  refine XSt.tLe_ord.one ?_ ?_
  · have nd : (wds l).Nodup := List.Pairwise.map strOf (fun a b h e => h.2 (of_inj e)) h
    rw [List.perm_ext_iff_of_nodup nd (nodup_once _)]
    intro x
    exact mem_once.symm
  · refine List.Pairwise.map strOf (fun a b h => ?_) h
    rw [← leW_t]
    exact h.1
end XBk

/-! tuple(s) of a text; x not in t of texts -/
namespace XTs
open PySem PySem.Spec PyProof.Rows L2 XSt NX
section
variable {prog : Program} {w : World} {A : Around} {E : Value → Shared → Prop} {s : Shared}
theorem code_tuple_new_str {Q₁ : Value → Shared → Prop} (hh : A.handled = none) (x : Str) (t : Tok) (hn : x.cps.size ≤ sizeLine)
    (h : ∀ (h' : Heap) (tk : Nat) (acc : Array Value), (∀ b o, s.heap.get? b = some o → h'.get? b = some o) → ItemsOf (SignAt x) acc x.cps.size →
      Q₁ (.ref h'.objs.size) { s with heap := h'.push { cls := .type "tuple", data := .seq acc }, toks := tk }) :
    codeAny (model prog w) A (.call (.builtin "tuple.__new__") ⟨[.type "tuple", .str x t], []⟩) (wants Q₁ E) s := by
  refine codeAny_of_tree ?_
  show wpAny _ A.in1 (do checkBuiltinCall "tuple.__new__" ⟨[.type "tuple", .str x t], []⟩; again (.builtin "tuple.__new__" ⟨[.type "tuple", .str x t], []⟩)) _ _ s
  refine wpAny_bind (wpAny_of_eq (F.newCall_tuple_1 _) (wpAny_pure ⟨plainId_quiet F.plain_tuple_new _, codeAny_builtin F.entry_tuple_new ?_⟩))
  rw [Around.under_plainId F.plain_tuple_new _]
  have hsub := sub_tuple_self
  have hinit := init_tuple_lookup
  have hmh := madeHere_tuple
  have hTI : s.TypeIs (.str x t) "str" := rfl
  have hh1 : A.in1.handled = none := hh
  wp_walk using wpAny_typeOf hTI, wpAny_collect_str (A := A.in1) hh1 x t (hn := hn)
  intro s' acc hk hg hd ho hacc
  show wpAny _ _ (Builtin.Tuple.tupleExact acc.toList.toArray >>= fun v => ret v) _ _ _
  unfold Builtin.Tuple.tupleExact
  refine wpAny_bind (wpAny_newObj_type ?_ (by show acc.toList.toArray.size ≤ sizeLine; simp only [Array.toArray_toList]; rw [hacc.1]; exact hn))
  refine wpAny_pure ?_
  have e : acc.toList.toArray = acc := by simp
  rw [e]
  have z := h s'.heap s'.toks acc hk hacc
  obtain ⟨hp, g, d, tk, os⟩ := s'
  cases hg
  cases hd
  cases ho
  exact z
theorem call_tuple_str {Q : Value → Shared → Prop} (hh : A.handled = none) (x : Str) (t : Tok) (hn : x.cps.size ≤ sizeLine)
    (hQ : ∀ (h' : Heap) (tk : Nat) (acc : Array Value), (∀ b o, s.heap.get? b = some o → h'.get? b = some o) → ItemsOf (SignAt x) acc x.cps.size →
      Q (.ref h'.objs.size) { s with heap := h'.push { cls := .type "tuple", data := .seq acc }, toks := tk }) :
    wpAny (model prog w) A (call (.type "tuple") [.str x t]) Q E s := by
  refine callType_codes (Q₁ := fun obj s₁ => s₁.TypeIs obj "tuple" ∧ Q obj s₁) F.called_tuple (F.typeCall_tuple_1 _) F.entry_object_init
    (code_tuple_new_str (A := A.in1) hh x t hn fun h' tk acc hk hacc => ⟨⟨_, Heap.get?_push_size _ rfl, rfl⟩, hQ h' tk acc hk hacc⟩) fun obj s₁ h₁ => ?_
  exact ⟨h₁.1, F.args_object_init_2 obj _, object_init_meets F.called_tuple.init.lookup F.called_tuple.made (by decide) prog w A.in1 _ s₁ ⟨h₁.1, rfl, h₁.2⟩⟩
end
theorem vals_signs {x : Str} {acc : Array Value} (h : ItemsOf (SignAt x) acc x.cps.size) : Vals ((XSt.signs x).map V.str) acc.toList := by
  have lc : ((XSt.signs x).map V.str).length = x.cps.size := by
    rw [List.length_map]
    unfold XSt.signs
    rw [List.length_map]
    rfl
  refine vals_of_idx _ _ (by rw [lc, Array.length_toList, h.1]) fun j u hj => ?_
  have hj' : acc[j]? = some u := by
    rw [← Array.getElem?_toList]
    exact hj
  obtain ⟨c, t, hc, rfl⟩ := h.2 j u hj'
  refine ⟨.str ⟨#[c]⟩, ?_, t, rfl⟩
  rw [List.getElem?_map]
  unfold XSt.signs
  rw [List.getElem?_map]
  have : x.cps.toList[j]? = some c := by
    rw [Array.getElem?_toList]
    exact hc
  rw [this]
  rfl
theorem cr_tupS {X : Cx} (hc : X.calm = true) : CallR X (.type "tuple") (fun xs H Q => ∃ z, xs = [.str z] ∧ z.length ≤ sizeLine ∧ ∀ p, H p = none → Q (.ref p) (upd H p (.tup ((XSt.signs z).map V.str)))) := by
  intro pins s σ H xs us Q I r h
  obtain ⟨z, rfl, hz, q⟩ := h
  obtain ⟨u, rfl, t, rfl⟩ := vals1 r
  refine call_tuple_str (I.ok.hd hc) z t hz fun h' tk acc hk hacc => ?_
  have I1 : Inv X pins σ H { s with heap := h', toks := tk } := I.kept (t' := tk) hk
  have rv := vals_signs hacc
  have len : ((XSt.signs z).map V.str).length ≤ sizeLine := by
    rw [rv.length, Array.length_toList, hacc.1]
    exact hz
  have I2 : Inv X pins σ (upd H h'.objs.size (.tup ((XSt.signs z).map V.str))) { s with heap := h'.push { cls := .type "tuple", data := .seq acc }, toks := tk } :=
    I1.laid (t' := tk) (fun b o e => Heap.get?_push_of_some _ e) (Nat.le_refl _) (show ObjOk X.prog X.w _ _ _ (.tup ((XSt.signs z).map V.str)) from ⟨len, acc.toList, rv, by simpa using IsTup.new _ _⟩)
  exact ⟨.ref h'.objs.size, _, I2, rfl, q _ (I1.hok.fresh (Nat.le_refl _))⟩
/-- a text in a tuple of texts, and not in it -/
def rInTs (K : PySem.W.Frag) (g : Bool → Bool) : R2 := fun x y H Q => ∃ (z : Str) (p : Addr) (ws : List Str), x = .str z ∧ y = .ref p ∧ SqT K H p (ws.map V.str) ∧ PyData.strOk z = true ∧ (∀ k ∈ ws, PyData.strOk k = true) ∧ Q (.bl (g (decide (z ∈ ws)))) H
theorem any_eqv (z : Str) : ∀ ws : List Str, ((ws.map PyData.str).any fun y => PyData.eqv y (.str z)) = decide (z ∈ ws)
  | [] => rfl
  | a :: l => by
    have ih := any_eqv z l
    rw [List.map_cons, List.any_cons, ih]
    have e : PyData.eqv (.str a) (.str z) = decide (z = a) := by
      show (a == z) = _
      rw [Bool.beq_eq_decide_eq]
      exact decide_eq_decide.mpr eq_comm
    rw [e, ← Bool.decide_or]
    exact decide_eq_decide.mpr List.mem_cons.symm
theorem op_notInTs {X : Cx} (hu : X.A.units + 64 < cLine) : OpR X (compareOp .NotIn) (rInTs X.K fun b => !b) := by
  intro pins s σ H x y v u Q I rx ry h
  obtain ⟨z, p, ws, rfl, rfl, sq, oz, ok, q⟩ := h
  have hd : Dp X.K H (.str z) (.str z) := .str z
  have he : Dp X.K H (.ref p) (.tuple (ws.map PyData.str)) := .tup sq (dpa_txt ws)
  obtain ⟨as, r1⟩ := Dp.reads I _ _ v hd rx
  obtain ⟨bs, r2⟩ := Dp.reads I _ _ u he ry
  have sh := txt_shapedT ok
  have shz : SeqAt.shaped (.str z) = true := by
    unfold SeqAt.shaped
    rw [Bool.and_eq_true]
    exact ⟨oz, rfl⟩
  have h0 : (PyData.str z).depth ≤ 1 := Nat.le_of_ble_eq_true rfl
  have h1 := Nat.min_le_right (PyData.depthAll (ws.map PyData.str)) (PyData.str z).depth
  have room : X.A.units + 1 + min (PyData.depthAll (ws.map PyData.str)) (PyData.str z).depth < cLine := by omega
  refine SeqAt.notIn_tuple_reads r2 r1 (SeqAt.canLay_of_shaped sh) (SeqAt.canLay_of_shaped shz) room ?_
  rw [any_eqv]
  exact ⟨.bl _, H, I, rfl, q⟩
end XTs

/-! the drawn full book -/
namespace B17
open PySem PySem.Spec PyProof.Rows L2 XSt NX XB XFl XF XNil XBk XTs
open PySem.W (Frag)
abbrev sFull : Stmt := top 59
/-- where the table is fine so far -/
def Fine (x : Str) (m : Nat) : Prop := ∀ n, n < m → ∀ s ∈ tabR (cs x) n, okS (cs x) 8 s = true
def spFull : Sp := fun vs H Q _ => ∃ (j : Addr) (x : Str) (m : Nat), vs = [.ref j, .str x, .int (m : Int)] ∧ JugAt H j ∧ Abc x ∧ 1 ≤ m ∧ m ≤ 60 ∧ Fine x m ∧
  ∀ r pl pc s n H', H r = none → H' r = some (.lst [.ref pl, .ref pc, .int ((n + 1 : Nat) : Int)]) → H' pl = some (.tup ((wds s.lot).map V.str)) → H' pc = some (.tup ((wds s.core).map V.str)) → n < m → s ∈ tabR (cs x) n → Kj j H H' → Q (.ref r) H'
/-! ### what holds of a state -/
structure StOk (x : Str) (s : Stt) : Prop where
  ok : s.ok = true
  one : ∀ k ∈ s.lot, 1 ≤ k.length ∧ k.length ≤ 8 ∧ ∀ c ∈ k, c ∈ cs x
  nocl : ∀ a ∈ s.lot, ∀ b ∈ s.lot, a ≠ b → ¬ a <+: b ∧ ¬ a <:+ b
  sub : ∀ k ∈ s.core, k ∈ s.lot
  few : s.lot.length < 64
theorem stOk {x : Str} {s : Stt} (h : okS (cs x) 8 s = true) : StOk x s := by
  unfold okS at h
  rw [Bool.and_eq_true, Bool.and_eq_true, Bool.and_eq_true, Bool.and_eq_true] at h
  obtain ⟨h1, h2, h3, h4, h5⟩ := h
  refine ⟨h1, fun k mk => ?_, fun a ma b mb ne => ?_, fun k mk => of_decide_eq_true (List.all_eq_true.mp h4 k mk), by rw [Nat.blt_eq] at h5; exact h5⟩
  · have z := List.all_eq_true.mp h3 k mk
    rw [Bool.and_eq_true, Bool.and_eq_true] at z
    exact ⟨Nat.le_of_ble_eq_true z.1, Nat.le_of_ble_eq_true z.2.1, fun c mc => of_decide_eq_true (List.all_eq_true.mp z.2.2 c mc)⟩
  · have z := List.all_eq_true.mp (List.all_eq_true.mp h2 a ma) b mb
    rw [Bool.or_eq_true, decide_eq_true_eq] at z
    have z := z.resolve_left ne
    rw [Bool.and_eq_true, Bool.not_eq_true', Bool.not_eq_true'] at z
    refine ⟨fun p => ?_, fun p => ?_⟩
    · rw [(isPre_iff _ _).mpr p] at z
      cases z.1
    · rw [(isPre_iff _ _).mpr (List.reverse_prefix.mpr p)] at z
      cases z.2
theorem sub_core {x : Str} {s : Stt} (o : StOk x s) {w : List W} (h : ∀ k ∈ w, k ∈ s.lot) (nd : w.Nodup) : Core (wds w) where
  nd := List.Pairwise.map XBk.strOf (fun a b h e => h (of_inj e)) nd
  ne := fun k mk => by
    have z := (o.one _ (h _ (mem_wds.mp mk))).1
    rw [cs_len] at z
    exact z
  pre := fun a ma b mb ne h2 => (o.nocl _ (h _ (mem_wds.mp ma)) _ (h _ (mem_wds.mp mb)) fun e => ne (cs_inj e)).1 h2
  suf := fun a ma b mb ne h2 => (o.nocl _ (h _ (mem_wds.mp ma)) _ (h _ (mem_wds.mp mb)) fun e => ne (cs_inj e)).2 h2
theorem nd_len : ∀ {m l : List W}, m.Nodup → (∀ x ∈ m, x ∈ l) → m.length ≤ l.length
  | [], _, _, _ => Nat.zero_le _
  | a :: m, l, nd, h => by
    obtain ⟨n1, n2⟩ := List.nodup_cons.mp nd
    have ma := h a List.mem_cons_self
    have ih := nd_len (l := l.erase a) n2 fun x mx => (List.mem_erase_of_ne (fun (z : _ = a) => n1 (by rw [← z]; exact mx))).mpr (h x (List.mem_cons_of_mem _ mx))
    rw [List.length_erase_of_mem ma] at ih
    have := List.length_pos_of_mem ma
    rw [List.length_cons]
    omega
/-- what is drawn is one of the parts that the table knows -/
theorem part_in {s : Stt} {c : List W} (nd : c.Nodup) (h : ∀ k ∈ c, k ∈ outerL s) (ol : (outerL s).Nodup) (few : c.length ≤ 3) : ∃ c' ∈ subs 3 (outerL s), ordW (s.core ++ c') = ordW (s.core ++ c) := by
  refine ⟨(outerL s).filter fun k => decide (k ∈ c), mem_subs List.filter_sublist ?_, ordW_same fun k => ?_⟩
  · refine Nat.le_trans (nd_len (ol.filter _) fun k mk => ?_) few
    exact of_decide_eq_true (List.mem_filter.mp mk).2
  · rw [List.mem_append, List.mem_append, List.mem_filter, decide_eq_true_eq]
    constructor
    · rintro (m | ⟨_, m⟩)
      · exact .inl m
      · exact .inr m
    · rintro (m | m)
      · exact .inl m
      · exact .inr ⟨h k m, m⟩
def unV : V → W
  | .str z => cs z
  | _ => []
theorem un_perm {ys : List V} {l : List W} (p : ys.Perm ((wds l).map V.str)) : ∃ c : List W, ys = (wds c).map V.str ∧ c.Perm l := by
  refine ⟨ys.map unV, ?_, ?_⟩
  · have : ∀ y ∈ ys, y = V.str (XBk.strOf (unV y)) := fun y my => by
      obtain ⟨z, mz, rfl⟩ := List.mem_map.mp (p.mem_iff.mp my)
      show V.str z = V.str (XBk.strOf (cs z))
      rw [of_cs]
    unfold wds
    rw [List.map_map, List.map_map]
    conv => lhs; rw [← List.map_id ys]
    exact List.map_congr_left fun y my => this y my
  · have z := p.map unV
    have e : ((wds l).map V.str).map unV = l := by
      unfold wds
      rw [List.map_map, List.map_map]
      conv => rhs; rw [← List.map_id l]
      exact List.map_congr_left fun y _ => cs_of y
    rw [e] at z
    exact z
theorem cut_upto (xs : List V) (n : Nat) : cutV xs none (some (n : Int)) = xs.take n := by
  unfold cutV
  rw [HT.sIx_none, HT.sIx_nat, List.drop_zero, Nat.sub_zero]
  by_cases h : n ≤ xs.length
  · rw [Nat.min_eq_left h]
  · rw [Nat.min_eq_right (by omega), List.take_length, List.take_of_length_le (by omega)]
section
variable {P : Program} {w : World} {K : Frag} {mg : Str → Option Value} {base : Heap} {f fB fD fG fY fS : Addr} {fd dB dD dG dY dS : FuncData}
theorem scFull : FnScope ["jug", "signs", "most", "deep", "core", "lot", "step_up", "outer", "tries", "wider", "inner", "piece"] ["jug", "signs", "most"] (defScope sFull) := ⟨rfl, rfl, rfl, by decide +kernel, rfl, by decide +kernel, by decide +kernel⟩
theorem ok_full (F : FnP K "_law_full" sFull f fd) (M : Free mg) (mR : mg "range" = none) (FB : FnOk P w K mg base CX0 1 fB dB ["jug", "much"] spBit) (gB : mg "_law_bit" = some (.ref fB)) (kB : PySem.W.keepIn K (.ref fB) = true) (bB : Binds K dB ["jug", "much"] [])
    (FD : FnOk P w K mg base CX0 2 fD dD ["jug", "items"] (spDealt K)) (gD : mg "_law_dealt" = some (.ref fD)) (kD : PySem.W.keepIn K (.ref fD) = true) (bD : Binds K dD ["jug", "items"] [])
    (FG : FnOk P w K mg base CX0 3 fG dG ["signs", "core", "deep", "most"] (spGrown K)) (gG : mg "_law_grown" = some (.ref fG)) (kG : PySem.W.keepIn K (.ref fG) = true) (bG : Binds K dG ["signs", "core", "deep", "most"] [])
    (FY : FnOk P w K mg base CX0 3 fY dY ["signs", "core", "deep", "inner"] (spBookBy K)) (gY : mg "_law_book_by" = some (.ref fY)) (kY : PySem.W.keepIn K (.ref fY) = true) (bY : Binds K dY ["signs", "core", "deep", "inner"] [])
    (FS : FnOk P w K mg base CX0 1 fS dS ["lot"] (spSortedT K)) (gS : mg "_law_sorted" = some (.ref fS)) (kS : PySem.W.keepIn K (.ref fS) = true) (bS : Binds K dS ["lot"] []) : FnOk P w K mg base CX0 4 f fd ["jug", "signs", "most"] spFull := by
  refine F.ok scFull (fun vs H Q E h => ?_) (fun cdv A outer s H vs Q E hr h => ?_)
  · obtain ⟨j, x, m, rfl, _⟩ := h
    rfl
  · obtain ⟨j, x, m, rfl, hj, abc, m1, m6, fine, q⟩ := h
    have hs : sizeLine = 16777216 := sizeLine_eq
    have lx := abc.few
    have sgn : (cs x).Nodup := abc.asc.imp fun h => Nat.ne_of_lt h
    refine ⟨_, PSs.nox (pss_cons (ps_asg (pe_tup (pa_cons (pe_op op_add pe_int (pe_call FB (hr.mono (by decide)) (by rfl) gB kB bB .nil pass0 (pa_cons (pv 0) (pa_cons (pv 2) (pa_nil))))) (pa_cons (pe_tup pa_nil) (pa_cons (pe_callTy (cr_tupS rfl) (by rfl) M.tuple (by decide +kernel) (pa_cons (pv 1) pa_nil)) (pa_nil))))) (pg_tup (by rfl) (pgs_cons (pg_name (i := 3) scFull.nd rfl (.inl rfl)) (pgs_cons (pg_name (i := 4) scFull.nd rfl (.inr rfl)) (pgs_cons (pg_name (i := 5) scFull.nd rfl (.inl rfl)) (pgs_nil))))))
      (pss_cons (ps_for PassesOwn.never rfl (pi_range2 (by rfl) mR (pa_cons pe_int (pa_cons (pe_op op_add (pv 3) pe_int) pa_nil))) (pg_name (i := 6) scFull.nd rfl (.inl rfl)) (pss_cons (ps_setLc (i := 7) (own := [("piece", 11)]) (g := gName 11) (tt := tTest (tOp (rInTs K fun b => !b) (tVar 11) (tVar 4))) (te := tVar 11) rfl scFull.nd rfl rfl (by rfl) (pi_tup (pv 5)) (blkOk_by (N := ["jug", "signs", "most", "deep", "core", "lot", "step_up", "outer", "tries", "wider", "inner", "piece"]) (sc := defScope sFull) (by decide +kernel)) (fun _ _ _ _ _ => pg_name (i := 11) scFull.nd rfl (Or.inl rfl)) (fun _ _ _ _ _ => by exact pts_one (pt_cmpR (op_notInTs hr.units) (pv 11) (pv 4) rfl)) (fun _ _ _ _ _ => by exact pv 11))
        (pss_cons (ps_set (i := 8) scFull.nd rfl (.inl rfl) (pe_lst (pa_cons (pe_call FS (hr.mono (by decide)) (by rfl) gS kS bS .nil pass0 (pa_cons (pe_op op_catX (pv 4) (pe_callTy call_tuple_of (by rfl) M.tuple (by decide +kernel) (pa_cons (pe_slice sl_list (pe_call FD (hr.mono (by decide)) (by rfl) gD kD bD .nil pass0 (pa_cons (pv 0) (pa_cons (pv 7) (pa_nil)))) po_none (po_some (pe_call FB (hr.mono (by decide)) (by rfl) gB kB bB .nil pass0 (pa_cons (pv 0) (pa_cons (pe_int) (pa_nil)))))) pa_nil))) (pa_nil))) (pa_cons (pv 4) (pa_nil)))))
        (pss_one (ps_for PassesOwn.never rfl (pi_list (pv 8)) (pg_name (i := 9) scFull.nd rfl (.inl rfl)) (pss_cons (ps_set (i := 10) scFull.nd rfl (.inl rfl) (pe_call FG (hr.mono (by decide)) (by rfl) gG kG bG .nil pass0 (pa_cons (pv 1) (pa_cons (pv 9) (pa_cons (pv 6) (pa_cons (pe_int) (pa_nil))))))) (pss_one (ps_if (pt_cmpR op_notN (pv 10) pe_non (nomark _)) (pss_cons (ps_asg (pe_tup (pa_cons (pv 9) (pa_cons (pe_call FY (hr.mono (by decide)) (by rfl) gY kY bY .nil pass0 (pa_cons (pv 1) (pa_cons (pv 9) (pa_cons (pv 6) (pa_cons (pv 10) (pa_nil)))))) (pa_nil)))) (pg_tup (by rfl) (pgs_cons (pg_name (i := 4) scFull.nd rfl (.inr rfl)) (pgs_cons (pg_name (i := 5) scFull.nd rfl (.inl rfl)) (pgs_nil))))) (pss_one ps_break)) pss_nil))))))))
      (pss_one (ps_ret (pe_lst (pa_cons (pv 5) (pa_cons (pv 4) (pa_cons (pv 3) (pa_nil))))))))), ?_⟩
    refine ⟨_, rfl, _, rfl, j, (m : Int), rfl, hj, by omega, by omega, fun r H1 r0 rm k1 => ?_⟩
    obtain ⟨n, rfl⟩ : ∃ n : Nat, r = (n : Int) := ⟨r.toNat, by omega⟩
    have nm : n < m := by omega
    refine ⟨_, _, rfl, rfl, by show 0 ≤ sizeLine; decide, fun t0 ht0 => ?_⟩
    have xa := (Ext.refl H1).new ht0 (o := .tup [])
    have ea : (upd H1 t0 (.tup [])) t0 = some (.tup []) := upd_same
    generalize upd H1 t0 (.tup []) = Ba at xa ea ⊢
    refine ⟨_, rfl, x, rfl, by omega, fun t1 ht1 => ?_⟩
    have xb := (Ext.refl Ba).new ht1 (o := .tup ((XSt.signs x).map V.str))
    have eb : (upd Ba t1 (.tup ((XSt.signs x).map V.str))) t1 = some (.tup ((XSt.signs x).map V.str)) := upd_same
    generalize upd Ba t1 (.tup ((XSt.signs x).map V.str)) = Bb at xb eb ⊢
    refine ⟨by show 3 ≤ sizeLine; decide, fun t2 ht2 => ?_⟩
    have xc := (Ext.refl Bb).new ht2 (o := .tup [.int (1 + (n : Int)), .ref t0, .ref t1])
    refine ⟨t2, _, rfl, SqT.of upd_same, rfl, _, _, rfl, _, _, rfl, _, _, rfl, rfl, ?_⟩
    have kc : Kj j H (upd Bb t2 (.tup [.int (1 + (n : Int)), .ref t0, .ref t1])) := ((k1.ext xa).ext xb).ext xc
    have ec := xc _ _ (xb _ _ ea)
    have ed := xc _ _ eb
    generalize upd Bb t2 (.tup [.int (1 + (n : Int)), .ref t0, .ref t1]) = H2 at kc ec ed ⊢
    clear ea eb xa xb xc ht0 ht1 ht2 Ba Bb
    have es0 : (XSt.signs x).map V.str = (wds (x.cps.toList.map fun c => [c])).map V.str := by
      unfold XSt.signs wds
      rw [List.map_map, List.map_map, List.map_map]
      rfl
    rw [es0] at ed
    have ec : H2 t0 = some (.tup ((wds ([] : List W)).map V.str)) := ec
    refine ⟨_, rfl, _, _, rfl, rfl, _, _, rfl, ⟨by decide, by decide, by omega, by omega⟩, ?_⟩
    have en : (1 + (n : Int) + 1 - 2).toNat = n := by omega
    rw [en]
    refine for_range (lo := 2) (n := n) (fun i σ H3 => ∃ pc pl o6 o7 o8 o9 o10 o11 st, σ = [some (.ref j), some (.str x), some (.int (m : Int)), some (.int (1 + (n : Int))), some (.ref pc), some (.ref pl), o6, o7, o8, o9, o10, o11] ∧ Kj j H H3 ∧ H3 pc = some (.tup ((wds st.core).map V.str)) ∧ H3 pl = some (.tup ((wds st.lot).map V.str)) ∧ st ∈ tabR (cs x) i)
      ⟨t0, t1, _, _, _, _, _, _, ⟨[], x.cps.toList.map fun c => [c], true⟩, rfl, kc, ec, ed, List.mem_singleton_self _⟩ ?_ ?_
    · rintro i σ H3 hi ⟨pc, pl, o6, o7, o8, o9, o10, o11, st, rfl, k3, epc, epl, mst⟩
      have so := stOk (fine i (by omega) st mst)
      have okL : ∀ k ∈ wds st.lot, PyData.strOk k = true := fun k mk => strOk_of abc.ok fun c mc => (so.one _ (mem_wds.mp mk)).2.2 c mc
      have okC : ∀ k ∈ wds st.core, PyData.strOk k = true := fun k mk => okL k (mem_wds.mpr (so.sub _ (mem_wds.mp mk)))
      have lenL : ∀ k ∈ wds st.lot, k.length ≤ 8 := fun k mk => by
        have z := (so.one _ (mem_wds.mp mk)).2.1
        rw [cs_len] at z
        exact z
      -- outer
      refine ⟨_, rfl, pl, rfl, ⟨_, SqT.of epl⟩, fun D hD => ?_⟩
      refine lc_fm walk_tup Ext (ext_keeps hD) ((wds st.lot).map V.str) rfl (by rw [List.length_map]; unfold wds; rw [List.length_map]; have := so.few; omega) (fun v => match v with | .str k => !decide (k ∈ wds st.core) | _ => false) id (fun H z => SqT.of (z _ _ epl)) (fun _ _ _ _ _ y => y) ?_ ?_
      · intro a v H4 Nx ex k4 hF hT
        rw [List.getElem?_map] at ex
        cases gk : (wds st.lot)[a]? with
        | none => rw [gk] at ex; cases ex
        | some k =>
          rw [gk] at ex
          obtain rfl : V.str k = v := Option.some.inj ex
          refine ⟨rfl, _, rfl, _, rfl, k, pc, wds st.core, rfl, rfl, SqT.of (k4 _ _ epc), okL k (List.mem_of_getElem? gk), okC, _, rfl, ?_⟩
          cases hl : decide (k ∈ wds st.core) with
          | true => exact iteF (hF (by show (!decide (k ∈ wds st.core)) = false; rw [hl]; rfl) _ (Ext.refl _))
          | false => exact iteT ⟨_, rfl, hT (by show (!decide (k ∈ wds st.core)) = true; rw [hl]; rfl) _ (Ext.refl _)⟩
      intro H4 eO x4
      have eO : H4 D = some (.lst ((wds (outerL st)).map V.str)) := by
        rw [eO, fm_v _ (fun k => !decide (k ∈ wds st.core)) id id (fun _ => rfl) (fun _ => rfl), List.map_id]
        congr 3
        unfold outerL wds
        rw [List.filter_map]
        congr 1
        refine List.filter_congr fun k mk => ?_
        show (!decide (XBk.strOf k ∈ wds st.core)) = !decide (k ∈ st.core)
        have z : (XBk.strOf k ∈ wds st.core) ↔ k ∈ st.core := mem_wds
        rw [decide_eq_decide.mpr z]
      have k4 := k3.ext x4
      have nDj : D ≠ j := jug_none k3.2 hD
      have fewL := so.few
      have lenO : (outerL st).length ≤ st.lot.length := List.length_filter_le _ _
      have nd := tab_nodup sgn i st mst
      -- tries
      refine ⟨_, rfl, _, rfl, _, rfl, j, D, _, rfl, k4.2, .inl (SqL.of eO), nDj, by rw [List.length_map]; unfold wds; rw [List.length_map]; omega, fun q2 ys H5 hq2 eq2 perm k5 => ?_⟩
      obtain ⟨c, rfl, pc2⟩ := un_perm perm
      have nqj : q2 ≠ j := jug_none k4.2 hq2
      refine ⟨_, rfl, j, 4, rfl, k5.2, by decide, by decide, fun b H6 b0 b4 k6 => ?_⟩
      obtain ⟨b, rfl⟩ : ∃ n : Nat, b = (n : Int) := ⟨b.toNat, by omega⟩
      have eq6 := k6.1 _ _ nqj eq2
      refine ⟨_, rfl, q2, _, rfl, SqL.of eq6, fun q3 hq3 => ?_⟩
      rw [cut_upto]
      have x7 := (Ext.refl H6).new hq3 (o := .lst (((wds c).map V.str).take b))
      have e7 : (upd H6 q3 (.lst (((wds c).map V.str).take b))) q3 = some (.lst ((wds (c.take b)).map V.str)) := by
        rw [upd_same]
        unfold wds
        rw [List.map_take, List.map_take]
      generalize upd H6 q3 (.lst (((wds c).map V.str).take b)) = H7 at x7 e7 ⊢
      refine ⟨q3, _, rfl, .inl ⟨SqL.of e7, fun t3 ht3 => ?_⟩⟩
      have x8 := (Ext.refl H7).new ht3 (o := .tup ((wds (c.take b)).map V.str))
      have e8 : (upd H7 t3 (.tup ((wds (c.take b)).map V.str))) t3 = some (.tup ((wds (c.take b)).map V.str)) := upd_same
      generalize upd H7 t3 (.tup ((wds (c.take b)).map V.str)) = H8 at x8 e8 ⊢
      have k56 : Kj j H4 H8 := ((k5.trans k6).ext x7).ext x8
      have tupj : ∀ {Hx Hy : Hp} {a : Addr} {xs : List V}, Kj j Hx Hy → JugAt Hx j → Hx a = some (.tup xs) → Hy a = some (.tup xs) := fun {Hx Hy a xs} k hjx e => k.1 _ _ (not_j hjx e fun _ _ _ z => by cases z) e
      have epc8 := tupj k56 k4.2 (x4 _ _ epc)
      have epl8 := tupj k56 k4.2 (x4 _ _ epl)
      refine ⟨pc, t3, _, _, rfl, rfl, epc8, e8, ?_, fun t4 H9 k9 e9 => ?_⟩
      · unfold wds
        rw [List.length_map, List.length_map, List.length_map, List.length_map]
        have := nd_len nd.1 so.sub
        have := List.length_take_le b c
        have := pc2.length_eq
        omega
      have e9 : H9 t4 = some (.tup ((wds (st.core ++ c.take b)).map V.str)) := by
        rw [e9]
        unfold wds
        rw [List.map_append, List.map_append]
      have lin : ∀ k ∈ c.take b, k ∈ outerL st := fun k mk => pc2.mem_iff.mp (List.mem_of_mem_take mk)
      have lnd : (c.take b).Nodup := (pc2.nodup_iff.mpr (nd.2.filter _)).sublist (List.take_sublist _ _)
      have l3 : (c.take b).length ≤ 3 := by
        have := List.length_take_le b c
        omega
      generalize c.take b = l at e9 lin lnd l3
      have inL : ∀ k ∈ st.core ++ l, k ∈ st.lot := fun k mk => by
        rcases List.mem_append.mp mk with mk | mk
        · exact so.sub k mk
        · exact (List.mem_filter.mp (lin k mk)).1
      have allnd : (st.core ++ l).Nodup := by
        rw [List.nodup_append]
        refine ⟨nd.1, lnd, fun a ma b mb e => ?_⟩
        have z := (List.mem_filter.mp (lin b mb)).2
        rw [← e, decide_eq_true ma] at z
        cases z
      have few2 := nd_len allnd inL
      obtain ⟨c', mc', ec'⟩ := part_in lnd lin (nd.2.filter _) l3
      refine ⟨t4, wds (st.core ++ l), rfl, SqT.of e9, by unfold wds; rw [List.length_map]; omega, fun y my => ?_, fun tw H10 htw k10 e10 => ?_⟩
      · have := lenL y (mem_wds.mpr (inL _ (mem_wds.mp my)))
        omega
      rw [ordT_wds] at e10
      obtain ⟨W0, eW⟩ : ∃ w0, w0 = ordW (st.core ++ l) := ⟨_, rfl⟩
      rw [← eW] at e10
      have inW : ∀ k ∈ W0, k ∈ st.lot := fun k mk => by
        rw [eW] at mk
        exact inL k (mem_ord.mp mk)
      have ndW : W0.Nodup := by
        rw [eW]
        exact ord_nodup _
      rw [← eW] at ec'
      have kA : Kj j H4 H10 := (k56.ext k9).ext k10
      have epcA := tupj kA k4.2 (x4 _ _ epc)
      have eplA := tupj kA k4.2 (x4 _ _ epl)
      have nDA := kA.1 _ _ nDj eO
      have kH := k4.trans kA
      clear e9 allnd few2 lnd lin l3 inL eW e8 e7 epc8 epl8 htw k10 k9 k56 kA hq3 ht3 eq6 eq2 hq2 pc2 perm k5 k6 eO x7 x8
      refine ⟨_, rfl, by show 2 ≤ sizeLine; decide, fun tl htl => ?_⟩
      have xl := (Ext.refl H10).new htl (o := .lst [.ref tw, .ref pc])
      have el : (upd H10 tl (.lst [.ref tw, .ref pc])) tl = some (.lst [.ref tw, .ref pc]) := upd_same
      have kL := kH.ext xl
      have etw := xl _ _ e10
      have epcL := xl _ _ epcA
      have eplL := xl _ _ eplA
      have nlj : tl ≠ j := jug_none kH.2 htl
      generalize upd H10 tl (.lst [.ref tw, .ref pc]) = HL at kL etw epcL eplL el xl ⊢
      have ed2 : (2 + (i : Int)) = ((i + 2 : Nat) : Int) := by omega
      refine ⟨_, rfl, tl, rfl, ⟨_, SqL.of el⟩, ?_⟩
      refine for_list (xs := [.ref tw, .ref pc]) (fun a σ Hx => ∃ o9 o10 o11, σ = [some (.ref j), some (.str x), some (.int (m : Int)), some (.int (1 + (n : Int))), some (.ref pc), some (.ref pl), some (.int (2 + (i : Int))), some (.ref D), some (.ref tl), o9, o10, o11] ∧ Ext HL Hx ∧ (1 ≤ a → tryC (cs x) (i + 2) W0 = none) ∧ (2 ≤ a → tryC (cs x) (i + 2) st.core = none))
        ⟨_, _, _, rfl, Ext.refl _, fun z => absurd z (by decide), fun z => absurd z (by decide)⟩ (fun a σ Hx _ z => by obtain ⟨_, _, _, _, k, _⟩ := z; exact SqL.of (k _ _ el)) ?_ ?_
      · rintro a v σ Hx ev ⟨o9, o10, o11, rfl, kx, n1, n2⟩
        obtain ⟨K0, p0, rfl, e0, inK, ndK, tell0⟩ : ∃ (K0 : List W) (p0 : Addr), v = V.ref p0 ∧ HL p0 = some (.tup ((wds K0).map V.str)) ∧ (∀ k ∈ K0, k ∈ st.lot) ∧ K0.Nodup ∧ ((a = 0 ∧ K0 = W0) ∨ (a = 1 ∧ K0 = st.core)) := by
          match a, ev with
          | 0, ev =>
            obtain rfl := Option.some.inj ev
            exact ⟨W0, tw, rfl, etw, inW, ndW, .inl ⟨rfl, rfl⟩⟩
          | 1, ev =>
            obtain rfl := Option.some.inj ev
            exact ⟨st.core, pc, rfl, epcL, so.sub, nd.1, .inr ⟨rfl, rfl⟩⟩
        have core := sub_core so inK ndK
        have fewK := nd_len ndK inK
        have lenK : ∀ k ∈ wds K0, k.length ≤ 8 := fun k mk => lenL k (mem_wds.mpr (inK _ (mem_wds.mp mk)))
        have wl : (wds K0).length = K0.length := by unfold wds; rw [List.length_map]
        have way := try_eq core (cs x) (i + 2)
        rw [of_cs, tryC_eq] at way
        refine ⟨_, rfl, _, rfl, _, rfl, p0, x, wds K0, _, 90, rfl, abc, SqT.of (kx _ _ e0), by omega, fun k mk => by have := lenK k mk; omega, by omega, by decide, ?_, ?_⟩
        · intro hn Hy ky
          rw [ed2] at hn
          rcases way with ⟨_, tn⟩ | ⟨ls, f, hl, _, _⟩
          · refine ⟨.non, rfl, rfl, _, rfl, iteF ?_⟩
            refine ⟨_, _, _, rfl, kx.trans ky, fun _ => ?_, fun a2 => ?_⟩
            · rcases tell0 with ⟨rfl, rfl⟩ | ⟨rfl, rfl⟩
              · exact tn
              · exact n1 (Nat.le_refl _)
            · rcases tell0 with ⟨rfl, rfl⟩ | ⟨rfl, rfl⟩
              · omega
              · exact tn
          · rw [hn] at hl
            cases hl
        · intro ls r2 Hy hls ky er
          have hls' := hls
          rw [ed2] at hls
          rcases way with ⟨hn, _⟩ | ⟨ls', f, hl, tf, ef⟩
          · rw [hls] at hn
            cases hn
          rw [hls] at hl
          obtain rfl := Option.some.inj hl
          obtain ⟨lnum, low⟩ := growF_low 91 [] [Str.ofString ""] ls hls' (fun w mw => by
            rcases mw with mw | mw
            · cases mw
            · rw [List.mem_singleton.mp mw]
              have e0 : cs (Str.ofString "") = [] := by decide +kernel
              refine ⟨fun c mc => ?_, ?_, by decide +kernel⟩
              · rw [e0] at mc
                cases mc
              · rw [e0]
                show (1 : Int) < _
                omega) (fun w mw => by rw [List.mem_singleton.mp mw]; decide +kernel) (by decide)
          have mem' : (⟨K0, ordW f, st.ok && Nat.blt f.length 64⟩ : Stt) ∈ tabR (cs x) (i + 1) := by
            have z := step_at (sg := cs x) (d := i + 2) mc'
            rcases tell0 with ⟨rfl, rfl⟩ | ⟨rfl, rfl⟩
            · rw [ec', tf] at z
              exact next_in mst z
            · rw [ec', n1 (Nat.le_refl _), tf] at z
              exact next_in mst z
          have small : f.length < 64 := by
            have z := (stOk (fine (i + 1) (by omega) _ mem')).ok
            have z : (st.ok && Nat.blt f.length 64) = true := z
            rw [Bool.and_eq_true, Nat.blt_eq] at z
            exact z.2
          have wf : (wds f).length = f.length := by unfold wds; rw [List.length_map]
          refine ⟨.ref r2, rfl, rfl, _, rfl, iteT ?_⟩
          refine ⟨_, rfl, _, rfl, _, rfl, _, rfl, _, rfl, p0, r2, x, wds K0, ls, i + 2, by show [V.str x, V.ref p0, V.int (2 + (i : Int)), V.ref r2] = _; rw [ed2], abc, SqT.of (ky _ _ (kx _ _ e0)), by omega, fun k mk => by have := lenK k mk; omega, by omega, er, fun l ml => by have := (low l ml).2.2; omega, by omega, by rw [ef, wf]; exact small, fun rb Hz hrb kz eb => ?_⟩
          rw [ef, ordT_wds] at eb
          refine ⟨by show 2 ≤ sizeLine; decide, fun tt htt => ?_⟩
          have kt := (Ext.refl Hz).new htt (o := .tup [.ref p0, .ref rb])
          refine ⟨tt, _, rfl, SqT.of upd_same, rfl, _, _, rfl, _, _, rfl, rfl, ?_⟩
          exact ⟨p0, rb, _, _, _, _, _, _, ⟨K0, ordW f, st.ok && Nat.blt f.length 64⟩, rfl, ((((kL.ext kx).ext ky).ext kz).ext kt), kt _ _ (kz _ _ (ky _ _ (kx _ _ e0))), kt _ _ eb, mem'⟩
      · rintro σ Hx ⟨o9, o10, o11, rfl, kx, n1, n2⟩
        refine ⟨pc, pl, _, _, _, _, _, _, st, rfl, kL.ext kx, kx _ _ epcL, kx _ _ eplL, ?_⟩
        have z := step_at (sg := cs x) (d := i + 2) mc'
        rw [ec', n1 (show 1 ≤ 2 by decide), n2 (show 2 ≤ 2 by decide)] at z
        exact next_in mst z
    · rintro σ H3 ⟨pc, pl, o6, o7, o8, o9, o10, o11, st, rfl, k3, epc, epl, mst⟩
      refine ⟨_, rfl, _, rfl, _, rfl, by show 3 ≤ sizeLine; decide, fun r hr => ?_⟩
      have e1 : (1 + (n : Int)) = ((n + 1 : Nat) : Int) := by omega
      have kf := k3.ext ((Ext.refl H3).new hr (o := .lst [.ref pl, .ref pc, .int (1 + (n : Int))]))
      refine q r pl pc st n _ (k3.none hr) (by rw [upd_same, e1]) ?_ ?_ nm mst kf
      · rw [upd_ne (ne_of_none epl hr)]
        exact epl
      · rw [upd_ne (ne_of_none epc hr)]
        exact epc
end
end B17

/-! the tables, looked at: up to three steps -/
namespace XBk
theorem ab_0 : (tabR [97, 98] 0).all (okS [97, 98] 8) = true := by decide +kernel
theorem ab_1 : (tabR [97, 98] 1).all (okS [97, 98] 8) = true := by decide +kernel
theorem ab_2 : (tabR [97, 98] 2).all (okS [97, 98] 8) = true := by decide +kernel
theorem xy_0 : (tabR [120, 121] 0).all (okS [120, 121] 8) = true := by decide +kernel
theorem xy_1 : (tabR [120, 121] 1).all (okS [120, 121] 8) = true := by decide +kernel
theorem xy_2 : (tabR [120, 121] 2).all (okS [120, 121] 8) = true := by decide +kernel
theorem a_0 : (tabR [97] 0).all (okS [97] 8) = true := by decide +kernel
theorem a_1 : (tabR [97] 1).all (okS [97] 8) = true := by decide +kernel
theorem a_2 : (tabR [97] 2).all (okS [97] 8) = true := by decide +kernel
theorem abc_0 : (tabR [97, 98, 99] 0).all (okS [97, 98, 99] 8) = true := by decide +kernel
theorem abc_1 : (tabR [97, 98, 99] 1).all (okS [97, 98, 99] 8) = true := by decide +kernel
theorem abc_n : (tabR [97, 98, 99] 1).length = 1 := by decide +kernel
theorem abc_20 : chkAt [97, 98, 99] 8 1 0 = true := by decide +kernel
theorem abc_2 : ∀ s ∈ tabR [97, 98, 99] 2, okS [97, 98, 99] 8 s = true := chk_all abc_n fun i hi => by
  obtain rfl : i = 0 := by omega
  exact abc_20
end XBk

/-! some drawn book -/
namespace B17
open PySem PySem.Spec PyProof.Rows L2 XSt NX XB XFl XF XNil XBk XTs
open PySem.W (Frag)
abbrev sSomeBook : Stmt := top 60
theorem fine_of {x : Str} {sg : W} (e : cs x = sg) (h0 : ∀ s ∈ tabR sg 0, okS sg 8 s = true) (h1 : ∀ s ∈ tabR sg 1, okS sg 8 s = true) (h2 : ∀ s ∈ tabR sg 2, okS sg 8 s = true) : Fine x 3 := by
  intro n hn s ms
  rw [e] at ms ⊢
  match n, hn, ms with
  | 0, _, ms => exact h0 s ms
  | 1, _, ms => exact h1 s ms
  | 2, _, ms => exact h2 s ms
theorem all_of {l : List Stt} {p : Stt → Bool} (h : l.all p = true) : ∀ s ∈ l, p s = true := fun s m => List.all_eq_true.mp h s m
theorem fine3 : ∀ x ∈ fourS, Fine x 3 := by
  intro x mx
  have c1 : cs (Str.ofString "ab") = [97, 98] := by decide +kernel
  have c2 : cs (Str.ofString "xy") = [120, 121] := by decide +kernel
  have c3 : cs (Str.ofString "a") = [97] := by decide +kernel
  have c4 : cs (Str.ofString "abc") = [97, 98, 99] := by decide +kernel
  unfold fourS at mx
  simp only [List.mem_cons, List.not_mem_nil, or_false] at mx
  rcases mx with rfl | rfl | rfl | rfl | rfl | rfl
  · exact fine_of c1 (all_of ab_0) (all_of ab_1) (all_of ab_2)
  · exact fine_of c1 (all_of ab_0) (all_of ab_1) (all_of ab_2)
  · exact fine_of c1 (all_of ab_0) (all_of ab_1) (all_of ab_2)
  · exact fine_of c2 (all_of xy_0) (all_of xy_1) (all_of xy_2)
  · exact fine_of c3 (all_of a_0) (all_of a_1) (all_of a_2)
  · exact fine_of c4 (all_of abc_0) (all_of abc_1) abc_2
/-- a full book of the table is a plain one -/
theorem tab_lot {x : Str} {n : Nat} {s : Stt} (abc : Abc x) (ms : s ∈ tabR (cs x) n) (h : okS (cs x) 8 s = true) : LotOk x 8 (wds s.lot) where
  one := fun k mk => by
    have z := (stOk h).one _ (mem_wds.mp mk)
    rw [cs_len] at z
    exact z
  pre := fun a ma b mb ne h2 => ((stOk h).nocl _ (mem_wds.mp ma) _ (mem_wds.mp mb) fun e => ne (cs_inj e)).1 h2
  suf := fun a ma b mb ne h2 => ((stOk h).nocl _ (mem_wds.mp ma) _ (mem_wds.mp mb) fun e => ne (cs_inj e)).2 h2
  ord := ordT_sorted (tab_sorted abc.asc n s ms)
def spSomeBook : Sp := fun vs H Q _ => ∃ (j : Addr) (x : Str), vs = [.ref j, .str x] ∧ JugAt H j ∧ Abc x ∧ Fine x 3 ∧
  ∀ p ws H', Kj j H H' → H' p = some (.tup (ws.map V.str)) → LotOk x 8 ws → ws.length < 64 → Q (.ref p) H'
theorem lot_part {x : Str} {n : Nat} {ws ls : List Str} (h : LotOk x n ws) (sub : ∀ k ∈ ls, k ∈ ws) : LotOk x n (ordT ls) where
  one := fun k mk => h.one k (sub k (ordT_mem.mp mk))
  pre := fun a ma b mb => h.pre a (sub a (ordT_mem.mp ma)) b (sub b (ordT_mem.mp mb))
  suf := fun a ma b mb => h.suf a (sub a (ordT_mem.mp ma)) b (sub b (ordT_mem.mp mb))
  ord := ordT_twice ls
theorem lot_more {x : Str} {n m : Nat} {ws : List Str} (h : LotOk x n ws) (le : n ≤ m) : LotOk x m ws where
  one := fun k mk => ⟨(h.one k mk).1, Nat.le_trans (h.one k mk).2.1 le, (h.one k mk).2.2⟩
  pre := h.pre
  suf := h.suf
  ord := h.ord
theorem str_perm {ys : List V} {ws : List Str} (p : ys.Perm (ws.map V.str)) : ∃ c : List Str, ys = c.map V.str ∧ c.Perm ws := by
  have e0 : ws = wds (ws.map cs) := by
    unfold wds
    rw [List.map_map]
    conv => lhs; rw [← List.map_id ws]
    exact List.map_congr_left fun y _ => (of_cs y).symm
  rw [e0] at p
  obtain ⟨c, e, q⟩ := un_perm p
  refine ⟨wds c, e, ?_⟩
  have z := q.map XBk.strOf
  have e1 : (ws.map cs).map XBk.strOf = ws := e0.symm
  rw [e1] at z
  exact z
section
variable {P : Program} {w : World} {K : Frag} {mg : Str → Option Value} {base : Heap} {f fB fD fL fU fS : Addr} {fd dB dD dL dU dS : FuncData}
theorem scSomeBook : FnScope ["jug", "signs", "lot"] ["jug", "signs"] (defScope sSomeBook) := ⟨rfl, rfl, rfl, by decide +kernel, rfl, by decide +kernel, by decide +kernel⟩
theorem ok_some_book (F : FnP K "_law_some_book" sSomeBook f fd) (M : Free mg) (FB : FnOk P w K mg base CX0 1 fB dB ["jug", "much"] spBit) (gB : mg "_law_bit" = some (.ref fB)) (kB : PySem.W.keepIn K (.ref fB) = true) (bB : Binds K dB ["jug", "much"] [])
    (FL : FnOk P w K mg base CX0 4 fL dL ["jug", "signs", "much", "most"] spLot) (gL : mg "_law_lot" = some (.ref fL)) (kL : PySem.W.keepIn K (.ref fL) = true) (bL : Binds K dL ["jug", "signs", "much", "most"] [])
    (FU : FnOk P w K mg base CX0 4 fU dU ["jug", "signs", "most"] spFull) (gU : mg "_law_full" = some (.ref fU)) (kU : PySem.W.keepIn K (.ref fU) = true) (bU : Binds K dU ["jug", "signs", "most"] [])
    (FD : FnOk P w K mg base CX0 2 fD dD ["jug", "items"] (spDealt K)) (gD : mg "_law_dealt" = some (.ref fD)) (kD : PySem.W.keepIn K (.ref fD) = true) (bD : Binds K dD ["jug", "items"] [])
    (FS : FnOk P w K mg base CX0 1 fS dS ["lot"] (spSorted K)) (gS : mg "_law_sorted" = some (.ref fS)) (kS : PySem.W.keepIn K (.ref fS) = true) (bS : Binds K dS ["lot"] []) : FnOk P w K mg base CX0 5 f fd ["jug", "signs"] spSomeBook := by
  refine F.ok scSomeBook (fun vs H Q E h => ?_) (fun cdv A outer s H vs Q E hr h => ?_)
  · obtain ⟨j, x, rfl, _⟩ := h
    rfl
  · obtain ⟨j, x, rfl, hj, abc, fine, q⟩ := h
    have hs : sizeLine = 16777216 := sizeLine_eq
    refine ⟨_, PSs.nox (pss_cons (ps_if (pt_cmpR op_eq (pe_call FB (hr.mono (by decide)) (by rfl) gB kB bB .nil pass0 (pa_cons (pv 0) (pa_cons pe_int pa_nil))) pe_int (nomark _))
        (pss_one (ps_ret (pe_call FL (hr.mono (by decide)) (by rfl) gL kL bL .nil pass0 (pa_cons (pv 0) (pa_cons (pv 1) (pa_cons (pe_op op_add pe_int (pe_call FB (hr.mono (by decide)) (by rfl) gB kB bB .nil pass0 (pa_cons (pv 0) (pa_cons pe_int pa_nil)))) (pa_cons pe_int pa_nil))))))) pss_nil)
      (pss_cons (ps_set (i := 2) scSomeBook.nd rfl (.inl rfl) (pe_ix ix_list (pe_call FU (hr.mono (by decide)) (by rfl) gU kU bU .nil pass0 (pa_cons (pv 0) (pa_cons (pv 1) (pa_cons pe_int pa_nil)))) pe_int (fun _ _ => rfl)))
      (pss_cons (ps_if (pt_cmpR op_eq (pe_call FB (hr.mono (by decide)) (by rfl) gB kB bB .nil pass0 (pa_cons (pv 0) (pa_cons pe_int pa_nil))) pe_int (nomark _)) (pss_one (ps_ret (pv 2))) pss_nil)
      (pss_one (ps_ret (pe_call FS (hr.mono (by decide)) (by rfl) gS kS bS .nil pass0 (pa_cons (pe_slice sl_list (pe_call FD (hr.mono (by decide)) (by rfl) gD kD bD .nil pass0 (pa_cons (pv 0) (pa_cons (pv 2) pa_nil))) po_none (po_some (pe_call FB (hr.mono (by decide)) (by rfl) gB kB bB .nil pass0 (pa_cons (pv 0) (pa_cons (pe_op op_add (pe_callB call_len_seq (by rfl) M.len PySem.boot_len (pa_cons (pv 2) pa_nil)) pe_int) pa_nil))))) pa_nil))))))), ?_⟩
    refine ⟨_, rfl, j, 2, rfl, hj, by decide, by decide, fun r H1 r0 r2 k1 => ?_⟩
    refine ⟨rfl, _, rfl, ?_⟩
    by_cases c1 : r = 0
    · rw [c1]
      refine iteT ⟨_, rfl, _, rfl, _, rfl, j, 6, rfl, k1.2, by decide, by decide, fun r' H2 r0' r6 k2 => ?_⟩
      obtain ⟨n, rfl⟩ : ∃ n : Nat, r' = (n : Int) := ⟨r'.toNat, by omega⟩
      refine ⟨_, _, rfl, rfl, j, x, n + 1, 4, by show [V.ref j, V.str x, V.int (1 + (n : Int)), V.int 4] = [V.ref j, V.str x, V.int ((n + 1 : Nat) : Int), V.int 4]; rw [show (1 + (n : Int)) = ((n + 1 : Nat) : Int) by omega], k2.2, abc, by omega, by decide, by decide, fun p ws H3 hp k3 ep lo lw => ?_⟩
      exact q p ws H3 ((k1.trans k2).trans k3) ep (lot_more lo (by decide)) (by omega)
    have nd0 : decide (V.int r = V.int 0) = false := decide_eq_false fun z => c1 (V.int.inj z)
    rw [nd0]
    refine iteF ⟨_, rfl, _, rfl, j, x, 3, rfl, k1.2, abc, by decide, by decide, fine, fun rr pl pc st n H2 hrr er epl epc hn mst k2 => ?_⟩
    refine ⟨_, _, _, _, rfl, rfl, SqL.of er, atI_nat (j := 0) rfl, ?_⟩
    have so := stOk (fine n hn st mst)
    have lo := tab_lot abc mst (fine n hn st mst)
    have lw : (wds st.lot).length < 64 := by
      unfold wds
      rw [List.length_map]
      exact so.few
    have npl : H1 pl = none → True := fun _ => trivial
    refine ⟨_, rfl, j, 2, rfl, k2.2, by decide, by decide, fun r3 H3 r30 r32 k3 => ?_⟩
    have k123 := (k1.trans k2).trans k3
    have epl3 : H3 pl = some (.tup ((wds st.lot).map V.str)) := k3.1 _ _ (not_j k2.2 epl fun _ _ _ z => by cases z) epl
    refine ⟨rfl, _, rfl, ?_⟩
    generalize wds st.lot = ws at lo lw epl epl3
    by_cases c3 : r3 = 0
    · rw [c3]
      exact iteT ⟨_, rfl, q pl ws H3 k123 epl3 lo lw⟩
    have nd3 : decide (V.int r3 = V.int 0) = false := decide_eq_false fun z => c3 (V.int.inj z)
    rw [nd3]
    refine iteF ⟨_, rfl, _, rfl, j, pl, _, rfl, k3.2, .inr (SqT.of epl3), not_j k3.2 epl3 (fun _ _ _ z => by cases z), by rw [List.length_map]; omega, fun q2 ys H4 hq2 eq2 perm k4 => ?_⟩
    obtain ⟨c, rfl, pm⟩ := str_perm perm
    refine ⟨_, rfl, _, rfl, pl, _, rfl, .inr (SqT.of (k4.1 _ _ (not_j k3.2 epl3 fun _ _ _ z => by cases z) epl3)), _, _, rfl, rfl, j, _, rfl, k4.2, by rw [List.length_map]; omega, by rw [List.length_map]; have : ws.length < 64 := lw; exact Int.lt_of_lt_of_le (show ((ws.length : Int) + 1) < 100 by omega) (by decide), fun b H5 b0 b4 k5 => ?_⟩
    obtain ⟨b, rfl⟩ : ∃ n : Nat, b = (n : Int) := ⟨b.toNat, by omega⟩
    have nqj : q2 ≠ j := jug_none k3.2 hq2
    have eq5 := k5.1 _ _ nqj eq2
    refine ⟨_, rfl, q2, _, rfl, SqL.of eq5, fun q3 hq3 => ?_⟩
    rw [cut_upto]
    have x6 := (Ext.refl H5).new hq3 (o := .lst ((c.map V.str).take b))
    have e6 : (upd H5 q3 (.lst ((c.map V.str).take b))) q3 = some (.lst ((c.take b).map V.str)) := by
      rw [upd_same, List.map_take]
    generalize upd H5 q3 (.lst ((c.map V.str).take b)) = H6 at x6 e6 ⊢
    have inw : ∀ k ∈ c.take b, k ∈ ws := fun k mk => pm.mem_iff.mp (List.mem_of_mem_take mk)
    have fewc : (c.take b).length < 64 := by
      have := List.length_take_le' b c
      have := pm.length_eq
      omega
    refine ⟨q3, _, rfl, SqL.of e6, fewc, fun y my => by have := (lo.one y (inw y my)).2.1; omega, fun p H7 hp k7 ep => ?_⟩
    have kf := (((k123.trans k4).trans k5).ext x6).ext k7
    have := ordT_len (c.take b)
    exact q p _ H7 kf ep (lot_part lo inw) (by omega)
end
end B17

/-! a text taken so often, as its signs -/
namespace XMt
open PySem PySem.Spec PyProof.Rows L2 XSt NX
theorem fold_app (a : Array Nat) : ∀ (m : Nat) (acc : Array Nat), ((List.replicate m a).foldl (· ++ ·) acc).toList = acc.toList ++ (List.replicate m a.toList).flatten
  | 0, acc => by simp
  | m + 1, acc => by
    rw [List.replicate_succ, List.foldl_cons, fold_app a m, List.replicate_succ, List.flatten_cons, Array.toList_append, List.append_assoc]
theorem mul_flat (s : Str) (n : Nat) (h : 0 < s.length) (hn : 1 < n) : cs (Txt.mul s (n : Int)) = (List.replicate n (cs s)).flatten := by
  have e : Txt.mul s (n : Int) = ⟨(List.replicate n s.cps).foldl (· ++ ·) #[]⟩ := by
    unfold Txt.mul
    have h2 : 0 < s.cps.size := h
    rw [if_neg (by omega), if_neg (by rw [Bool.or_eq_true, beq_iff_eq, beq_iff_eq]; omega)]
    rfl
  rw [e]
  show ((List.replicate n s.cps).foldl (· ++ ·) #[]).toList = _
  rw [fold_app]
  rfl
theorem mul_in {s : Str} {n : Nat} (h : 0 < s.length) (hn : 1 < n) : ∀ c ∈ cs (Txt.mul s (n : Int)), c ∈ cs s := fun c m => by
  rw [mul_flat s n h hn] at m
  obtain ⟨l, ml, mc⟩ := List.mem_flatten.mp m
  rw [List.eq_of_mem_replicate ml] at mc
  exact mc
theorem mul_size {s : Str} {n : Nat} (h : 0 < s.length) (hn : 1 < n) : (cs (Txt.mul s (n : Int))).length = n * (cs s).length := by
  rw [mul_flat s n h hn, List.length_flatten, List.map_replicate, List.sum_replicate_nat]
end XMt

/-! rows of words -/
namespace B17
open PySem PySem.Spec PyProof.Rows L2 XSt NX XB XE XFd XFl XF
open PySem.W (Frag)
def spRowOf (K : Frag) (C : Addr) : Sp := fun vs H Q _ => ∃ (b : Addr) (ws : List Str) (y : Str) (R : List Str) (e : List Nat), vs = [.ref b, .str y] ∧ BT K C H b ws y ∧ Cut ws (cs y) R e ∧
  (e = [] → ∀ p H', Ext H H' → H' p = some (.tup (R.map V.str)) → Q (.ref p) H') ∧ (e ≠ [] → ∀ H', Ext H H' → Q .non H')
def spIsRow (K : Frag) (C : Addr) : Sp := fun vs H Q _ => ∃ (b : Addr) (ws : List Str) (y : Str) (R : List Str) (e : List Nat), vs = [.ref b, .str y] ∧ BT K C H b ws y ∧ Cut ws (cs y) R e ∧ ∀ H', Ext H H' → Q (.bl (decide (e = []))) H'
theorem nil_iff (e : Str) : decide (V.str e = V.str (Str.ofString "")) = decide (cs e = []) := by
  refine decide_eq_decide.mpr ⟨fun h => ?_, fun h => ?_⟩
  · rw [V.str.inj h]
    decide +kernel
  · congr 1
    apply cs_inj
    rw [h]
    decide +kernel
section
variable {P : Program} {w : World} {K : Frag} {mg : Str → Option Value} {base : Heap} {f C : Addr} {fd : FuncData}
end
end B17

/-! the law's own helpers: a drawn text, pieces at its front and its end -/
namespace B17
open PySem PySem.Spec PyProof.Rows L2 XSt NX XB XE XFd XFl XF XNil
open PySem.W (Frag)
def spTextIn (K : Frag) : Sp := fun vs H Q _ => ∃ (j p : Addr) (x : Str) (ws : List Str) (n m : Nat), vs = [.ref j, .str x, .ref p, .int (m : Int)] ∧ JugAt H j ∧ 1 ≤ x.length ∧ x.length ≤ 1000 ∧ PyData.strOk x = true ∧ H p = some (.tup (ws.map V.str)) ∧
  ws.length ≤ 400 ∧ (∀ k ∈ ws, 1 ≤ k.length ∧ k.length ≤ n ∧ ∀ c ∈ cs k, c ∈ cs x) ∧ n ≤ 400 ∧ m ≤ 400 ∧ ∀ y H', Kj j H H' → (∀ c ∈ cs y, c ∈ cs x) → y.length ≤ m → Q (.str y) H'
/-- the first word that begins the text -/
def headF (ws : List Str) (l : List Nat) : Option Str := ws.find? fun w => decide (cs w <+: l)
def optV : Option Str → V
  | some w => .str w
  | none => .non
def spPieceAt (K : Frag) : Sp := fun vs H Q _ => ∃ (p : Addr) (ws : List Str) (y : Str), vs = [.ref p, .str y] ∧ H p = some (.tup (ws.map V.str)) ∧ ws.length ≤ 1000 ∧ (∀ k ∈ ws, k.length ≤ 400) ∧ y.length ≤ 4000 ∧ ∀ H', Ext H H' → Q (optV (headF ws (cs y))) H'
def spFlip (K : Frag) : Sp := fun vs H Q _ => ∃ (p : Addr) (ws : List Str), vs = [.ref p] ∧ H p = some (.tup (ws.map V.str)) ∧ ws.length < 64 ∧ (∀ k ∈ ws, k.length ≤ 400) ∧ ∀ q H', Ext H H' → H' q = some (.tup ((ordT (ws.map revS)).map V.str)) → Q (.ref q) H'
def spPeeled (K : Frag) : Sp := fun vs H Q _ => ∃ (p : Addr) (ws : List Str) (y : Str), vs = [.ref p, .str y] ∧ H p = some (.tup (ws.map V.str)) ∧ ws.length ≤ 1000 ∧ (∀ k ∈ ws, 1 ≤ k.length ∧ k.length ≤ 400) ∧ y.length ≤ 4000 ∧
  ∀ l r R e H', Ext H H' → Cut ws (cs y) R (cs e) → H' l = some (.lst [.ref r, .str e]) → H' r = some (.tup (R.map V.str)) → Q (.ref l) H'
def spIsShut (K : Frag) : Sp := fun vs H Q _ => ∃ (p : Addr) (ws : List Str) (y : Str), vs = [.ref p, .str y] ∧ H p = some (.tup (ws.map V.str)) ∧ ws.length ≤ 1000 ∧ (∀ k ∈ ws, k.length ≤ 400) ∧ y.length ≤ 4000 ∧
  ∀ H', Ext H H' → Q (.bl (ws.any fun k => decide (cs k <:+ cs y))) H'
section
variable {P : Program} {w : World} {K : Frag} {mg : Str → Option Value} {base : Heap} {f fB fP fL fS : Addr} {fd dB dP dL dS : FuncData}
theorem eqv_nilT (l : List Str) : PyData.eqv (.tuple (l.map PyData.str)) (.tuple []) = l.isEmpty := by
  cases l <;> rfl
theorem eqv_nilL (l : List Str) : PyData.eqv (.list (l.map PyData.str)) (.list []) = l.isEmpty := by
  cases l <;> rfl
theorem sum_most {m : Nat} : ∀ l : List Str, (∀ y ∈ l, y.length ≤ m) → (l.map (·.length)).sum ≤ l.length * m
  | [], _ => by simp
  | y :: l, h => by
    have ih := sum_most l fun z mz => h z (List.mem_cons_of_mem _ mz)
    have h0 := h y (List.mem_cons_self ..)
    rw [List.map_cons, List.sum_cons, List.length_cons, Nat.succ_mul]
    omega
theorem join_mem {l : List Str} {c : Nat} (m : c ∈ cs (Txt.join (Str.ofString "") l)) : ∃ y ∈ l, c ∈ cs y := by
  have y : (Txt.join (Str.ofString "") l).cps.toList = (l.map fun x => x.cps.toList).flatten := joined_list l
  have m2 : c ∈ (Txt.join (Str.ofString "") l).cps.toList := m
  rw [y] at m2
  obtain ⟨t, mt, mc⟩ := List.mem_flatten.mp m2
  obtain ⟨y, my, rfl⟩ := List.mem_map.mp mt
  exact ⟨y, my, mc⟩
theorem join_len (l : List Str) : (Txt.join (Str.ofString "") l).length = (l.map (·.length)).sum := by
  have y : (Txt.join (Str.ofString "") l).cps.toList = (l.map fun x => x.cps.toList).flatten := joined_list l
  have len : (Txt.join (Str.ofString "") l).cps.toList.length = (Txt.join (Str.ofString "") l).length := by rw [Array.length_toList]; rfl
  have sum : ∀ l : List Str, (l.map fun x => x.cps.toList).flatten.length = (l.map (·.length)).sum := by
    intro l
    induction l with
    | nil => rfl
    | cons a l ih =>
      rw [List.map_cons, List.flatten_cons, List.length_append, ih, List.map_cons, List.sum_cons, Array.length_toList]
      rfl
  rw [← len, y, sum]
theorem head_test (y w : Str) : decide (V.str (cutS y none (some (w.length : Int))) = V.str w) = decide (cs w <+: cs y) := by
  refine decide_eq_decide.mpr ⟨fun e => ?_, fun h => ?_⟩
  · have e2 := congrArg cs (V.str.inj e)
    rw [XFd.cut_to] at e2
    rw [← e2]
    exact List.take_prefix _ _
  · have e2 := List.prefix_iff_eq_take.mp h
    refine congrArg V.str (cs_inj ?_)
    rw [XFd.cut_to, ← cs_len w]
    exact e2.symm
def headB (y : Str) : V → Bool
  | .str w => decide (cs w <+: cs y)
  | _ => false
theorem map_filter (p : Str → Bool) (g : V → Bool) (h : ∀ w, g (.str w) = p w) : ∀ ws : List Str, ((ws.map V.str).filter g).map id = (ws.filter p).map V.str
  | [] => rfl
  | w :: ws => by
    have ih := map_filter p g h ws
    rw [List.map_id] at ih ⊢
    rw [List.map_cons, List.filter_cons, List.filter_cons, h]
    split
    · rw [List.map_cons, ih]
    · exact ih
theorem head_some {ws : List Str} {l : List Nat} {w : Str} (h : headF ws l = some w) : w ∈ ws ∧ cs w <+: l := ⟨List.mem_of_find?_eq_some h, of_decide_eq_true (List.find?_some (p := fun w => decide (cs w <+: l)) h)⟩
theorem head_none {ws : List Str} {l : List Nat} (h : headF ws l = none) : ∀ w ∈ ws, ¬ cs w <+: l := fun w mw p => by
  have z := List.find?_eq_none.mp h w mw
  exact z (decide_eq_true p)
theorem shut_test (y w : Str) (l : w.length ≤ y.length) : decide (V.str (cutS y (some ((y.length : Int) - (w.length : Int))) none) = V.str w) = decide (cs w <:+ cs y) := by
  have e : (y.length : Int) - (w.length : Int) = ((y.length - w.length : Nat) : Int) := by omega
  rw [e]
  refine decide_eq_decide.mpr ⟨fun e => ?_, fun h => ?_⟩
  · have e2 := congrArg cs (V.str.inj e)
    rw [XFd.cut_from] at e2
    rw [← e2]
    exact List.drop_suffix _ _
  · have e2 := List.suffix_iff_eq_drop.mp h
    rw [cs_len, cs_len] at e2
    refine congrArg V.str (cs_inj ?_)
    rw [XFd.cut_from]
    exact e2.symm
def shutB (y : Str) : V → Bool
  | .str w => decide (cs w <:+ cs y)
  | _ => false
theorem any_filter (p : Str → Bool) : ∀ ws : List Str, (!((ws.filter p).map V.str).isEmpty) = ws.any p
  | [] => rfl
  | w :: ws => by
    have ih := any_filter p ws
    rw [List.filter_cons, List.any_cons]
    cases h : p w
    · rw [if_neg (by decide), ih]; rfl
    · rw [if_pos rfl]; rfl
end
end B17

/-! drawn books turned round; texts that they may be asked about; pairs as data -/
namespace B17
open PySem PySem.Spec PyProof.Rows L2 XSt NX XB XE XFd XFl XF XNil
open PySem.W (Frag)
section
variable {K : Frag} {C : Addr}
theorem init_facts {H : Hp} {p : Addr} {x : Str} {ys : List Str} (abc : Abc x) (ep : H p = some (.tup (ys.map V.str))) (fine : ∀ k ∈ ys, 1 ≤ k.length ∧ k.length ≤ 400 ∧ ∀ c ∈ cs k, c ∈ cs x) (few : ys.length ≤ 400) {b dx : Addr} (hb : H b = none) (hdx : H dx = none) :
    SqT K (upd (upd H dx (.own b)) b (.ins C dx [])) p (ys.map V.str) ∧ p ≠ b ∧ (∀ y ∈ ys, GoodW x y) ∧ ys.length < 4096 ∧ (ordT ys).length ≤ 400 ∧ ∀ H', (∀ c o, c ≠ b → (upd (upd H dx (.own b)) b (.ins C dx [])) c = some o → H' c = some o) → Ext H H' := by
  have ntb : p ≠ b := ne_of_none ep hb
  have ntd : p ≠ dx := ne_of_none ep hdx
  refine ⟨SqT.of (by rw [upd_ne ntb, upd_ne ntd]; exact ep), ntb, fun y my => goodW_of abc (fine y my).2.2 (fine y my).1 (fine y my).2.1, by omega, by have := ordT_len ys; omega, fun H' off c o e => ?_⟩
  have n1 : c ≠ b := ne_of_none e hb
  have n2 : c ≠ dx := ne_of_none e hdx
  exact off c o n1 (by rw [upd_ne n1, upd_ne n2]; exact e)
theorem tup_jug {H : Hp} {p j : Addr} {xs : List V} (h : H p = some (.tup xs)) (hj : JugAt H j) : p ≠ j := fun z => by
  obtain ⟨a, b, c, e, _⟩ := hj
  rw [z, e] at h
  cases h
theorem jug_ext {H H' : Hp} {j : Addr} (h : JugAt H j) (k : Ext H H') : JugAt H' j := by
  obtain ⟨a, b, c, e, z⟩ := h
  exact ⟨a, b, c, k _ _ e, z⟩
theorem BookAt.kj {H H' : Hp} {j b C : Addr} {x : Str} {ws : List Str} (h : BookAt H b C x ws) (hj : JugAt H j) (k : Kj j H H') : BookAt H' b C x ws := by
  obtain ⟨dx, p, d, h1, h2, h3⟩ := h
  have nb : ∀ {a : Addr} {o : HO}, H a = some o → (∀ l, o ≠ .lst l) → a ≠ j := fun e no z => by
    obtain ⟨c1, c2, c3, e2, _⟩ := hj
    rw [z, e2] at e
    exact no _ (Option.some.inj e).symm
  exact ⟨dx, p, d, k.1 _ _ (nb h1 (fun _ z => nomatch z)) h1, k.1 _ _ (nb h2 (fun _ z => nomatch z)) h2, k.1 _ _ (nb h3 (fun _ z => nomatch z)) h3⟩
end
theorem pre_rev {l : List Str} (h : NoPre l) : NoSuf (l.map revS) := by
  intro x hx y hy n z
  obtain ⟨a, ha, rfl⟩ := List.mem_map.mp hx
  obtain ⟨b, hb, rfl⟩ := List.mem_map.mp hy
  rw [cs_rev, cs_rev, List.reverse_suffix] at z
  exact h a ha b hb (fun e => n (by rw [e])) z
theorem flip_mem {ws : List Str} (z : Str) : z ∈ ordT (ws.map revS) ↔ ∃ w ∈ ws, z = revS w := by
  rw [ordT_mem, List.mem_map]
  exact ⟨fun ⟨a, m, e⟩ => ⟨a, m, e.symm⟩, fun ⟨a, m, e⟩ => ⟨a, m, e.symm⟩⟩
theorem lot_free {x : Str} {n : Nat} {ws : List Str} (h : LotOk x n ws) : Free2 ws := ⟨fun w m => (h.one w m).1, h.pre, h.suf, by rw [← h.ord]; exact ordT_nodup ws⟩
theorem lot_flip {x : Str} {n : Nat} {ws : List Str} (h : LotOk x n ws) : LotOk x n (ordT (ws.map revS)) where
  one := fun k mk => by
    obtain ⟨w, mw, rfl⟩ := (flip_mem k).mp mk
    have z := h.one w mw
    refine ⟨by rw [rev_len]; exact z.1, by rw [rev_len]; exact z.2.1, fun c mc => z.2.2 c ?_⟩
    rw [cs_revS] at mc
    exact List.mem_reverse.mp mc
  pre := NoPre.perm (NoSuf.rev h.suf) fun _ => ordT_mem
  suf := NoSuf.perm (pre_rev h.pre) fun _ => ordT_mem
  ord := ordT_twice _
theorem flip_len {ws : List Str} {n : Nat} (h : ws.length < n) : (ordT (ws.map revS)).length < n := by
  have z := ordT_len (ws.map revS)
  rw [List.length_map] at z
  omega
theorem text_in {x y : Str} (h : ∀ c ∈ cs y, c ∈ cs x) (l : y.length ≤ 4000) : textV x 4000 (.str y) = true := by
  show (decide (Txt.stripChars y x = ⟨#[]⟩) && decide (y.length ≤ 4000)) = true
  rw [strip_in, Bool.and_eq_true, List.all_eq_true]
  exact ⟨fun c m => decide_eq_true (h c m), decide_eq_true l⟩
theorem rev_in {x y : Str} (h : ∀ c ∈ cs y, c ∈ cs x) : ∀ c ∈ cs (revS y), c ∈ cs x := fun c m => h c (by rw [cs_revS] at m; exact List.mem_reverse.mp m)
theorem bt_of {K : Frag} {C : Addr} {H : Hp} {b : Addr} {x y : Str} {n : Nat} {ws : List Str} (bk : BookAt H b C x ws) (abc : Abc x) (lo : LotOk x n ws) (few : ws.length ≤ 400) (h : ∀ c ∈ cs y, c ∈ cs x) (l : y.length ≤ 4000) : BT K C H b ws y :=
  ⟨x, bk, abc.good, ⟨by omega, strOk_of abc.ok h⟩, text_in h l, ⟨lot_free lo, few, l⟩⟩
theorem cutE_one {ws : List Str} (F : Free2 (ordT (ws.map revS))) {l : List Nat} {r : List Str} {e : List Nat} (c : CutE ws l r e) {r2 : List Str} {e2 : List Nat} (c2 : CutE ws l r2 e2) : r = r2 ∧ e = e2 := by
  obtain ⟨h1, h2⟩ := cut_one F (cutE_flip flip_mem c) (cutE_flip flip_mem c2)
  refine ⟨?_, List.reverse_inj.mp h2⟩
  have z := congrArg (List.map revS) h1
  rw [List.map_map, List.map_map] at z
  have i : (revS ∘ revS) = id := funext fun s => revS_rev s
  rw [i, List.map_id, List.map_id] at z
  exact z
theorem back_rev (R : List Str) : ((R.map revS).reverse.map revS) = R.reverse := by
  rw [← List.map_reverse, List.map_map]
  have i : (revS ∘ revS) = id := funext fun s => revS_rev s
  rw [i, List.map_id]
theorem join_cs (l : List Str) : cs (Txt.join (Str.ofString "") l) = (l.map cs).flatten := joined_list l
theorem PairAt.ext {H H' : Hp} {t : Addr} {R : List Str} {e : Str} (h : PairAt H t R e) (k : Ext H H') : PairAt H' t R e := by
  obtain ⟨r, e1, e2⟩ := h
  exact ⟨r, k _ _ e1, k _ _ e2⟩
theorem PairBack.ext {H H' : Hp} {t : Addr} {R : List Str} {e : Str} (h : PairBack H t e R) (k : Ext H H') : PairBack H' t e R := by
  obtain ⟨r, e1, e2⟩ := h
  exact ⟨r, k _ _ e1, k _ _ e2⟩
def prD (R : List Str) (e : Str) : PyData := .tuple [.tuple (R.map PyData.str), .str e]
def prB (e : Str) (R : List Str) : PyData := .tuple [.str e, .tuple (R.map PyData.str)]
theorem PairAt.dp {K : Frag} {H : Hp} {t : Addr} {R : List Str} {e : Str} (h : PairAt H t R e) : Dp K H (.ref t) (prD R e) := by
  obtain ⟨r, e1, e2⟩ := h
  exact .tup (SqT.of e1) (.cons (.tup (SqT.of e2) (dpa_txt R)) (.cons (.str _) .nil))
theorem PairBack.dp {K : Frag} {H : Hp} {t : Addr} {R : List Str} {e : Str} (h : PairBack H t e R) : Dp K H (.ref t) (prB e R) := by
  obtain ⟨r, e1, e2⟩ := h
  exact .tup (SqT.of e1) (.cons (.str _) (.cons (.tup (SqT.of e2) (dpa_txt R)) .nil))
theorem prD_ok {R : List Str} {e : Str} (hR : ∀ k ∈ R, PyData.strOk k = true) (he : PyData.strOk e = true) : SeqAt.shaped (prD R e) = true := by
  unfold SeqAt.shaped
  rw [Bool.and_eq_true, decide_eq_true_eq]
  refine ⟨?_, ?_⟩
  · simp [prD, PyData.canLay0, PyData.canLayAll0, he, txt_can R hR]
  · simp [prD, PyData.depth, PyData.depthAll, txt_depth]
theorem prB_ok {R : List Str} {e : Str} (hR : ∀ k ∈ R, PyData.strOk k = true) (he : PyData.strOk e = true) : SeqAt.shaped (prB e R) = true := by
  unfold SeqAt.shaped
  rw [Bool.and_eq_true, decide_eq_true_eq]
  refine ⟨?_, ?_⟩
  · simp [prB, PyData.canLay0, PyData.canLayAll0, he, txt_can R hR]
  · simp [prB, PyData.depth, PyData.depthAll, txt_depth]
theorem sh_self {d : PyData} (h : SeqAt.shaped d = true) : PyData.eqv d d = true := by
  unfold SeqAt.shaped at h
  rw [Bool.and_eq_true] at h
  exact SeqAt.eqv_refl d h.1
end B17

/-! values that are no books, no texts -/
namespace B17
open PySem PySem.Spec PyProof.Rows L2 XSt NX XB XE LamX XBk XFd XWy XCf XHt
open PySem.W (Frag)
theorem odd_books {K : Frag} {H : Hp} {j p l1 d1 t1 b : Addr} {x : Str} {ws : List Str} (hj : JugAt H j) (ep : H p = some (.tup (ws.map V.str))) (el : H l1 = some (.lst [.ref b])) (ed : H d1 = some (.dK [])) (et : H t1 = some (.tup [.str x, .ref p])) :
    ∀ v ∈ [V.non, .int 0, .str (Str.ofString "book"), .ref p, .ref l1, .ref d1, .bl true, .ref t1], Stay j H fun H' => NoBook K H' v := by
  intro v m
  simp only [List.mem_cons, List.not_mem_nil, or_false] at m
  rcases m with rfl | rfl | rfl | rfl | rfl | rfl | rfl | rfl
  · exact .all fun _ => .non
  · exact .all fun _ => .int 0
  · exact .all fun _ => .str _
  · exact .tup hj ep fun H' e => .seq (.base (.tup e)) (by simp)
  · exact stay_lst1 hj el fun H' e => .seq (.base (.lst e)) (by simp)
  · exact .dict hj ed fun H' e => .seq (.base (.dK e)) (by simp)
  · exact .all fun _ => .bl true
  · exact .tup hj et fun H' e => .seq (.base (.tup e)) (by simp)
theorem four_q : ∀ x ∈ fourS, 113 ∉ cs x := by decide +kernel
theorem four_ok : ∀ x ∈ fourS, PyData.strOk (x ++ Str.ofString "q") = true := by decide +kernel
theorem stray {x y : Str} {n c : Nat} (m : c ∈ cs y) (hc : c ∉ cs x) : textV x n (.str y) = false := by
  have e : decide (Txt.stripChars y x = ⟨#[]⟩) = false := by
    rw [strip_in, List.all_eq_false]
    exact ⟨c, m, by rw [decide_eq_true_eq]; exact hc⟩
  show (decide (Txt.stripChars y x = ⟨#[]⟩) && _) = false
  rw [e]
  rfl
/-- no way at all -/
def NoWay (K : Frag) (H : Hp) (v : V) : Prop := NoTuple K H v ∨ ∃ p zs, v = .ref p ∧ SqT K H p zs ∧ zs.length ≤ 4000 ∧ (∀ z ∈ zs, Asked K H z) ∧ ∀ ws y, isWayV ws y zs = false
theorem NoWay.use {K : Frag} {H : Hp} {v : V} {Q : VK} {ws : List Str} {y : Str} (h : NoWay K H v) (q : ∀ H', Ext H H' → Q (.bl false) H') :
    (NoTuple K H v ∧ ∀ H', Ext H H' → Q (.bl false) H') ∨ ∃ p zs, v = .ref p ∧ SqT K H p zs ∧ zs.length ≤ 4000 ∧ (∀ z ∈ zs, Asked K H z) ∧ ∀ H', Ext H H' → Q (.bl (isWayV ws y zs)) H' := by
  rcases h with h | ⟨p, zs, e, sq, few, asks, no⟩
  · exact .inl ⟨h, q⟩
  · exact .inr ⟨p, zs, e, sq, few, asks, fun H' k => by rw [no]; exact q H' k⟩
def spIsNoWay (K : Frag) (C : Addr) : Sp := fun vs H Q _ => ∃ (b : Addr) (ws : List Str) (y : Str) (v : V), vs = [.ref b, .str y, v] ∧ BT K C H b ws y ∧ NoWay K H v ∧ ∀ H', Ext H H' → Q (.bl false) H'
theorem ok_no_way {P : Program} {w : World} {K : Frag} {mg : Str → Option Value} {base : Heap} {f C : Addr} {fd : FuncData} (F : FnOk P w K mg base CX0 6 f fd ["book", "text", "value"] (spIsWay K C)) : FnOk P w K mg base CX0 6 f fd ["book", "text", "value"] (spIsNoWay K C) := by
  have i : ∀ vs H Q E, spIsNoWay K C vs H Q E → spIsWay K C vs H Q E := fun vs H Q E h => by
    obtain ⟨b, ws, y, v, rfl, bt, nw, q⟩ := h
    exact ⟨b, ws, y, v, rfl, bt, nw.use q⟩
  exact ⟨fun vs H Q E h => F.len vs H Q E (i _ _ _ _ h), fun A outer s H args us vs Q E r e0 b v h => F.run A outer s H args us vs Q E r e0 b v (i _ _ _ _ h)⟩
def BadT (K : Frag) (x : Str) (v : V) (H' : Hp) : Prop := Asked K H' v ∧ textV x 4000 v = false ∧ NoWay K H' v
theorem long_q {x : Str} {c : Nat} (mx : x ∈ fourS) (mc : c ∈ cs x) : (Txt.mul ⟨#[c]⟩ ((3999 : Nat) : Int)).length = 3999 ∧ (Txt.mul ⟨#[c]⟩ ((3999 : Nat) : Int) ++ Str.ofString "q").length ≤ 8000 ∧ PyData.strOk (Txt.mul ⟨#[c]⟩ ((3999 : Nat) : Int) ++ Str.ofString "q") = true ∧ 113 ∈ cs (Txt.mul ⟨#[c]⟩ ((3999 : Nat) : Int) ++ Str.ofString "q") := by
  have l := mul_len c 3999 (by decide)
  have e : cs (Txt.mul ⟨#[c]⟩ ((3999 : Nat) : Int)) = List.replicate 3999 c := mul_sign c 3999 (by decide)
  generalize Txt.mul ⟨#[c]⟩ ((3999 : Nat) : Int) = z at l e ⊢
  have l1 : (Str.ofString "q").length = 1 := by decide +kernel
  have y : cs (Str.ofString "q") = [113] := by decide +kernel
  refine ⟨l, by rw [app_len, l, l1]; decide, strOk_of (four_ok x mx) fun d md => ?_, by rw [cs_app, y]; exact List.mem_append_right _ (List.mem_singleton_self _)⟩
  rw [cs_app] at md ⊢
  rcases List.mem_append.mp md with md | md
  · rw [e] at md
    rw [List.eq_of_mem_replicate md]
    exact List.mem_append_left _ mc
  · exact List.mem_append_right _ md
theorem bad_texts {K : Frag} {H : Hp} {j t1 n1 : Addr} {x z : Str} (hj : JugAt H j) (mx : x ∈ fourS) (et : H t1 = some (.tup [.str x])) (en : H n1 = some (.lst [])) (lz : z.length ≤ 8000) (okz : PyData.strOk z = true) (mz : 113 ∈ cs z) :
    ∀ v ∈ [V.non, .int 0, .str (x ++ Str.ofString "?"), .str (Str.ofString "A"), .str (Str.ofString " "), .ref t1, .ref n1, .bl true, .str (Str.ofString "q"), .str z], Stay j H (BadT K x v) := by
  have abc := four_abc x mx
  obtain ⟨q1, q2, q3⟩ := quest abc
  have small : ∀ c, ¬ (97 ≤ c ∧ c ≤ 122) → c ∉ cs x := fun c h m => h (abc.small c m)
  have lx : x.length ≤ 3 := abc.few
  intro v m
  simp only [List.mem_cons, List.not_mem_nil, or_false] at m
  rcases m with rfl | rfl | rfl | rfl | rfl | rfl | rfl | rfl | rfl | rfl
  · exact .all fun _ => ⟨trivial, rfl, .inl ⟨_, .base .non, rfl⟩⟩
  · exact .all fun _ => ⟨trivial, rfl, .inl ⟨_, .base (.int 0), rfl⟩⟩
  · exact .all fun _ => ⟨⟨by omega, q3⟩, stray q1 (small 63 (by decide)), .inl ⟨_, .base (.str _), rfl⟩⟩
  · exact .all fun _ => ⟨⟨by decide +kernel, by decide +kernel⟩, stray (c := 65) (by decide +kernel) (small 65 (by decide)), .inl ⟨_, .base (.str _), rfl⟩⟩
  · exact .all fun _ => ⟨⟨by decide +kernel, by decide +kernel⟩, stray (c := 32) (by decide +kernel) (small 32 (by decide)), .inl ⟨_, .base (.str _), rfl⟩⟩
  · refine .tup hj et fun H' e => ⟨asked_tup e, rfl, .inr ⟨t1, _, rfl, SqT.of e, by show 1 ≤ 4000; decide, fun u mu => ?_, fun _ _ => rfl⟩⟩
    rw [List.mem_singleton.mp mu]
    exact ⟨by omega, abc.ok⟩
  · exact stay_nil hj en fun H' e => ⟨asked_lst e, rfl, .inl ⟨_, .base (.lst e), rfl⟩⟩
  · exact .all fun _ => ⟨trivial, rfl, .inl ⟨_, .base (.bl true), rfl⟩⟩
  · exact .all fun _ => ⟨⟨by decide +kernel, by decide +kernel⟩, stray (c := 113) (by decide +kernel) (four_q x mx), .inl ⟨_, .base (.str _), rfl⟩⟩
  · exact .all fun _ => ⟨⟨lz, okz⟩, stray mz (four_q x mx), .inl ⟨_, .base (.str _), rfl⟩⟩
def nulS : Str := Str.ofString ""
theorem nul_cs : cs nulS = [] := by decide +kernel
theorem shut_nil {ws : List Str} (F : Free2 ws) : XWy.shutB ws [] = false := by
  rw [← Bool.not_eq_true, shut_iff]
  rintro ⟨w, m, p⟩
  have l := p.length_le
  have := F.one w m
  rw [cs_len, List.length_nil] at l
  omega
theorem way_nul {ws : List Str} (F : Free2 ws) : isWayV ws nulS [.int 0] = true := by
  have e1 : longV (.int 0) = true := by decide +kernel
  have e2 : wayF ws (cs nulS) 0 = [0] := by
    unfold wayF rowR
    rw [nul_cs]
    rfl
  have e3 : XWy.shutB ws ((cs nulS).take (0 : Int).toNat) = false := by
    rw [nul_cs]
    exact shut_nil F
  show ([V.int 0].all longV && (decide ((0 : Int) ≤ 0) && decide ((0 : Int) ≤ (nulS.length : Int)) && !XWy.shutB ws ((cs nulS).take (0 : Int).toNat) && decide (V.int 0 :: [] = (wayF ws (cs nulS) (0 : Int).toNat).map natV))) = true
  rw [e3, show (0 : Int).toNat = 0 from rfl, e2, List.all_cons, e1]
  decide +kernel
theorem cnt_nul {ws : List Str} (F : Free2 ws) : cntV ws (cs nulS) (nulS.length + 1) = [V.int 1] := by
  have e : nulS.length + 1 = 1 := by decide +kernel
  have e3 : XWy.shutB ws ((cs nulS).take 0) = false := by
    rw [nul_cs]
    exact shut_nil F
  rw [e]
  unfold cntV cntN
  show [V.int (((List.range 1).filter fun i => !XWy.shutB ws ((cs nulS).take i)).length : Int)] = _
  rw [show List.range 1 = [0] from rfl, List.filter_cons, e3]
  rfl
end B17

/-! written books -/
namespace B17
open PySem PySem.Spec PyProof.Rows L2 XSt NX XB XE LamX XF
open PySem.W (Frag)
theorem ord_is {l m : List Str} (nd : m.Nodup) (pw : m.Pairwise fun a b => XSt.tLe a b = true) (e : ∀ x, x ∈ m ↔ x ∈ l) : ordT l = m := by
  symm
  refine tLe_ord.one ?_ pw
  rw [List.perm_ext_iff_of_nodup nd (nodup_once l)]
  exact fun x => (e x).trans mem_once.symm
theorem nodup_len : ∀ {m l : List Str}, m.Nodup → (∀ x ∈ m, x ∈ l) → m.length ≤ l.length
  | [], _, _, _ => Nat.zero_le _
  | a :: m, l, nd, h => by
    obtain ⟨n1, n2⟩ := List.nodup_cons.mp nd
    have ma := h a List.mem_cons_self
    have ih := nodup_len (l := l.erase a) n2 fun x mx => (List.mem_erase_of_ne (fun (z : _ = a) => n1 (by rw [← z]; exact mx))).mpr (h x (List.mem_cons_of_mem _ mx))
    rw [List.length_erase_of_mem ma] at ih
    have := List.length_pos_of_mem ma
    rw [List.length_cons]
    omega
theorem ord_many {l m : List Str} (nd : m.Nodup) (e : ∀ x ∈ m, x ∈ l) : m.length ≤ (ordT l).length := nodup_len nd fun x mx => ordT_mem.mpr (e x mx)
def sA : Str := ⟨#[97]⟩
def sB : Str := ⟨#[98]⟩
def sAB : Str := Str.ofString "ab"
theorem mul_cs (c : Nat) : ∀ n : Nat, 1 ≤ n → cs (Txt.mul ⟨#[c]⟩ (n : Int)) = List.replicate n c
  | 0, h => absurd h (by decide)
  | 1, _ => rfl
  | n + 2, _ => mul_sign c (n + 2) (by omega)
theorem mul_length (c n : Nat) (h : 1 ≤ n) : (Txt.mul ⟨#[c]⟩ (n : Int)).length = n := by
  rw [← cs_len, mul_cs c n h, List.length_replicate]
theorem abc_ab : Abc sAB := four_abc _ (by decide +kernel)
theorem abc_a : Abc (Str.ofString "a") := four_abc _ (by decide +kernel)
theorem in_ab : ∀ c, c = 97 ∨ c = 98 → c ∈ cs sAB := by
  have e : cs sAB = [97, 98] := by decide +kernel
  rintro c (rfl | rfl) <;> rw [e] <;> decide
theorem rep_in {n c : Nat} (h : c = 97 ∨ c = 98) : ∀ d ∈ List.replicate n c, d ∈ cs sAB := fun d m => by
  rw [List.eq_of_mem_replicate m]
  exact in_ab c h
theorem rep_good {c n : Nat} (h : c = 97 ∨ c = 98) (h1 : 1 ≤ n) (h2 : n ≤ 400) : GoodW sAB (Txt.mul ⟨#[c]⟩ (n : Int)) := by
  refine goodW_of abc_ab (fun d m => ?_) (by rw [mul_length c n h1]; exact h1) (by rw [mul_length c n h1]; exact h2)
  rw [mul_cs c n h1] at m
  exact rep_in h d m
theorem rep_ask {K : Frag} {H : Hp} {c n : Nat} (h : c = 97 ∨ c = 98) (h1 : 1 ≤ n) (h2 : n ≤ 8000) : Asked K H (.str (Txt.mul ⟨#[c]⟩ (n : Int))) := by
  refine ⟨by rw [mul_length c n h1]; exact h2, strOk_of abc_ab.ok fun d m => ?_⟩
  rw [mul_cs c n h1] at m
  exact rep_in h d m
/-- the two hundred first ones -/
def eightW : List Str := (unif sAB 8).take 200
def fullW : List Str := eightW.map (· ++ sA) ++ eightW.map (· ++ sB)
theorem unif_256 : (unif sAB 8).length = 256 := by rw [unif_len]; decide +kernel
theorem eight_len : eightW.length = 200 := by
  unfold eightW
  rw [List.length_take, unif_256]
  rfl
theorem eight_nodup : eightW.Nodup := (asc_nodup (unif_asc abc_ab.asc 8)).sublist (List.take_sublist _ _)
theorem eight_mem {k : Str} (h : k ∈ eightW) : k.length = 8 ∧ ∀ c ∈ cs k, c ∈ cs sAB := unif_mem (List.mem_of_mem_take h)
theorem full_len : fullW.length = 400 := by
  unfold fullW
  rw [List.length_append, List.length_map, List.length_map, eight_len]
theorem app_inj {a b s : Str} (h : a ++ s = b ++ s) : a = b := by
  have e := congrArg cs h
  rw [cs_app, cs_app] at e
  exact cs_inj (List.append_cancel_right e)
theorem last_apart {a b : Str} : a ++ sA ≠ b ++ sB := fun h => by
  have e := congrArg cs h
  rw [cs_app, cs_app] at e
  have z := (List.append_inj_right' e rfl : cs sA = cs sB)
  revert z
  decide
theorem full_nodup : fullW.Nodup := by
  unfold fullW
  rw [List.nodup_append]
  refine ⟨List.Pairwise.map (· ++ sA) (fun a b ne e => ne (app_inj e)) eight_nodup, List.Pairwise.map (· ++ sB) (fun a b ne e => ne (app_inj e)) eight_nodup, ?_⟩
  intro a ma b mb e
  obtain ⟨x, _, rfl⟩ := List.mem_map.mp ma
  obtain ⟨y, _, rfl⟩ := List.mem_map.mp mb
  exact last_apart e
theorem full_mem {k : Str} (h : k ∈ fullW) : k.length = 9 ∧ ∀ c ∈ cs k, c ∈ cs sAB := by
  rcases List.mem_append.mp h with m | m
  · obtain ⟨x, mx, rfl⟩ := List.mem_map.mp m
    obtain ⟨l, e⟩ := eight_mem mx
    refine ⟨by rw [app_len, l]; rfl, fun c mc => ?_⟩
    rw [cs_app] at mc
    rcases List.mem_append.mp mc with mc | mc
    · exact e c mc
    · exact in_ab c (.inl (List.mem_singleton.mp mc))
  · obtain ⟨x, mx, rfl⟩ := List.mem_map.mp m
    obtain ⟨l, e⟩ := eight_mem mx
    refine ⟨by rw [app_len, l]; rfl, fun c mc => ?_⟩
    rw [cs_app] at mc
    rcases List.mem_append.mp mc with mc | mc
    · exact e c mc
    · exact in_ab c (.inr (List.mem_singleton.mp mc))
theorem full_good {k : Str} (h : k ∈ fullW) : GoodW sAB k := goodW_of abc_ab (full_mem h).2 (by rw [(full_mem h).1]; decide) (by rw [(full_mem h).1]; decide)
theorem full_ord : (ordT fullW).length ≤ 400 := by
  have := ordT_len fullW
  rw [full_len] at this
  exact this
theorem none_same {l : List Str} {n : Nat} (h : ∀ k ∈ l, k.length = n) : firstV (ordT l) = none :=
  firstV_none (ordT_nodup l) (pre_same fun k m => h k (ordT_mem.mp m)) (suf_same fun k m => h k (ordT_mem.mp m))
/-- a's, then so many b's, then a's -/
def greatW (n : Nat) : Str := Txt.mul ⟨#[97]⟩ ((8 : Nat) : Int) ++ Txt.mul ⟨#[98]⟩ (n : Int) ++ Txt.mul ⟨#[97]⟩ ((8 : Nat) : Int)
theorem great_cs {n : Nat} (h : 1 ≤ n) : cs (greatW n) = List.replicate 8 97 ++ List.replicate n 98 ++ List.replicate 8 97 := by
  unfold greatW
  rw [cs_app, cs_app, mul_cs 97 8 (by decide), mul_cs 98 n h]
theorem great_len {n : Nat} (h : 1 ≤ n) : (greatW n).length = n + 16 := by
  rw [← cs_len, great_cs h]
  simp only [List.length_append, List.length_replicate]
  omega
theorem great_pre {i j : Nat} (hi : 1 ≤ i) (hj : 1 ≤ j) (h : cs (greatW i) <+: cs (greatW j)) : i = j := by
  have l := h.length_le
  rw [cs_len, cs_len, great_len hi, great_len hj] at l
  by_cases e : i = j
  · exact e
  have lt : i < j := by omega
  obtain ⟨t, ht⟩ := h
  have g := congrArg (fun l : List Nat => l[8 + i]?) ht
  exfalso
  rw [great_cs hi, great_cs hj, List.append_assoc, List.append_assoc, List.append_assoc] at g
  have gl : (List.replicate 8 97 ++ (List.replicate i 98 ++ (List.replicate 8 97 ++ t)))[8 + i]? = some 97 := by
    rw [List.getElem?_append_right (by simp), List.length_replicate, Nat.add_sub_cancel_left, List.getElem?_append_right (by simp), List.length_replicate, Nat.sub_self]
    rfl
  have gr : (List.replicate 8 97 ++ (List.replicate j 98 ++ List.replicate 8 97))[8 + i]? = some 98 := by
    rw [List.getElem?_append_right (by simp), List.length_replicate, Nat.add_sub_cancel_left, List.getElem?_append_left (by simpa using lt), List.getElem?_replicate, if_pos lt]
  rw [gl, gr] at g
  cases g
theorem great_rev {n : Nat} (h : 1 ≤ n) : (cs (greatW n)).reverse = cs (greatW n) := by
  rw [great_cs h]
  simp
theorem great_suf {i j : Nat} (hi : 1 ≤ i) (hj : 1 ≤ j) (h : cs (greatW i) <:+ cs (greatW j)) : i = j := by
  have z := List.reverse_prefix.mpr h
  rw [great_rev hi, great_rev hj] at z
  exact great_pre hi hj z
def greats : List Str := (List.range 379).map fun i => greatW (i + 1)
theorem greats_none : firstV (ordT greats) = none := by
  refine firstV_none (ordT_nodup _) (fun a ma b mb ne h => ?_) (fun a ma b mb ne h => ?_)
  · obtain ⟨i, _, rfl⟩ := List.mem_map.mp (ordT_mem.mp ma)
    obtain ⟨j, _, rfl⟩ := List.mem_map.mp (ordT_mem.mp mb)
    exact ne (by rw [great_pre (by omega) (by omega) h])
  · obtain ⟨i, _, rfl⟩ := List.mem_map.mp (ordT_mem.mp ma)
    obtain ⟨j, _, rfl⟩ := List.mem_map.mp (ordT_mem.mp mb)
    exact ne (by rw [great_suf (by omega) (by omega) h])
theorem greats_good : ∀ k ∈ greats, GoodW sAB k := by
  intro k m
  obtain ⟨i, mi, rfl⟩ := List.mem_map.mp m
  have := List.mem_range.mp mi
  refine goodW_of abc_ab (fun c mc => ?_) (by rw [great_len (by omega)]; omega) (by rw [great_len (by omega)]; omega)
  rw [great_cs (by omega)] at mc
  rcases List.mem_append.mp mc with mc | mc
  · rcases List.mem_append.mp mc with mc | mc
    · exact rep_in (.inl rfl) c mc
    · exact rep_in (.inr rfl) c mc
  · exact rep_in (.inl rfl) c mc
def addV (s : Str) : V → V
  | .str k => .str (k ++ s)
  | v => v
theorem add_all (s : Str) (ws : List Str) : ((ws.map V.str).filter fun _ => true).map (addV s) = (ws.map (· ++ s)).map V.str := by
  rw [List.filter_eq_self.mpr (fun _ _ => rfl), List.map_map, List.map_map]
  rfl
theorem asA : Str.ofString "a" = sA := by decide +kernel
theorem asB : Str.ofString "b" = sB := by decide +kernel
theorem take_upto (xs : List V) (n : Nat) : cutV xs none (some (n : Int)) = xs.take n := by
  unfold cutV
  rw [HT.sIx_none, HT.sIx_nat, List.drop_zero, Nat.sub_zero]
  by_cases h : n ≤ xs.length
  · rw [Nat.min_eq_left h]
  · rw [Nat.min_eq_right (by omega), List.take_length, List.take_of_length_le (by omega)]

theorem full_ord_len : (ordT fullW).length = 400 := by
  have h1 := full_ord
  have h2 := ord_many full_nodup fun x m => m
  rw [full_len] at h2
  omega
theorem full_one : 400 < (ordT (ordT fullW ++ [sB])).length := by
  have nd : (ordT fullW ++ [sB]).Nodup := by
    rw [List.nodup_append]
    refine ⟨ordT_nodup _, List.nodup_cons.mpr ⟨by simp, List.nodup_nil⟩, fun a ma b mb e => ?_⟩
    rw [List.mem_singleton.mp mb] at e
    have z := (full_mem (ordT_mem.mp ma)).1
    rw [e] at z
    cases z
  have z := ord_many nd fun x m => m
  rw [List.length_append, full_ord_len] at z
  exact z
theorem uniform_calm {P : Program} {w : World} {K : Frag} {mg : Str → Option Value} {base : Heap} {C cL cN cM f : Addr} {fd : FuncData} (F : FnOk P w K mg base (L2.CX P w) 8 f fd ["cls", "letters", "size"] (spUniformX K C cL cN cM)) : FnOk P w K mg base CX0 8 f fd ["cls", "letters", "size"] (spUniform K C) := XC0.calm F fun vs H Q E h => by
  obtain ⟨x, n, rfl, abc, n1, n4, pw, q⟩ := h
  refine ⟨_, _, rfl, abc.good.ask, trivial, .inr (.inr ⟨x, n, rfl, abc, rfl, n1, n4, fun z => ?_, fun _ => q⟩)⟩
  obtain ⟨i, hi, big⟩ := z
  have := pw i hi
  omega
end B17

/-! wrong arguments -/
namespace B17
open PySem PySem.Spec PyProof.Rows L2 XSt NX XB XE LamX XNil XBk XFd
open PySem.W (Frag)
abbrev sRight : Stmt := top 62
def spRight (T : List (Addr × Str)) : Sp := fun vs H Q _ => ∃ j, vs = [.ref j] ∧ JugAt H j ∧ Tabs T H ∧ ∀ H', Go T j H H' → Q (.bl true) H'
/-- the rules of books that are wanted here -/
structure CtX (P : Program) (w : World) (K : Frag) (mg : Str → Option Value) (base : Heap) (C : Addr) (cl : Nat → Addr) : Prop where
  B : BookK K C
  gB : mg "Book" = some (.ref C)
  make : ∃ g fd, Mk K C g ∧ FnOk P w K mg base CX0 6 g fd ["self", "letters", "words"] (spInit K C) ∧ Binds K fd ["self", "letters", "words"] []
  uni : ∃ p g fd, ClX.CMet K C (.type "type") "uniform" p g ∧ ClX.CRead K C (.type "type") ∧ FnOk P w K mg base CX0 8 g fd ["cls", "letters", "size"] (spUniform K C) ∧ Binds K fd ["cls", "letters", "size"] []
  way : ∃ g fd, mg "ways" = some (.ref g) ∧ PySem.W.keepIn K (.ref g) = true ∧ GFn P w K mg base 6 g fd ["book", "text"] (spGWays K C (cl 0) (cl 1)) ∧ Binds K fd ["book", "text"] []
  s0 : PySem.W.subIn K (.ref (cl 0)) (.type "StopIteration") = some false
  s1 : PySem.W.subIn K (.ref (cl 1)) (.type "StopIteration") = some false
section
variable {P : Program} {w : World} {K : Frag} {mg : Str → Option Value} {base : Heap} {f c tb g C : Addr} {fd : FuncData} {cl : Nat → Addr} {T : List (Addr × Str)}
theorem scRight : FnScope ["jug", "signs", "lot", "told", "bad", "made", "odd"] ["jug"] (defScope sRight) := ⟨rfl, rfl, rfl, by decide +kernel, rfl, by decide +kernel, by decide +kernel⟩
theorem ok_right (F : FnP K "_law_right" sRight f fd) (Cd : CodeAt K f c) (TB : TabB base mg c tb) (inT : (tb, Str.ofString "_law_right" ++ ".<locals>." ++ "<lambda>") ∈ T) (oneT : ∀ p ∈ T, p.1 = tb → p.2 = Str.ofString "_law_right" ++ ".<locals>." ++ "<lambda>")
    (M : Free mg) (mP : mg "repr" = none) (mLs : mg "list" = none) (O : CameOk K mg g) (TN : CameC K mg cl) (WX : CtX P w K mg base C cl)
    (DS : Def P w K mg base CX0 3 "_law_signs" ["jug"] spSigns) (DSB : Def P w K mg base CX0 5 "_law_some_book" ["jug", "signs"] spSomeBook)
    (DP : Def P w K mg base CX0 2 "_law_pick" ["jug", "items"] (spPickS K))
    (DCW : Def P w K mg base (L2.CX P w) 6 "count_ways" ["book", "text"] (spNoTwo K C (cl 0) (cl 1))) (DCO : Def P w K mg base (L2.CX P w) 6 "counts" ["book", "text"] (spNoTwo K C (cl 0) (cl 1)))
    (DPL : Def P w K mg base (L2.CX P w) 6 "places" ["book", "text"] (spNoTwo K C (cl 0) (cl 1))) (DIW : Def P w K mg base (L2.CX P w) 6 "is_way" ["book", "text", "value"] (spNoThree K C (cl 0) (cl 1)))
    (DI0 : Def P w K mg base CX0 6 "is_way" ["book", "text", "value"] (spIsWay K C)) (DC0 : Def P w K mg base CX0 6 "counts" ["book", "text"] (spCounts K C)) :
    FnG P w K mg base CX0 13 f fd ["jug"] (spRight T) := by
  have B := WX.B
  have gB := WX.gB
  obtain ⟨fI, dI, MK, FI, bI⟩ := WX.make
  obtain ⟨fWY, dWY, gWY, kWY, FWY, bWY⟩ := WX.way
  obtain ⟨fSG, dSG, FSG, gSG, kSG, bSG⟩ := DS.ex
  obtain ⟨fSB, dSB, FSB, gSB, kSB, bSB⟩ := DSB.ex
  obtain ⟨fP, dP, FP, gP, kP, bP⟩ := DP.ex
  obtain ⟨fCW, dCW, FCW, gCW, kCW, bCW⟩ := DCW.ex
  obtain ⟨fCO, dCO, FCO, gCO, kCO, bCO⟩ := DCO.ex
  obtain ⟨fPL, dPL, FPL, gPL, kPL, bPL⟩ := DPL.ex
  obtain ⟨fIW, dIW, FIW, gIW, kIW, bIW⟩ := DIW.ex
  obtain ⟨fI0, dI0, FI0, gI0, kI0, bI0⟩ := DI0.ex
  obtain ⟨fC0, dC0, FC0, gC0, kC0, bC0⟩ := DC0.ex
  have FI1 := ok_no_way FI0
  have gI1 := gI0
  have kI1 := kI0
  have bI1 := bI0
  refine okG F Cd scRight (fun vs H Q E h => ?_) (fun A outer s H vs Q E hg hr h => ?_)
  · obtain ⟨j, rfl, _⟩ := h
    rfl
  · obtain ⟨j, rfl, hj, hT, q⟩ := h
    have hs : sizeLine = 16777216 := sizeLine_eq
    refine ⟨_, PSs.nox (pss_cons (ps_set (i := 1) scRight.nd rfl (.inl rfl) (pe_call FSG (hr.mono (by decide)) (by rfl) gSG kSG bSG .nil pass0 (pa_cons (pv 0) (pa_nil))))
      (pss_cons (ps_set (i := 2) scRight.nd rfl (.inl rfl) (pe_call FSB (hr.mono (by decide)) (by rfl) gSB kSB bSB .nil pass0 (pa_cons (pv 0) (pa_cons (pv 1) (pa_nil)))))
      (pss_cons (ps_set (i := 5) scRight.nd rfl (.inr rfl) (pe_make MK FI (hr.mono (by decide)) (by rfl) gB bI .nil pass0 (pa_cons (pv 1) (pa_cons (pv 2) (pa_nil)))))
      (pss_cons (ps_set (i := 6) scRight.nd rfl (.inr rfl) (pe_call FP (hr.mono (by decide)) (by rfl) gP kP bP .nil pass0 (pa_cons (pv 0) (pa_cons ((pe_lst (pa_cons (pe_non) (pa_cons (pe_int) (pa_cons (pe_str) (pa_cons (pv 2) (pa_cons (pe_lst (pa_cons (pv 5) pa_nil)) (pa_cons (pe_dnewK) (pa_cons (pe_bl) (pa_cons (pe_tup (pa_cons (pv 1) (pa_cons (pv 2) pa_nil))) (pa_nil))))))))))) (pa_nil)))))
      (pss_cons (ps_set (i := 4) scRight.nd rfl (.inr rfl) (pe_call FP (hr.mono (by decide)) (by rfl) gP kP bP .nil pass0 (pa_cons (pv 0) (pa_cons ((pe_lst (pa_cons (pe_non) (pa_cons (pe_int) (pa_cons (pe_op op_addS (pv 1) pe_str) (pa_cons (pe_str) (pa_cons (pe_str) (pa_cons (pe_tup (pa_cons (pv 1) pa_nil)) (pa_cons (pe_lst pa_nil) (pa_cons (pe_bl) (pa_cons (pe_str) (pa_cons (pe_op op_addS (pe_op op_mulS (pe_ix ix_str (pv 1) pe_int (fun _ _ => rfl)) pe_int) pe_str) (pa_nil))))))))))))) (pa_nil)))))
      (pss_cons (ps_set (i := 3) scRight.nd rfl (.inl rfl) ((pe_lst (pa_cons ((pe_Came (T := T) (cl := cl) (k := 10) (t := fun E => tCall (spNoTwo K C (cl 0) (cl 1)) [] E (tCons (tVar 6) (tCons (tVar 4) (tNil)))) O TN mP hg (by rfl) TB rfl inT oneT (hr.mono (by decide)) (lamS_by (sc := defScope sRight) (by decide +kernel)) rfl (fun _ _ _ _ _ => rfl) (fun A1 o1 s1 H1 E1 f1 c1 room => by exact pe_call FCW (room.mono (by decide)) (by rfl) gCW kCW bCW .nil (passes_call (takes_of rfl rfl rfl rfl) (fun _ _ _ _ z => z)) (pa_cons (pv 6) (pa_cons (pv 4) (pa_nil)))))) (pa_nil)))))
      (pss_cons (ps_expr (pe_bm PySem.F.plainAttrs_list PySem.F.slot_list_append PySem.F.type_list_append mt_append (pv 3) (pa_cons (pe_Came (T := T) (cl := cl) (k := 10) (t := fun E => tCall (spNoTwo K C (cl 0) (cl 1)) [] E (tCons (tVar 6) (tCons (tVar 4) (tNil)))) O TN mP hg (by rfl) TB rfl inT oneT (hr.mono (by decide)) (lamS_by (sc := defScope sRight) (by decide +kernel)) rfl (fun _ _ _ _ _ => rfl) (fun A1 o1 s1 H1 E1 f1 c1 room => by exact pe_call FCO (room.mono (by decide)) (by rfl) gCO kCO bCO .nil (passes_call (takes_of rfl rfl rfl rfl) (fun _ _ _ _ z => z)) (pa_cons (pv 6) (pa_cons (pv 4) (pa_nil))))) pa_nil)))
      (pss_cons (ps_expr (pe_bm PySem.F.plainAttrs_list PySem.F.slot_list_append PySem.F.type_list_append mt_append (pv 3) (pa_cons (pe_Came (T := T) (cl := cl) (k := 10) (t := fun E => tListG (tCallG (spGWays K C (cl 0) (cl 1)) [] (NoS K E) (tCons (tVar 6) (tCons (tVar 4) (tNil))))) O TN mP hg (by rfl) TB rfl inT oneT (hr.mono (by decide)) (lamS_by (sc := defScope sRight) (by decide +kernel)) rfl (fun _ _ _ _ _ => rfl) (fun A1 o1 s1 H1 E1 f1 c1 room => by exact pe_listG (pgen_call FWY (room.mono (by decide)) (by rfl) gWY kWY bWY .nil (pa_cons (pv 6) (pa_cons (pv 4) (pa_nil)))) (passes_call (takes_of rfl rfl rfl rfl) (fun _ _ _ _ z => z.1)) (fun _ _ _ z => z.2) (room.mono (by decide)) (by rfl) mLs (by decide +kernel))) pa_nil)))
      (pss_cons (ps_expr (pe_bm PySem.F.plainAttrs_list PySem.F.slot_list_append PySem.F.type_list_append mt_append (pv 3) (pa_cons (pe_Came (T := T) (cl := cl) (k := 10) (t := fun E => tCall (spNoTwo K C (cl 0) (cl 1)) [] E (tCons (tVar 6) (tCons (tVar 4) (tNil)))) O TN mP hg (by rfl) TB rfl inT oneT (hr.mono (by decide)) (lamS_by (sc := defScope sRight) (by decide +kernel)) rfl (fun _ _ _ _ _ => rfl) (fun A1 o1 s1 H1 E1 f1 c1 room => by exact pe_call FPL (room.mono (by decide)) (by rfl) gPL kPL bPL .nil (passes_call (takes_of rfl rfl rfl rfl) (fun _ _ _ _ z => z)) (pa_cons (pv 6) (pa_cons (pv 4) (pa_nil))))) pa_nil)))
      (pss_cons (ps_expr (pe_bm PySem.F.plainAttrs_list PySem.F.slot_list_append PySem.F.type_list_append mt_append (pv 3) (pa_cons (pe_Came (T := T) (cl := cl) (k := 10) (t := fun E => tCall (spNoThree K C (cl 0) (cl 1)) [] E (tCons (tVar 6) (tCons (tVar 4) (tCons (tC .non) (tNil))))) O TN mP hg (by rfl) TB rfl inT oneT (hr.mono (by decide)) (lamS_by (sc := defScope sRight) (by decide +kernel)) rfl (fun _ _ _ _ _ => rfl) (fun A1 o1 s1 H1 E1 f1 c1 room => by exact pe_call FIW (room.mono (by decide)) (by rfl) gIW kIW bIW .nil (passes_call (takes_of rfl rfl rfl rfl) (fun _ _ _ _ z => z)) (pa_cons (pv 6) (pa_cons (pv 4) (pa_cons (pe_non) (pa_nil)))))) pa_nil)))
      (pss_cons (ps_if (pt_cmpR (op_neD hr.units) (pv 3) (pe_op op_rep (pe_lst (pa_cons pe_str pa_nil)) pe_int) (nomark _)) (pss_one (ps_ret pe_bl)) pss_nil)
      (pss_cons (ps_set (i := 3) scRight.nd rfl (.inl rfl) ((pe_lst (pa_cons ((pe_Came (T := T) (cl := cl) (k := 10) (t := fun E => tCall (spNoTwo K C (cl 0) (cl 1)) [] E (tCons (tVar 5) (tCons (tVar 4) (tNil)))) O TN mP hg (by rfl) TB rfl inT oneT (hr.mono (by decide)) (lamS_by (sc := defScope sRight) (by decide +kernel)) rfl (fun _ _ _ _ _ => rfl) (fun A1 o1 s1 H1 E1 f1 c1 room => by exact pe_call FCW (room.mono (by decide)) (by rfl) gCW kCW bCW .nil (passes_call (takes_of rfl rfl rfl rfl) (fun _ _ _ _ z => z)) (pa_cons (pv 5) (pa_cons (pv 4) (pa_nil)))))) (pa_nil)))))
      (pss_cons (ps_expr (pe_bm PySem.F.plainAttrs_list PySem.F.slot_list_append PySem.F.type_list_append mt_append (pv 3) (pa_cons (pe_Came (T := T) (cl := cl) (k := 10) (t := fun E => tCall (spNoTwo K C (cl 0) (cl 1)) [] E (tCons (tVar 5) (tCons (tVar 4) (tNil)))) O TN mP hg (by rfl) TB rfl inT oneT (hr.mono (by decide)) (lamS_by (sc := defScope sRight) (by decide +kernel)) rfl (fun _ _ _ _ _ => rfl) (fun A1 o1 s1 H1 E1 f1 c1 room => by exact pe_call FCO (room.mono (by decide)) (by rfl) gCO kCO bCO .nil (passes_call (takes_of rfl rfl rfl rfl) (fun _ _ _ _ z => z)) (pa_cons (pv 5) (pa_cons (pv 4) (pa_nil))))) pa_nil)))
      (pss_cons (ps_expr (pe_bm PySem.F.plainAttrs_list PySem.F.slot_list_append PySem.F.type_list_append mt_append (pv 3) (pa_cons (pe_Came (T := T) (cl := cl) (k := 10) (t := fun E => tListG (tCallG (spGWays K C (cl 0) (cl 1)) [] (NoS K E) (tCons (tVar 5) (tCons (tVar 4) (tNil))))) O TN mP hg (by rfl) TB rfl inT oneT (hr.mono (by decide)) (lamS_by (sc := defScope sRight) (by decide +kernel)) rfl (fun _ _ _ _ _ => rfl) (fun A1 o1 s1 H1 E1 f1 c1 room => by exact pe_listG (pgen_call FWY (room.mono (by decide)) (by rfl) gWY kWY bWY .nil (pa_cons (pv 5) (pa_cons (pv 4) (pa_nil)))) (passes_call (takes_of rfl rfl rfl rfl) (fun _ _ _ _ z => z.1)) (fun _ _ _ z => z.2) (room.mono (by decide)) (by rfl) mLs (by decide +kernel))) pa_nil)))
      (pss_cons (ps_expr (pe_bm PySem.F.plainAttrs_list PySem.F.slot_list_append PySem.F.type_list_append mt_append (pv 3) (pa_cons (pe_Came (T := T) (cl := cl) (k := 10) (t := fun E => tCall (spNoTwo K C (cl 0) (cl 1)) [] E (tCons (tVar 5) (tCons (tVar 4) (tNil)))) O TN mP hg (by rfl) TB rfl inT oneT (hr.mono (by decide)) (lamS_by (sc := defScope sRight) (by decide +kernel)) rfl (fun _ _ _ _ _ => rfl) (fun A1 o1 s1 H1 E1 f1 c1 room => by exact pe_call FPL (room.mono (by decide)) (by rfl) gPL kPL bPL .nil (passes_call (takes_of rfl rfl rfl rfl) (fun _ _ _ _ z => z)) (pa_cons (pv 5) (pa_cons (pv 4) (pa_nil))))) pa_nil)))
      (pss_cons (ps_expr (pe_bm PySem.F.plainAttrs_list PySem.F.slot_list_append PySem.F.type_list_append mt_append (pv 3) (pa_cons (pe_Came (T := T) (cl := cl) (k := 10) (t := fun E => tCall (spNoThree K C (cl 0) (cl 1)) [] E (tCons (tVar 5) (tCons (tVar 4) (tCons (tTup (tCons (tC (.int 0)) tNil)) (tNil))))) O TN mP hg (by rfl) TB rfl inT oneT (hr.mono (by decide)) (lamS_by (sc := defScope sRight) (by decide +kernel)) rfl (fun _ _ _ _ _ => rfl) (fun A1 o1 s1 H1 E1 f1 c1 room => by exact pe_call FIW (room.mono (by decide)) (by rfl) gIW kIW bIW .nil (passes_call (takes_of rfl rfl rfl rfl) (fun _ _ _ _ z => z)) (pa_cons (pv 5) (pa_cons (pv 4) (pa_cons (pe_tup (pa_cons pe_int pa_nil)) (pa_nil)))))) pa_nil)))
      (pss_cons (ps_if (pt_cmpR (op_neD hr.units) (pv 3) (pe_op op_rep (pe_lst (pa_cons pe_str pa_nil)) pe_int) (nomark _)) (pss_one (ps_ret pe_bl)) pss_nil)
      (pss_one (ps_ret (pe_and (pe_cmpR op_eq (pe_callB (call_repr hg hr.units) (by rfl) mP bRepr (pa_cons (pe_call FI1 (hr.mono (by decide)) (by rfl) gI1 kI1 bI1 .nil pass0 (pa_cons (pv 5) (pa_cons (pe_str) (pa_cons (pv 4) (pa_nil))))) pa_nil)) pe_str (nomark _)) (pe_and (pe_call FI0 (hr.mono (by decide)) (by rfl) gI0 kI0 bI0 .nil pass0 (pa_cons (pv 5) (pa_cons (pe_str) (pa_cons (pe_tup (pa_cons pe_int pa_nil)) (pa_nil))))) (pe_one (pe_cmpR (op_eqD hr.units) (pe_call FC0 (hr.mono (by decide)) (by rfl) gC0 kC0 bC0 .nil pass0 (pa_cons (pv 5) (pa_cons (pe_str) (pa_nil)))) (pe_tup (pa_cons pe_int pa_nil)) (nomark _)))))))))))))))))))))))), ?_⟩
    refine ⟨_, rfl, j, rfl, hj, fun x H1 mx k1 => ?_⟩
    have abc := four_abc x mx
    have g1 := (Go.refl hj hT).k k1
    refine ⟨_, rfl, _, rfl, j, x, rfl, g1.jug, abc, fine3 x mx, fun p ws H2 k2 ep lo few => ?_⟩
    have g2 := g1.k k2
    have gl := abc.good
    have lens : ∀ k ∈ ws, k.length ≤ 400 := fun k m => by have := (lo.one k m).2.1; omega
    have lens1 : ∀ k ∈ ws, 1 ≤ k.length := fun k m => (lo.one k m).1
    have gws : ∀ k ∈ ws, GoodW x k := fun k m => goodW_of abc (lo.one k m).2.2 (lo.one k m).1 (lens k m)
    refine ⟨_, rfl, _, rfl, ?_⟩
    intro b dx hb hdx ndx
    have nt := ne_of_none ep hb
    have ntx := ne_of_none ep hdx
    refine ⟨b, dx, p, x, ws, rfl, upd_same, abc.good, SqT.of (by rw [upd_ne nt, upd_ne ntx]; exact ep), nt, gws, by omega, by rw [lo.ord]; omega, lo.pre, lo.suf, fun H3 off bk => ⟨rfl, ?_⟩⟩
    have x3 : Ext H2 H3 := upd_ext hb hdx off
    rw [lo.ord] at bk
    have g3 := g2.e x3
    have ep3 := x3 _ _ ep
    have j3 := g3.jug
    clear off hb hdx ndx nt ntx x3 k2 k1 g2 g1
    have lx : x.length ≤ 3 := abc.few
    have lx1 : 1 ≤ x.length := abc.one
    have g5 := g3
    have ep5 := ep3
    have j5 := g5.jug
    clear g3 ep3 j3
    -- no books
    refine ⟨_, rfl, _, rfl, _, rfl, by show 1 ≤ sizeLine; decide, fun l1 hl1 => ?_⟩
    have xa := (Ext.refl H3).new hl1 (o := .lst [.ref b])
    have ea : (upd H3 l1 (.lst [.ref b])) l1 = some (.lst [.ref b]) := upd_same
    generalize upd H3 l1 (.lst [.ref b]) = Ba at xa ea ⊢
    intro d1 hd1
    have xb := (Ext.refl Ba).new hd1 (o := .dK [])
    have eb : (upd Ba d1 (.dK [])) d1 = some (.dK []) := upd_same
    generalize upd Ba d1 (.dK []) = Bb at xb eb ⊢
    refine ⟨_, rfl, _, rfl, by show 2 ≤ sizeLine; decide, fun t1 ht1 => ?_⟩
    have xc := (Ext.refl Bb).new ht1 (o := .tup [.str x, .ref p])
    have ec : (upd Bb t1 (.tup [.str x, .ref p])) t1 = some (.tup [.str x, .ref p]) := upd_same
    generalize upd Bb t1 (.tup [.str x, .ref p]) = Bc at xc ec ⊢
    refine ⟨by show 8 ≤ sizeLine; decide, fun po hpo => ?_⟩
    have gb := (Go.refl j5 g5.tabs).e ((xa.trans xb).trans xc)
    refine pick_go (E := E0) gb.jug gb.tabs hpo (List.cons_ne_nil _ _) (by show 8 ≤ 1000; decide) fun odd H6 ms k6 => ?_
    have sO := (odd_books (K := K) gb.jug (xc _ _ (xb _ _ (xa _ _ ep5))) (xc _ _ (xb _ _ ea)) (xc _ _ eb) ec odd ms).go k6
    have d6 := gb.trans k6
    have g4 := g5.trans d6
    have bk4 := d6.book j5 bk
    have j4 := g4.jug
    clear ms k6 d6 gb hpo xb eb hd1 xa ea hl1 xc ec ht1 g5 bk ep5 j5
    -- no texts
    have lq : (Str.ofString "?").length = 1 := by decide +kernel
    refine ⟨_, rfl, _, rfl, _, _, rfl, rfl, by rw [lq]; omega, ?_⟩
    refine ⟨_, rfl, by show 1 ≤ sizeLine; decide, fun t1 ht1 => ?_⟩
    have xa := (Ext.refl H6).new ht1 (o := .tup [.str x])
    have ea : (upd H6 t1 (.tup [.str x])) t1 = some (.tup [.str x]) := upd_same
    generalize upd H6 t1 (.tup [.str x]) = Ba at xa ea ⊢
    refine ⟨by show 0 ≤ sizeLine; decide, fun n1 hn1 => ?_⟩
    have xb := (Ext.refl Ba).new hn1 (o := .lst [])
    have eb : (upd Ba n1 (.lst [])) n1 = some (.lst []) := upd_same
    generalize upd Ba n1 (.lst []) = Bb at xb eb ⊢
    have g0 : 0 < (cs x).length := by rw [cs_len]; omega
    have jc := List.getElem?_eq_getElem g0
    have mc := List.getElem_mem g0
    generalize (cs x)[0] = c0 at jc mc
    obtain ⟨z1, z2, z3, z4⟩ := long_q mx mc
    refine ⟨_, rfl, _, _, c0, rfl, rfl, by omega, atI_nat (j := 0) jc, ⟨#[c0]⟩, 3999, rfl, rfl, by show 1 * 3999 ≤ 16777216; decide, by show 1 ≤ 16777216; decide, by decide, ?_⟩
    have z5 : (Txt.mul ⟨#[c0]⟩ ((3999 : Nat) : Int)).length + (Str.ofString "q").length ≤ sizeLine := by
      rw [z1, show (Str.ofString "q").length = 1 by decide +kernel]
      omega
    generalize Txt.mul ⟨#[c0]⟩ ((3999 : Nat) : Int) = lz at z2 z3 z4 z5 ⊢
    clear z1
    refine ⟨_, _, rfl, rfl, z5, ?_⟩
    generalize lz ++ Str.ofString "q" = lq1 at z2 z3 z4 ⊢
    refine ⟨by show 10 ≤ sizeLine; decide, fun po hpo => ?_⟩
    have gb := (Go.refl j4 g4.tabs).e (xa.trans xb)
    refine pick_go (E := E0) gb.jug gb.tabs hpo (List.cons_ne_nil _ _) (by show 10 ≤ 1000; decide) fun bad H7 ms k7 => ?_
    have sB := (bad_texts (K := K) gb.jug mx (xb _ _ ea) eb z2 z3 z4 bad ms).go k7
    have d7 := gb.trans k7
    have g5 := g4.trans d7
    have bk5 := d7.book j4 bk4
    have sO := sO.go d7
    have j5 := g5.jug
    clear ms k7 d7 gb hpo xb eb xa ea hn1 ht1 g4 bk4 j4
    have FR : Free2 ws := ⟨fun w m => (lo.one w m).1, lo.pre, lo.suf, by rw [← lo.ord]; exact ordT_nodup ws⟩
    -- count_ways(odd, bad)
    refine ⟨g5.tabs, fun D1 n1 t1 => ?_⟩
    refine ⟨_, rfl, _, rfl, odd, bad, rfl, .inl ⟨(sO.n n1).now, ⟨0, by decide, rfl, ?_⟩⟩⟩
    refine ⟨by show 1 ≤ sizeLine; decide, fun l hl => ?_⟩
    have st := StL.new (T := T) n1 t1 hl [V.str (CamePl 0)]
    generalize upd D1 l (.lst [V.str (CamePl 0)]) = E1 at st ⊢
    clear n1 t1 hl
    -- counts(odd, bad)
    refine ⟨_, rfl, .inl ⟨rfl, _, .inl (.inl st.at_)⟩, st.tabs, fun D1 n1 t1 => ?_⟩
    have s1 := st.n n1 t1
    refine ⟨_, rfl, _, rfl, odd, bad, rfl, .inl ⟨(sO.n s1.keep).now, ⟨0, by decide, rfl, ?_⟩⟩⟩
    refine ⟨l, _, _, rfl, rfl, s1.at_, by show 1 < sizeLine; decide, ?_⟩
    replace st := s1.put ([V.str (CamePl 0)] ++ [V.str (CamePl 0)])
    generalize upd D1 l (.lst ([V.str (CamePl 0)] ++ [V.str (CamePl 0)])) = E2 at st ⊢
    clear n1 t1 s1
    -- list(ways(odd, bad))
    refine ⟨_, rfl, .inl ⟨rfl, _, .inl (.inl st.at_)⟩, st.tabs, fun D1 n1 t1 => ?_⟩
    have s1 := st.n n1 t1
    refine ⟨_, rfl, _, rfl, odd, bad, rfl, .inl ⟨(sO.n s1.keep).now, ⟨⟨0, by decide, rfl, ?_⟩, WX.s0⟩⟩⟩
    refine ⟨l, _, _, rfl, rfl, s1.at_, by show 2 < sizeLine; decide, ?_⟩
    replace st := s1.put (([V.str (CamePl 0)] ++ [V.str (CamePl 0)]) ++ [V.str (CamePl 0)])
    generalize upd D1 l (.lst (([V.str (CamePl 0)] ++ [V.str (CamePl 0)]) ++ [V.str (CamePl 0)])) = E3 at st ⊢
    clear n1 t1 s1
    -- places(odd, bad)
    refine ⟨_, rfl, .inl ⟨rfl, _, .inl (.inl st.at_)⟩, st.tabs, fun D1 n1 t1 => ?_⟩
    have s1 := st.n n1 t1
    refine ⟨_, rfl, _, rfl, odd, bad, rfl, .inl ⟨(sO.n s1.keep).now, ⟨0, by decide, rfl, ?_⟩⟩⟩
    refine ⟨l, _, _, rfl, rfl, s1.at_, by show 3 < sizeLine; decide, ?_⟩
    replace st := s1.put ((([V.str (CamePl 0)] ++ [V.str (CamePl 0)]) ++ [V.str (CamePl 0)]) ++ [V.str (CamePl 0)])
    generalize upd D1 l (.lst ((([V.str (CamePl 0)] ++ [V.str (CamePl 0)]) ++ [V.str (CamePl 0)]) ++ [V.str (CamePl 0)])) = E4 at st ⊢
    clear n1 t1 s1
    -- is_way(odd, bad, None)
    refine ⟨_, rfl, .inl ⟨rfl, _, .inl (.inl st.at_)⟩, st.tabs, fun D1 n1 t1 => ?_⟩
    have s1 := st.n n1 t1
    refine ⟨_, rfl, _, rfl, odd, bad, .non, rfl, .inl ⟨(sO.n s1.keep).now, ⟨0, by decide, rfl, ?_⟩⟩⟩
    refine ⟨l, _, _, rfl, rfl, s1.at_, by show 4 < sizeLine; decide, ?_⟩
    replace st := s1.put (((([V.str (CamePl 0)] ++ [V.str (CamePl 0)]) ++ [V.str (CamePl 0)]) ++ [V.str (CamePl 0)]) ++ [V.str (CamePl 0)])
    generalize upd D1 l (.lst (((([V.str (CamePl 0)] ++ [V.str (CamePl 0)]) ++ [V.str (CamePl 0)]) ++ [V.str (CamePl 0)]) ++ [V.str (CamePl 0)])) = E5 at st ⊢
    clear n1 t1 s1
    -- all of them book
    obtain ⟨W3, eW3⟩ : ∃ W : List Str, W = [Str.ofString "book", Str.ofString "book", Str.ofString "book", Str.ofString "book", Str.ofString "book"] := ⟨_, rfl⟩
    have ok3 : ∀ k ∈ W3, PyData.strOk k = true := by
      rw [eW3]
      decide +kernel
    have eT : E5 l = some (.lst (W3.map V.str)) := by
      rw [eW3]
      exact st.at_
    refine ⟨_, rfl, by show 1 ≤ sizeLine; decide, fun a1 ha1 => ?_⟩
    refine ⟨a1, 5, _, rfl, rfl, upd_same, by decide, by decide, by show 1 * 5 ≤ sizeLine; decide, fun a2 ha2 => ?_⟩
    have x4 : Ext E5 (upd (upd E5 a1 (.lst [V.str (Str.ofString "book")])) a2 (.lst (List.replicate (5 : Int).toNat [V.str (Str.ofString "book")]).flatten)) := ((Ext.refl E5).new ha1).new ha2
    have e4 : (upd (upd E5 a1 (.lst [V.str (Str.ofString "book")])) a2 (.lst (List.replicate (5 : Int).toNat [V.str (Str.ofString "book")]).flatten)) a2 = some (.lst (W3.map V.str)) := by
      rw [eW3]
      exact upd_same
    generalize upd (upd E5 a1 (.lst [V.str (Str.ofString "book")])) a2 (.lst (List.replicate (5 : Int).toNat [V.str (Str.ofString "book")]).flatten) = F0 at x4 e4 ⊢
    refine ⟨.list (W3.map PyData.str), .list (W3.map PyData.str), .lst (SqL.of (x4 _ _ eT)) (dpa_txt W3), .lst (SqL.of e4) (dpa_txt W3), txt_shaped ok3, txt_shaped ok3, _, rfl, ?_⟩
    rw [eqvL_self]
    refine iteF ?_
    have g5 := g5.n (ext_n st.keep x4) (st.tabs.ext x4)
    have bk5 := book_n bk5 (ext_n st.keep x4)
    have sB := sB.n (ext_n st.keep x4)
    clear st x4 e4 eT ok3 eW3 W3 ha1 ha2
    -- count_ways(made, bad)
    refine ⟨g5.tabs, fun D1 n1 t1 => ?_⟩
    refine ⟨_, rfl, _, rfl, .ref b, bad, rfl, .inr ⟨b, x, ws, rfl, book_n bk5 n1, gl, (sB.n n1).now.1, (sB.n n1).now.2.1, fun D2 k2 => ⟨1, by decide, rfl, ?_⟩⟩⟩
    refine ⟨by show 1 ≤ sizeLine; decide, fun l hl => ?_⟩
    have st := StL.new (T := T) (ext_n n1 k2) (t1.ext k2) hl [V.str (CamePl 1)]
    generalize upd D2 l (.lst [V.str (CamePl 1)]) = E1 at st ⊢
    clear n1 t1 hl k2
    -- counts(made, bad)
    refine ⟨_, rfl, .inl ⟨rfl, _, .inl (.inl st.at_)⟩, st.tabs, fun D1 n1 t1 => ?_⟩
    have s1 := st.n n1 t1
    refine ⟨_, rfl, _, rfl, .ref b, bad, rfl, .inr ⟨b, x, ws, rfl, book_n bk5 s1.keep, gl, (sB.n s1.keep).now.1, (sB.n s1.keep).now.2.1, fun D2 k2 => ⟨1, by decide, rfl, ?_⟩⟩⟩
    have s2 := s1.e k2
    refine ⟨l, _, _, rfl, rfl, s2.at_, by show 1 < sizeLine; decide, ?_⟩
    replace st := s2.put ([V.str (CamePl 1)] ++ [V.str (CamePl 1)])
    generalize upd D2 l (.lst ([V.str (CamePl 1)] ++ [V.str (CamePl 1)])) = E2 at st ⊢
    clear n1 t1 s1 k2
    -- list(ways(made, bad))
    refine ⟨_, rfl, .inl ⟨rfl, _, .inl (.inl st.at_)⟩, st.tabs, fun D1 n1 t1 => ?_⟩
    have s1 := st.n n1 t1
    refine ⟨_, rfl, _, rfl, .ref b, bad, rfl, .inr ⟨b, x, ws, rfl, book_n bk5 s1.keep, gl, (sB.n s1.keep).now.1, (sB.n s1.keep).now.2.1, fun D2 k2 => ⟨⟨1, by decide, rfl, ?_⟩, WX.s1⟩⟩⟩
    have s2 := s1.e k2
    refine ⟨l, _, _, rfl, rfl, s2.at_, by show 2 < sizeLine; decide, ?_⟩
    replace st := s2.put (([V.str (CamePl 1)] ++ [V.str (CamePl 1)]) ++ [V.str (CamePl 1)])
    generalize upd D2 l (.lst (([V.str (CamePl 1)] ++ [V.str (CamePl 1)]) ++ [V.str (CamePl 1)])) = E3 at st ⊢
    clear n1 t1 s1 k2
    -- places(made, bad)
    refine ⟨_, rfl, .inl ⟨rfl, _, .inl (.inl st.at_)⟩, st.tabs, fun D1 n1 t1 => ?_⟩
    have s1 := st.n n1 t1
    refine ⟨_, rfl, _, rfl, .ref b, bad, rfl, .inr ⟨b, x, ws, rfl, book_n bk5 s1.keep, gl, (sB.n s1.keep).now.1, (sB.n s1.keep).now.2.1, fun D2 k2 => ⟨1, by decide, rfl, ?_⟩⟩⟩
    have s2 := s1.e k2
    refine ⟨l, _, _, rfl, rfl, s2.at_, by show 3 < sizeLine; decide, ?_⟩
    replace st := s2.put ((([V.str (CamePl 1)] ++ [V.str (CamePl 1)]) ++ [V.str (CamePl 1)]) ++ [V.str (CamePl 1)])
    generalize upd D2 l (.lst ((([V.str (CamePl 1)] ++ [V.str (CamePl 1)]) ++ [V.str (CamePl 1)]) ++ [V.str (CamePl 1)])) = E4 at st ⊢
    clear n1 t1 s1 k2
    -- is_way(made, bad, (0,))
    refine ⟨_, rfl, .inl ⟨rfl, _, .inl (.inl st.at_)⟩, st.tabs, fun D1 n1 t1 => ?_⟩
    have s1 := st.n n1 t1
    refine ⟨_, rfl, _, rfl, by show 1 ≤ sizeLine; decide, fun t0 ht0 => ?_⟩
    have k0 := (Ext.refl D1).new ht0 (o := .tup [.int 0])
    refine ⟨.ref b, bad, .ref t0, rfl, .inr ⟨b, x, ws, rfl, (book_n bk5 s1.keep).ext k0, gl, ((sB.n s1.keep).e k0).now.1, ((sB.n s1.keep).e k0).now.2.1, fun D2 k3 => ⟨1, by decide, rfl, ?_⟩⟩⟩
    have k2 := k0.trans k3
    have s2 := s1.e k2
    refine ⟨l, _, _, rfl, rfl, s2.at_, by show 4 < sizeLine; decide, ?_⟩
    replace st := s2.put (((([V.str (CamePl 1)] ++ [V.str (CamePl 1)]) ++ [V.str (CamePl 1)]) ++ [V.str (CamePl 1)]) ++ [V.str (CamePl 1)])
    generalize upd D2 l (.lst (((([V.str (CamePl 1)] ++ [V.str (CamePl 1)]) ++ [V.str (CamePl 1)]) ++ [V.str (CamePl 1)]) ++ [V.str (CamePl 1)])) = E5 at st ⊢
    clear n1 t1 s1 k2 k0 k3 ht0
    -- all of them text
    obtain ⟨W3, eW3⟩ : ∃ W : List Str, W = [Str.ofString "text", Str.ofString "text", Str.ofString "text", Str.ofString "text", Str.ofString "text"] := ⟨_, rfl⟩
    have ok3 : ∀ k ∈ W3, PyData.strOk k = true := by
      rw [eW3]
      decide +kernel
    have eT : E5 l = some (.lst (W3.map V.str)) := by
      rw [eW3]
      exact st.at_
    refine ⟨_, rfl, by show 1 ≤ sizeLine; decide, fun a1 ha1 => ?_⟩
    refine ⟨a1, 5, _, rfl, rfl, upd_same, by decide, by decide, by show 1 * 5 ≤ sizeLine; decide, fun a2 ha2 => ?_⟩
    have x4 : Ext E5 (upd (upd E5 a1 (.lst [V.str (Str.ofString "text")])) a2 (.lst (List.replicate (5 : Int).toNat [V.str (Str.ofString "text")]).flatten)) := ((Ext.refl E5).new ha1).new ha2
    have e4 : (upd (upd E5 a1 (.lst [V.str (Str.ofString "text")])) a2 (.lst (List.replicate (5 : Int).toNat [V.str (Str.ofString "text")]).flatten)) a2 = some (.lst (W3.map V.str)) := by
      rw [eW3]
      exact upd_same
    generalize upd (upd E5 a1 (.lst [V.str (Str.ofString "text")])) a2 (.lst (List.replicate (5 : Int).toNat [V.str (Str.ofString "text")]).flatten) = G0 at x4 e4 ⊢
    refine ⟨.list (W3.map PyData.str), .list (W3.map PyData.str), .lst (SqL.of (x4 _ _ eT)) (dpa_txt W3), .lst (SqL.of e4) (dpa_txt W3), txt_shaped ok3, txt_shaped ok3, _, rfl, ?_⟩
    rw [eqvL_self]
    refine iteF ?_
    have g5 := g5.n (ext_n st.keep x4) (st.tabs.ext x4)
    have bk5 := book_n bk5 (ext_n st.keep x4)
    have sB := sB.n (ext_n st.keep x4)
    clear st x4 e4 eT ok3 eW3 W3 ha1 ha2
    -- the empty text
    have sBn := sB.now
    have e0 : Str.ofString "" = nulS := rfl
    have few4 : ws.length ≤ 400 := by omega
    have inN : ∀ c ∈ cs nulS, c ∈ cs x := fun c m => by
      rw [nul_cs] at m
      cases m
    have l0 : nulS.length ≤ 4000 := by decide +kernel
    have bt := bt_of (K := K) bk5 abc lo few4 inN l0
    refine ⟨_, rfl, _, rfl, b, ws, nulS, bad, rfl, bt, sBn.2.2, fun F4 k4 => ?_⟩
    refine ⟨.bl false, .bool false, rfl, .dat (.bl false), by decide +kernel, by decide +kernel, by decide +kernel, rfl, _, rfl, ?_⟩
    refine iteT ⟨_, rfl, by show 1 ≤ sizeLine; decide, fun t0 ht0 => ?_⟩
    have k5 := (Ext.refl F4).new ht0 (o := .tup [.int 0])
    have ee0 : (upd F4 t0 (.tup [.int 0])) t0 = some (.tup [.int 0]) := upd_same
    generalize upd F4 t0 (.tup [.int 0]) = F5 at k5 ee0 ⊢
    have k45 := k4.trans k5
    refine ⟨b, ws, nulS, .ref t0, rfl, bt.ext k45, .inr ⟨t0, [.int 0], rfl, SqT.of ee0, by decide, fun u mu => by rw [List.mem_singleton.mp mu]; trivial, fun F7 k7 => ?_⟩⟩
    rw [way_nul FR]
    have k47 := k45.trans k7
    refine ⟨_, rfl, iteT ?_⟩
    refine ⟨_, rfl, b, ws, nulS, rfl, bt.ext k47, fun p8 F8 k8 ep8 => ?_⟩
    rw [cnt_nul FR] at ep8
    have k48 := k47.trans k8
    refine ⟨by show 1 ≤ sizeLine; decide, fun t5 ht5 => ?_⟩
    have k9 := (Ext.refl F8).new ht5 (o := .tup [.int 1])
    have e5 : (upd F8 t5 (.tup [.int 1])) t5 = some (.tup [.int 1]) := upd_same
    generalize upd F8 t5 (.tup [.int 1]) = F9 at k9 e5 ⊢
    refine ⟨.tuple [.int 1], .tuple [.int 1], .tup (SqT.of (k9 _ _ ep8)) (.cons (.int _) .nil), .tup (SqT.of e5) (.cons (.int _) .nil), by decide +kernel, by decide +kernel, ?_⟩
    rw [show PyData.eqv (.tuple [.int 1]) (.tuple [.int 1]) = true by decide +kernel]
    exact q _ (g5.e (k48.trans k9))
end
end B17

/-! the law -/
namespace B17
open PySem PySem.Spec PyProof.Rows L2 XSt NX XB XE LamX XNil XBk XFd XWy XMt
open PySem.W (Frag)
abbrev sLaw : Stmt := top 63
def spLaw (T : List (Addr × Str)) (K : Frag) : Sp := fun vs H Q _ => ∃ (a : Addr) (ns : List Int), vs = [.ref a] ∧ SqL K H a (ns.map V.int) ∧ ns.length ≤ 63 ∧ Tabs T H ∧ ∀ H', Q (.bl true) H'
def S (s : String) : Str := Str.ofString s
def twoW : List Str := unif sAB 2
theorem two_free : Free2 twoW := ⟨fun k m => by rw [(unif_mem m).1]; decide, pre_same fun k m => (unif_mem m).1, suf_same fun k m => (unif_mem m).1, asc_nodup (unif_asc abc_ab.asc 2)⟩
theorem two_has : ∀ u ∈ [97, 98], ∀ v ∈ [97, 98], (⟨#[u, v]⟩ : Str) ∈ twoW := by decide +kernel
/-- a long text of the two letters -/
structure Long (z : Str) : Prop where
  len : z.length = 4000
  ab : ∀ c ∈ cs z, c = 97 ∨ c = 98
theorem long_ab : Long (Txt.mul (Str.ofString "ab") ((2000 : Nat) : Int)) := by
  have e2 : cs (Str.ofString "ab") = [97, 98] := by decide +kernel
  refine ⟨?_, fun c m => ?_⟩
  · rw [← cs_len, mul_size (by decide +kernel) (by decide), e2]
    rfl
  · have z := mul_in (by decide +kernel) (by decide) c m
    rw [e2] at z
    simpa using z
theorem long_b : Long (Txt.mul (Str.ofString "b") ((4000 : Nat) : Int)) := by
  have e2 : cs (Str.ofString "b") = [98] := by decide +kernel
  refine ⟨?_, fun c m => ?_⟩
  · rw [← cs_len, mul_size (by decide +kernel) (by decide), e2]
    rfl
  · have z := mul_in (by decide +kernel) (by decide) c m
    rw [e2] at z
    exact .inr (by simpa using z)
section
variable {z : Str}
theorem Long.mem (L : Long z) : ∀ c ∈ cs z, c ∈ cs sAB := fun c m => in_ab c (L.ab c m)
theorem Long.bt (L : Long z) {K : Frag} {C : Addr} {H : Hp} {b : Addr} {ws : List Str} (bk : BookAt H b C sAB ws) (F : Free2 ws) (few : ws.length ≤ 400) : BT K C H b ws z :=
  ⟨sAB, bk, abc_ab.good, ⟨by rw [L.len]; decide, strOk_of abc_ab.ok L.mem⟩, text_in L.mem (by rw [L.len]; decide), ⟨F, few, by rw [L.len]; decide⟩⟩
theorem fil_two (p : Nat → Bool) (n : Nat) (h0 : p 0 = true) (h1 : p 1 = true) (h : ∀ i, 2 ≤ i → i < n + 2 → p i = false) : (List.range (n + 2)).filter p = [0, 1] := by
  rw [List.range_succ_eq_map, List.range_succ_eq_map, List.filter_cons, h0, List.map_cons, List.filter_cons, h1]
  have e : List.filter p (List.map Nat.succ (List.map Nat.succ (List.range n))) = [] := by
    rw [List.filter_eq_nil_iff]
    intro i m
    obtain ⟨a, ma, rfl⟩ := List.mem_map.mp m
    obtain ⟨b, mb, rfl⟩ := List.mem_map.mp ma
    have := List.mem_range.mp mb
    rw [h _ (by omega) (by omega)]
    decide
  rw [e]
  rfl
theorem shut_short {i : Nat} (h : i ≤ 1) : XWy.shutB twoW ((cs z).take i) = false := by
  rw [← Bool.not_eq_true, shut_iff]
  rintro ⟨w, m, p⟩
  have l := p.length_le
  have := (unif_mem m).1
  rw [cs_len, List.length_take] at l
  omega
theorem shut_long (ab : ∀ c ∈ cs z, c = 97 ∨ c = 98) {i : Nat} (h : 2 ≤ i) (hi : i ≤ (cs z).length) : XWy.shutB twoW ((cs z).take i) = true := by
  rw [shut_iff]
  obtain ⟨m, rfl⟩ : ∃ m, i = m + 2 := ⟨i - 2, by omega⟩
  have g1 : m < (cs z).length := by omega
  have g2 : m + 1 < (cs z).length := by omega
  have a1 := ab _ (List.getElem_mem g1)
  have a2 := ab _ (List.getElem_mem g2)
  refine ⟨⟨#[(cs z)[m], (cs z)[m + 1]]⟩, two_has _ (by rcases a1 with e | e <;> rw [e] <;> decide) _ (by rcases a2 with e | e <;> rw [e] <;> decide), ?_⟩
  refine ⟨(cs z).take m, ?_⟩
  show (cs z).take m ++ [(cs z)[m], (cs z)[m + 1]] = _
  rw [List.take_succ_eq_append_getElem g2, List.take_succ_eq_append_getElem g1, List.append_assoc]
  rfl
theorem Long.two (L : Long z) : (headsL twoW (cs z)).length = 2 := by
  have l : (cs z).length = 3999 + 1 := by rw [cs_len, L.len]
  unfold headsL
  rw [l, fil_two _ 3999 (by rw [shut_short (by decide)]; rfl) (by rw [shut_short (by decide)]; rfl) fun i h1 h2 => by rw [shut_long L.ab h1 (by omega)]; rfl]
  rfl
theorem Long.spots (L : Long z) : (spotsL twoW (cs z)).length = 3999 := by
  have a := heads_found two_free z
  rw [L.two, L.len] at a
  rw [spots_len two_free]
  omega
theorem nil_free : Free2 [] := ⟨fun _ m => (by cases m), fun _ m => (by cases m), fun _ m => (by cases m), List.Pairwise.nil⟩
theorem Long.all (L : Long z) : (headsL [] (cs z)).length = 4001 := by
  unfold headsL
  have e : (List.range ((cs z).length + 1)).filter (fun i => !XWy.shutB [] ((cs z).take i)) = List.range ((cs z).length + 1) := List.filter_eq_self.mpr fun _ _ => rfl
  rw [e, List.length_range, cs_len, L.len]
end
def toldD : PyData := .list [.int 2, .int 3999, .int 4001]
theorem told_ok : SeqAt.shaped toldD = true := by decide +kernel
section
variable {P : Program} {w : World} {K : Frag} {mg : Str → Option Value} {base : Heap} {f c tb g C : Addr} {fd : FuncData} {cl : Nat → Addr} {T : List (Addr × Str)}
theorem scLaw : FnScope ["script", "at", "jug", "pairs"] ["script"] (defScope sLaw) := ⟨rfl, rfl, rfl, by decide +kernel, rfl, by decide +kernel, by decide +kernel⟩
theorem ok_law (F : FnP K "law" sLaw f fd) (Cd : CodeAt K f c) (M : Free mg) (mR : mg "range" = none) (mX : mg "max" = none) (mN : mg "min" = none) (WX : CtX P w K mg base C cl)
    (DJ : Def P w K mg base CX0 1 "_law_jug" ["script", "at"] (spJug K)) (DR : DefG P w K mg base CX0 13 "_law_right" ["jug"] (spRight T))
    (DCW : Def P w K mg base CX0 6 "count_ways" ["book", "text"] (spCount K C)) (DPL : Def P w K mg base CX0 6 "places" ["book", "text"] (spPlacesA K C)) :
    FnG P w K mg base CX0 14 f fd ["script"] (spLaw T K) := by
  have B := WX.B
  have gB := WX.gB
  obtain ⟨fI, dI, MK, FI, bI⟩ := WX.make
  obtain ⟨fJ, dJ, FJ, gJ, kJ, bJ⟩ := DJ.ex
  obtain ⟨fR, dR, FR, gR, kR, bR⟩ := DR.ex
  obtain ⟨fCW, dCW, FCW, gCW, kCW, bCW⟩ := DCW.ex
  obtain ⟨fPL, dPL, FPL, gPL, kPL, bPL⟩ := DPL.ex
  obtain ⟨pu, gu, du, CM, CR, FU, bU⟩ := WX.uni
  refine okG F Cd scLaw (fun vs H Q E h => ?_) (fun A outer s H vs Q E hg hr h => ?_)
  · obtain ⟨a, ns, rfl, _⟩ := h
    rfl
  · obtain ⟨a, ns, rfl, sq, few, hT, q⟩ := h
    have hs : sizeLine = 16777216 := sizeLine_eq
    refine ⟨_, PSs.nox (pss_cons (ps_for PassesOwn.never rfl (pi_range1 (by rfl) mR (pa_cons (pe_callB (call_max2 rfl) (by rfl) mX (by decide +kernel) (pa_cons pe_int (pa_cons (pe_callB (call_min2 rfl) (by rfl) mN (by decide +kernel) (pa_cons pe_int (pa_cons (pe_callB call_len_seq (by rfl) M.len PySem.boot_len (pa_cons (pv 0) pa_nil)) pa_nil))) pa_nil))) pa_nil)) (pg_name (i := 1) scLaw.nd rfl (.inl rfl)) (pss_cons (ps_set (i := 2) scLaw.nd rfl (.inl rfl) (pe_call FJ (hr.mono (by decide)) (by rfl) gJ kJ bJ .nil pass0 (pa_cons (pv 0) (pa_cons (pv 1) (pa_nil)))))
      (pss_one (ps_if (PW.pt (pw_or (pt_not (pt_val (pe_callG FR hg (hr.mono (by decide)) (by rfl) gR kR bR pass0 (pa_cons (pv 2) pa_nil)))) (pw_or1 (pt_not (pt_val (pe_callG FR hg (hr.mono (by decide)) (by rfl) gR kR bR pass0 (pa_cons (pv 2) pa_nil))))))) (pss_one (ps_ret pe_bl)) pss_nil))))
      (pss_cons (ps_set (i := 3) scLaw.nd rfl (.inl rfl) (ClX.pe_cmeth (pe_glob (v := .ref C) (by rfl) gB rfl) CR CM (raw0 FU bU) (hr.mono (by decide)) pass0 (pa_cons pe_str (pa_cons pe_int pa_nil))))
      (pss_one (ps_ret (pe_cmpR (op_eqD hr.units) (pe_lst (pa_cons (pe_call FCW (hr.mono (by decide)) (by rfl) gCW kCW bCW .nil pass0 (pa_cons (pv 3) (pa_cons (pe_op op_mulS pe_str pe_int) (pa_nil)))) (pa_cons (pe_callB call_len_seq (by rfl) M.len PySem.boot_len (pa_cons (pe_call FPL (hr.mono (by decide)) (by rfl) gPL kPL bPL .nil pass0 (pa_cons (pv 3) (pa_cons (pe_op op_mulS pe_str pe_int) (pa_nil)))) pa_nil)) (pa_cons (pe_call FCW (hr.mono (by decide)) (by rfl) gCW kCW bCW .nil pass0 (pa_cons (pe_make MK FI (hr.mono (by decide)) (by rfl) gB bI .nil pass0 (pa_cons pe_str (pa_cons (pe_tup pa_nil) pa_nil))) (pa_cons (pe_op op_mulS pe_str pe_int) (pa_nil)))) (pa_nil))))) (pe_lst (pa_cons (pe_int) (pa_cons (pe_int) (pa_cons (pe_int) (pa_nil))))) (nomark _)))))), ?_⟩
    refine ⟨_, rfl, a, _, rfl, .inl sq, _, _, rfl, _, _, rfl, _, rfl, by (repeat' split) <;> omega, by (repeat' split) <;> omega, ?_⟩
    refine for_range (fun i σ H2 => (∃ o1 o2 o3, σ = [some (.ref a), o1, o2, o3]) ∧ ExtN H H2 ∧ Tabs T H2) ⟨⟨_, _, _, rfl⟩, ExtN.refl _, hT⟩ ?_ ?_
    · rintro i σ H2 hi ⟨⟨o1, o2, o3, rfl⟩, n2, t2⟩
      refine ⟨_, rfl, _, rfl, a, ns, i, by show [V.ref a, V.int (0 + (i : Int))] = _; rw [Int.zero_add], sqL_n n2 sq, fun j H3 hj k3 jug3 => ?_⟩
      have back : ∀ Hx, Go T j H3 Hx → ExtN H Hx := fun Hx gx b o e nt => gx.keep b o (ne_of_none (n2 b o e nt) hj) nt (k3 _ _ (n2 b o e nt))
      refine ⟨_, rfl, j, rfl, jug3, t2.ext k3, fun H4 g4 => ⟨_, rfl, iteF ?_⟩⟩
      exact ⟨_, rfl, j, rfl, g4.jug, g4.tabs, fun H5 g5 => ⟨_, rfl, iteF ⟨⟨_, _, _, rfl⟩, back _ (g4.trans g5), (g4.trans g5).tabs⟩⟩⟩
    · rintro σ H2 ⟨⟨o1, o2, o3, rfl⟩, n2, t2⟩
      clear sq n2
      refine ⟨rfl, sAB, 2, rfl, abc_ab, by decide, by decide, fun i hi => Nat.le_trans (Nat.pow_le_pow_right (by decide +kernel) hi) (by decide +kernel), fun b H3 hb x3 bk => ?_⟩
      clear t2 x3 hb
      have two_few : twoW.length ≤ 400 := by decide +kernel
      have LA := long_ab
      have LB := long_b
      refine ⟨_, rfl, Str.ofString "ab", 2000, rfl, rfl, by decide +kernel, by decide +kernel, by decide, ?_⟩
      generalize ela : Txt.mul (Str.ofString "ab") ((2000 : Nat) : Int) = la at LA ⊢
      refine ⟨b, twoW, la, rfl, LA.bt bk two_free two_few, fun H4 k4 => ?_⟩
      rw [LA.two]
      refine ⟨_, rfl, Str.ofString "ab", 2000, rfl, rfl, by decide +kernel, by decide +kernel, by decide, ?_⟩
      rw [ela]
      refine ⟨b, twoW, la, rfl, LA.bt (bk.ext k4) two_free two_few, fun p ts H5 k5 ep prs => ?_⟩
      refine ⟨p, _, rfl, .inr (SqT.of ep), ?_⟩
      rw [List.length_map, prs.1, LA.spots]
      clear prs ep LA
      refine ⟨by show 0 ≤ sizeLine; decide, fun t0 ht0 => ?_⟩
      have xa := (Ext.refl H5).new ht0 (o := .tup [])
      have ea : (upd H5 t0 (.tup [])) t0 = some (.tup []) := upd_same
      generalize upd H5 t0 (.tup []) = Bb at xa ea ⊢
      intro b2 dx hb hdx ndx
      have nt := ne_of_none ea hb
      have ntx := ne_of_none ea hdx
      have nord : ordT [] = [] := by
        have := ordT_len []
        exact List.eq_nil_of_length_eq_zero (Nat.le_zero.mp this)
      refine ⟨b2, dx, t0, sAB, [], rfl, upd_same, abc_ab.good, SqT.of (by rw [upd_ne nt, upd_ne ntx]; exact ea), nt, fun _ m => (by cases m), by decide, by rw [nord]; decide, fun _ m => (by cases m), fun _ m => (by cases m), fun H6 off bk2 => ⟨rfl, ?_⟩⟩
      rw [nord] at bk2
      clear off hb hdx ndx nt ntx xa ea ht0
      refine ⟨Str.ofString "b", 4000, rfl, rfl, by decide +kernel, by decide +kernel, by decide, ?_⟩
      generalize Txt.mul (Str.ofString "b") ((4000 : Nat) : Int) = lb at LB ⊢
      refine ⟨b2, [], lb, rfl, LB.bt bk2 nil_free (by decide), fun H7 k7 => ?_⟩
      rw [LB.all]
      refine ⟨by show 3 ≤ sizeLine; decide, fun l1 hl1 => ?_⟩
      have x1 := (Ext.refl H7).new hl1 (o := .lst [.int ((2 : Nat) : Int), .int ((3999 : Nat) : Int), .int ((4001 : Nat) : Int)])
      have e1 : (upd H7 l1 (.lst [.int ((2 : Nat) : Int), .int ((3999 : Nat) : Int), .int ((4001 : Nat) : Int)])) l1 = some (.lst [.int 2, .int 3999, .int 4001]) := upd_same
      show (fun Hz => _) (upd H7 l1 (.lst [.int ((2 : Nat) : Int), .int ((3999 : Nat) : Int), .int ((4001 : Nat) : Int)]))
      generalize upd H7 l1 (.lst [.int ((2 : Nat) : Int), .int ((3999 : Nat) : Int), .int ((4001 : Nat) : Int)]) = H8 at x1 e1 ⊢
      refine ⟨by show 3 ≤ sizeLine; decide, fun l2 hl2 => ?_⟩
      have x2 := (Ext.refl H8).new hl2 (o := .lst [.int 2, .int 3999, .int 4001])
      refine ⟨toldD, toldD, .lst (SqL.of (x2 _ _ e1)) (.cons (.int _) (.cons (.int _) (.cons (.int _) .nil))), .lst (SqL.of upd_same) (.cons (.int _) (.cons (.int _) (.cons (.int _) .nil))), told_ok, told_ok, ?_⟩
      rw [sh_self told_ok]
      exact q _
end
end B17

namespace B17
open PySem PySem.Spec PyProof.Rows L2 XB LamX XE
open PySem.W (Frag)
theorem clsChk_ok {K : Frag} {C : Addr} (c : Cls K C) (nl : NoAttr K C "_letters") (nw : NoAttr K C "_words") (nk : NoAttr K C "_known") (h : clsChk K C = true) : BookK K C := by
  obtain ⟨h1, h⟩ := He.ba h
  obtain ⟨h2, h⟩ := He.ba h
  obtain ⟨h3, h⟩ := He.ba h
  obtain ⟨h4, h⟩ := He.ba h
  obtain ⟨h5, h⟩ := He.ba h
  obtain ⟨h6, h7⟩ := He.ba h
  refine ⟨c, nl, nw, nk, He.eqO_ok h1, He.eqO_ok h2, of_decide_eq_true h3, of_decide_eq_true h4, of_decide_eq_true h5, of_decide_eq_true h6, fun T hT => ?_⟩
  obtain ⟨a, b⟩ := He.ba (List.all_eq_true.mp h7 T hT)
  exact ⟨of_decide_eq_true a, b⟩
theorem plain_ok {K : Frag} {mg : Str → Option Value} {x : Str} (at_ : mg x = some (.ref (He.ga K x))) (h : (He.Fa.exc x).ok K = true) : Plain K mg x (He.ga K x) := by
  have h : (PySem.W.excIn K (He.ga K x) He.veBase "ValueError.__new__" && (PySem.W.keepIn K (.ref (He.ga K x)) && (decide (PySem.W.subIn K (.ref (He.ga K x)) (.type "BaseException") = some true) && decide (PySem.W.typeIn K (.ref (He.ga K x)) = some (.type "type"))))) = true := h
  obtain ⟨h1, h⟩ := He.ba h
  obtain ⟨h2, h⟩ := He.ba h
  obtain ⟨h3, h4⟩ := He.ba h
  exact ⟨at_, h2, h1, of_decide_eq_true h3, of_decide_eq_true h4⟩
theorem codeAt {K : Frag} {x qual : Str} {params : Arguments} {body : List Stmt} {scope : Scope} {dvs : List V} {kws : List (Str × V)} {p : He.Defn} {fd : FuncData} (F : FunD K x qual params body scope dvs kws (He.fAd K p) fd) : CodeAt K (He.fAd K p) (He.cT K p).1 := by
  obtain ⟨oc, od, dV, kV, doc, pm, an, cdv, ct, osl, rfl, lk, hcd, _, _⟩ := F.ex
  obtain ⟨c, rfl⟩ := He.codeIn_ref hcd
  intro oc' od' fd' osl' lk'
  have e : He.codeOf K p = c := He.codeOf_eq lk rfl
  rw [lk] at lk'
  cases lk'
  show (Value.ref c) = .ref (He.codeOf K p)
  rw [e]
theorem inT0 : (("_law_right", none) : He.Defn) ∈ tf := by simp [tf]
theorem inT1 : (("law", none) : He.Defn) ∈ tf := by simp [tf]
set_option maxHeartbeats 0 in
theorem all_facts {P : Program} {w : World} {K : Frag} {h : Heap} {mg : Str → Option Value} {f : Addr} (X : K.In h) (G : h.Ns mainGlobals mg) (hfa : mg ("law" : Str) = some (.ref f)) (c : HP.SaysPX fa fn gs tf ex w h K) :
    ∃ fd : FuncData, (∀ (s : Shared) (v : Value), BindsTo s fd ⟨[v], []⟩ [("script", v)]) ∧ ∀ base : Heap, K.In base → base.Ns mainGlobals mg → (∀ p ∈ tf.map (He.cT K), TabB base mg p.1 p.2) → FnG P w K mg base CX0 14 f fd ["script"] (spLaw (HP.tabsOf tf K) K) := by
  have cd := c.x.t.d
  obtain ⟨dBit, FBit⟩ := cd.def_ 0 (d := dG "_law_bit" sBit) rfl
  have bBit : Binds K dBit ["jug", "much"] [] := FunD.bindsN FBit fun _ _ _ _ _ _ us hl => match us, hl with | [_, _], _ => rfl
  obtain ⟨dJug, FJug⟩ := cd.def_ 1 (d := dG "_law_jug" sJug) rfl
  have bJug : Binds K dJug ["script", "at"] [] := FunD.bindsN FJug fun _ _ _ _ _ _ us hl => match us, hl with | [_, _], _ => rfl
  obtain ⟨dDealt, FDealt⟩ := cd.def_ 2 (d := dG "_law_dealt" sDealt) rfl
  have bDealt : Binds K dDealt ["jug", "items"] [] := FunD.bindsN FDealt fun _ _ _ _ _ _ us hl => match us, hl with | [_, _], _ => rfl
  obtain ⟨dIsInteger, FIsInteger⟩ := cd.def_ 3 (d := dG "is_integer" sIsInteger) rfl
  have bIsInteger : Binds K dIsInteger ["value"] [] := FunD.bindsN FIsInteger fun _ _ _ _ _ _ us hl => match us, hl with | [_], _ => rfl
  obtain ⟨dIsLetters, FIsLetters⟩ := cd.def_ 4 (d := dG "is_letters" sIsLetters) rfl
  have bIsLetters : Binds K dIsLetters ["value"] [] := FunD.bindsN FIsLetters fun _ _ _ _ _ _ us hl => match us, hl with | [_], _ => rfl
  obtain ⟨dIsSpelled, FIsSpelled⟩ := cd.def_ 5 (d := dG "_is_spelled" sIsSpelled) rfl
  have bIsSpelled : Binds K dIsSpelled ["letters", "value"] [] := FunD.bindsN FIsSpelled fun _ _ _ _ _ _ us hl => match us, hl with | [_, _], _ => rfl
  obtain ⟨dOrdered, FOrdered⟩ := cd.def_ 6 (d := dG "ordered" sOrdered) rfl
  have bOrdered : Binds K dOrdered ["texts"] [] := FunD.bindsN FOrdered fun _ _ _ _ _ _ us hl => match us, hl with | [_], _ => rfl
  obtain ⟨dCheckLetters, FCheckLetters⟩ := cd.def_ 7 (d := dG "check_letters" sCheckLetters) rfl
  have bCheckLetters : Binds K dCheckLetters ["letters"] [] := FunD.bindsN FCheckLetters fun _ _ _ _ _ _ us hl => match us, hl with | [_], _ => rfl
  obtain ⟨dIsText, FIsText⟩ := cd.def_ 8 (d := dG "is_text" sIsText) rfl
  have bIsText : Binds K dIsText ["letters", "value"] [] := FunD.bindsN FIsText fun _ _ _ _ _ _ us hl => match us, hl with | [_, _], _ => rfl
  obtain ⟨dCheckText, FCheckText⟩ := cd.def_ 9 (d := dG "check_text" sCheckText) rfl
  have bCheckText : Binds K dCheckText ["letters", "text"] [] := FunD.bindsN FCheckText fun _ _ _ _ _ _ us hl => match us, hl with | [_, _], _ => rfl
  obtain ⟨dIsWordOf, FIsWordOf⟩ := cd.def_ 10 (d := dG "_is_word_of" sIsWordOf) rfl
  have bIsWordOf : Binds K dIsWordOf ["letters", "value"] [] := FunD.bindsN FIsWordOf fun _ _ _ _ _ _ us hl => match us, hl with | [_, _], _ => rfl
  obtain ⟨dOrderedWords, FOrderedWords⟩ := cd.def_ 11 (d := dG "ordered_words" sOrderedWords) rfl
  have bOrderedWords : Binds K dOrderedWords ["letters", "words"] [] := FunD.bindsN FOrderedWords fun _ _ _ _ _ _ us hl => match us, hl with | [_, _], _ => rfl
  obtain ⟨dSomeBegins, FSomeBegins⟩ := cd.def_ 12 (d := dG "_some_begins" sSomeBegins) rfl
  have bSomeBegins : Binds K dSomeBegins ["words"] [] := FunD.bindsN FSomeBegins fun _ _ _ _ _ _ us hl => match us, hl with | [_], _ => rfl
  obtain ⟨dFirstClash, FFirstClash⟩ := cd.def_ 13 (d := dG "first_clash" sFirstClash) rfl
  have bFirstClash : Binds K dFirstClash ["words"] [] := FunD.bindsN FFirstClash fun _ _ _ _ _ _ us hl => match us, hl with | [_], _ => rfl
  obtain ⟨dCheckNumber, FCheckNumber⟩ := cd.def_ 14 (d := dG "check_number" sCheckNumber) rfl
  have bCheckNumber : Binds K dCheckNumber ["value", "low", "high"] [] := FunD.bindsN FCheckNumber fun _ _ _ _ _ _ us hl => match us, hl with | [_, _, _], _ => rfl
  obtain ⟨dCheckBook, FCheckBook⟩ := cd.def_ 15 (d := dG "check_book" sCheckBook) rfl
  have bCheckBook : Binds K dCheckBook ["book"] [] := FunD.bindsN FCheckBook fun _ _ _ _ _ _ us hl => match us, hl with | [_], _ => rfl
  obtain ⟨dPlacesIn, FPlacesIn⟩ := cd.def_ 16 (d := dG "places_in" sPlacesIn) rfl
  have bPlacesIn : Binds K dPlacesIn ["words", "text"] [] := FunD.bindsN FPlacesIn fun _ _ _ _ _ _ us hl => match us, hl with | [_, _], _ => rfl
  obtain ⟨dWordsAt, FWordsAt⟩ := cd.def_ 17 (d := dG "words_at" sWordsAt) rfl
  have bWordsAt : Binds K dWordsAt ["book", "text"] [] := FunD.bindsN FWordsAt fun _ _ _ _ _ _ us hl => match us, hl with | [_, _], _ => rfl
  obtain ⟨dRowFrom, FRowFrom⟩ := cd.def_ 18 (d := dG "row_from" sRowFrom) rfl
  have bRowFrom : Binds K dRowFrom ["found", "start"] [] := FunD.bindsN FRowFrom fun _ _ _ _ _ _ us hl => match us, hl with | [_, _], _ => rfl
  obtain ⟨dWordsAhead, FWordsAhead⟩ := cd.def_ 19 (d := dG "words_ahead" sWordsAhead) rfl
  have bWordsAhead : Binds K dWordsAhead ["found"] [] := FunD.bindsN FWordsAhead fun _ _ _ _ _ _ us hl => match us, hl with | [_], _ => rfl
  obtain ⟨dCountWays, FCountWays⟩ := cd.def_ 20 (d := dG "count_ways" sCountWays) rfl
  have bCountWays : Binds K dCountWays ["book", "text"] [] := FunD.bindsN FCountWays fun _ _ _ _ _ _ us hl => match us, hl with | [_, _], _ => rfl
  obtain ⟨dCounts, FCounts⟩ := cd.def_ 21 (d := dG "counts" sCounts) rfl
  have bCounts : Binds K dCounts ["book", "text"] [] := FunD.bindsN FCounts fun _ _ _ _ _ _ us hl => match us, hl with | [_, _], _ => rfl
  obtain ⟨dPlaces, FPlaces⟩ := cd.def_ 22 (d := dG "places" sPlaces) rfl
  have bPlaces : Binds K dPlaces ["book", "text"] [] := FunD.bindsN FPlaces fun _ _ _ _ _ _ us hl => match us, hl with | [_, _], _ => rfl
  obtain ⟨dSorted, FSorted⟩ := cd.def_ 23 (d := dG "_law_sorted" sSorted) rfl
  have bSorted : Binds K dSorted ["lot"] [] := FunD.bindsN FSorted fun _ _ _ _ _ _ us hl => match us, hl with | [_], _ => rfl
  obtain ⟨dPick, FPick⟩ := cd.def_ 24 (d := dG "_law_pick" sPick) rfl
  have bPick : Binds K dPick ["jug", "items"] [] := FunD.bindsN FPick fun _ _ _ _ _ _ us hl => match us, hl with | [_, _], _ => rfl
  obtain ⟨dSigns, FSigns⟩ := cd.def_ 25 (d := dG "_law_signs" sSigns) rfl
  have bSigns : Binds K dSigns ["jug"] [] := FunD.bindsN FSigns fun _ _ _ _ _ _ us hl => match us, hl with | [_], _ => rfl
  obtain ⟨dLine, FLine⟩ := cd.def_ 26 (d := dG "_law_line" sLine) rfl
  have bLine : Binds K dLine ["jug", "signs", "most"] [] := FunD.bindsN FLine fun _ _ _ _ _ _ us hl => match us, hl with | [_, _, _], _ => rfl
  obtain ⟨dMeet, FMeet⟩ := cd.def_ 27 (d := dG "_law_meet" sMeet) rfl
  have bMeet : Binds K dMeet ["one", "two"] [] := FunD.bindsN FMeet fun _ _ _ _ _ _ us hl => match us, hl with | [_, _], _ => rfl
  obtain ⟨dLot, FLot⟩ := cd.def_ 28 (d := dG "_law_lot" sLot) rfl
  have bLot : Binds K dLot ["jug", "signs", "much", "most"] [] := FunD.bindsN FLot fun _ _ _ _ _ _ us hl => match us, hl with | [_, _, _, _], _ => rfl
  obtain ⟨dSpots, FSpots⟩ := cd.def_ 29 (d := dG "_law_spots" sSpots) rfl
  have bSpots : Binds K dSpots ["lot", "line"] [] := FunD.bindsN FSpots fun _ _ _ _ _ _ us hl => match us, hl with | [_, _], _ => rfl
  obtain ⟨dMuch, FMuch⟩ := cd.def_ 30 (d := dG "_law_much" sMuch) rfl
  have bMuch : Binds K dMuch ["lot", "line"] [] := FunD.bindsN FMuch fun _ _ _ _ _ _ us hl => match us, hl with | [_, _], _ => rfl
  obtain ⟨dGrown, FGrown⟩ := cd.def_ 31 (d := dG "_law_grown" sGrown) rfl
  have bGrown : Binds K dGrown ["signs", "core", "deep", "most"] [] := FunD.bindsN FGrown fun _ _ _ _ _ _ us hl => match us, hl with | [_, _, _, _], _ => rfl
  obtain ⟨dBookBy, FBookBy⟩ := cd.def_ 32 (d := dG "_law_book_by" sBookBy) rfl
  have bBookBy : Binds K dBookBy ["signs", "core", "deep", "inner"] [] := FunD.bindsN FBookBy fun _ _ _ _ _ _ us hl => match us, hl with | [_, _, _, _], _ => rfl
  obtain ⟨dFull, FFull⟩ := cd.def_ 33 (d := dG "_law_full" sFull) rfl
  have bFull : Binds K dFull ["jug", "signs", "most"] [] := FunD.bindsN FFull fun _ _ _ _ _ _ us hl => match us, hl with | [_, _, _], _ => rfl
  obtain ⟨dSomeBook, FSomeBook⟩ := cd.def_ 34 (d := dG "_law_some_book" sSomeBook) rfl
  have bSomeBook : Binds K dSomeBook ["jug", "signs"] [] := FunD.bindsN FSomeBook fun _ _ _ _ _ _ us hl => match us, hl with | [_, _], _ => rfl
  obtain ⟨dWays, FWays⟩ := cd.def_ 35 (d := dG "ways" sWays) rfl
  have bWays : Binds K dWays ["book", "text"] [] := FunD.bindsN FWays fun _ _ _ _ _ _ us hl => match us, hl with | [_, _], _ => rfl
  obtain ⟨dCutsFrom, FCutsFrom⟩ := cd.def_ 36 (d := dG "_cuts_from" sCutsFrom) rfl
  have bCutsFrom : Binds K dCutsFrom ["found", "start"] [] := FunD.bindsN FCutsFrom fun _ _ _ _ _ _ us hl => match us, hl with | [_, _], _ => rfl
  obtain ⟨dIsWay, FIsWay⟩ := cd.def_ 37 (d := dG "is_way" sIsWay) rfl
  have bIsWay : Binds K dIsWay ["book", "text", "value"] [] := FunD.bindsN FIsWay fun _ _ _ _ _ _ us hl => match us, hl with | [_, _, _], _ => rfl
  obtain ⟨dCame, FCame⟩ := cd.def_ 38 (d := dG "_law_came" sCame) rfl
  have bCame : Binds K dCame ["call_it"] [] := FunD.bindsN FCame fun _ _ _ _ _ _ us hl => match us, hl with | [_], _ => rfl
  obtain ⟨dRight, FRight⟩ := cd.def_ 39 (d := dG "_law_right" sRight) rfl
  have bRight : Binds K dRight ["jug"] [] := FunD.bindsN FRight fun _ _ _ _ _ _ us hl => match us, hl with | [_], _ => rfl
  obtain ⟨dLaw, FLaw⟩ := cd.def_ 40 (d := dG "law" sLaw) rfl
  have bLaw : Binds K dLaw ["script"] [] := FunD.bindsN FLaw fun _ _ _ _ _ _ us hl => match us, hl with | [_], _ => rfl
  obtain ⟨dInit, FInit⟩ := cd.def_ 41 (d := dM "Book" "__init__" sInit) rfl
  have bInit : Binds K dInit ["self", "letters", "words"] [] := FunD.bindsN FInit fun _ _ _ _ _ _ us hl => match us, hl with | [_, _, _], _ => rfl
  obtain ⟨dGetLetters, FGetLetters⟩ := c.get 0 (d := gM "Book" "property" "letters" sGetLetters) rfl
  have bGetLetters : Binds K dGetLetters ["self"] [] := FunD.bindsN FGetLetters fun _ _ _ _ _ _ us hl => match us, hl with | [_], _ => rfl
  obtain ⟨dGetWords, FGetWords⟩ := c.get 1 (d := gM "Book" "property" "words" sGetWords) rfl
  have bGetWords : Binds K dGetWords ["self"] [] := FunD.bindsN FGetWords fun _ _ _ _ _ _ us hl => match us, hl with | [_], _ => rfl
  obtain ⟨dUniform, FUniform⟩ := c.get 2 (d := gM "Book" "classmethod" "uniform" sUniform) rfl
  have bUniform : Binds K dUniform ["cls", "letters", "size"] [] := FunD.bindsN FUniform fun _ _ _ _ _ _ us hl => match us, hl with | [_, _, _], _ => rfl
  have gBit := He.glo_ok X G (cd.fact 0 (f := .glo "_law_bit") rfl)
  have gJug := He.glo_ok X G (cd.fact 1 (f := .glo "_law_jug") rfl)
  have gDealt := He.glo_ok X G (cd.fact 2 (f := .glo "_law_dealt") rfl)
  have gIsInteger := He.glo_ok X G (cd.fact 3 (f := .glo "is_integer") rfl)
  have gIsLetters := He.glo_ok X G (cd.fact 4 (f := .glo "is_letters") rfl)
  have gIsSpelled := He.glo_ok X G (cd.fact 5 (f := .glo "_is_spelled") rfl)
  have gOrdered := He.glo_ok X G (cd.fact 6 (f := .glo "ordered") rfl)
  have gCheckLetters := He.glo_ok X G (cd.fact 7 (f := .glo "check_letters") rfl)
  have gIsText := He.glo_ok X G (cd.fact 8 (f := .glo "is_text") rfl)
  have gCheckText := He.glo_ok X G (cd.fact 9 (f := .glo "check_text") rfl)
  have gIsWordOf := He.glo_ok X G (cd.fact 10 (f := .glo "_is_word_of") rfl)
  have gOrderedWords := He.glo_ok X G (cd.fact 11 (f := .glo "ordered_words") rfl)
  have gSomeBegins := He.glo_ok X G (cd.fact 12 (f := .glo "_some_begins") rfl)
  have gFirstClash := He.glo_ok X G (cd.fact 13 (f := .glo "first_clash") rfl)
  have gCheckNumber := He.glo_ok X G (cd.fact 14 (f := .glo "check_number") rfl)
  have gCheckBook := He.glo_ok X G (cd.fact 15 (f := .glo "check_book") rfl)
  have gPlacesIn := He.glo_ok X G (cd.fact 16 (f := .glo "places_in") rfl)
  have gWordsAt := He.glo_ok X G (cd.fact 17 (f := .glo "words_at") rfl)
  have gRowFrom := He.glo_ok X G (cd.fact 18 (f := .glo "row_from") rfl)
  have gWordsAhead := He.glo_ok X G (cd.fact 19 (f := .glo "words_ahead") rfl)
  have gCountWays := He.glo_ok X G (cd.fact 20 (f := .glo "count_ways") rfl)
  have gCounts := He.glo_ok X G (cd.fact 21 (f := .glo "counts") rfl)
  have gPlaces := He.glo_ok X G (cd.fact 22 (f := .glo "places") rfl)
  have gSorted := He.glo_ok X G (cd.fact 23 (f := .glo "_law_sorted") rfl)
  have gPick := He.glo_ok X G (cd.fact 24 (f := .glo "_law_pick") rfl)
  have gSigns := He.glo_ok X G (cd.fact 25 (f := .glo "_law_signs") rfl)
  have gLine := He.glo_ok X G (cd.fact 26 (f := .glo "_law_line") rfl)
  have gMeet := He.glo_ok X G (cd.fact 27 (f := .glo "_law_meet") rfl)
  have gLot := He.glo_ok X G (cd.fact 28 (f := .glo "_law_lot") rfl)
  have gSpots := He.glo_ok X G (cd.fact 29 (f := .glo "_law_spots") rfl)
  have gMuch := He.glo_ok X G (cd.fact 30 (f := .glo "_law_much") rfl)
  have gGrown := He.glo_ok X G (cd.fact 31 (f := .glo "_law_grown") rfl)
  have gBookBy := He.glo_ok X G (cd.fact 32 (f := .glo "_law_book_by") rfl)
  have gFull := He.glo_ok X G (cd.fact 33 (f := .glo "_law_full") rfl)
  have gSomeBook := He.glo_ok X G (cd.fact 34 (f := .glo "_law_some_book") rfl)
  have gWays := He.glo_ok X G (cd.fact 35 (f := .glo "ways") rfl)
  have gCutsFrom := He.glo_ok X G (cd.fact 36 (f := .glo "_cuts_from") rfl)
  have gIsWay := He.glo_ok X G (cd.fact 37 (f := .glo "is_way") rfl)
  have gCame := He.glo_ok X G (cd.fact 38 (f := .glo "_law_came") rfl)
  have gRight := He.glo_ok X G (cd.fact 39 (f := .glo "_law_right") rfl)
  have gLaw := He.glo_ok X G (cd.fact 40 (f := .glo "law") rfl)
  have gcInvalidLetters := He.glo_ok X G (cd.fact 41 (f := .glo "InvalidLetters") rfl)
  have gcInvalidBook := He.glo_ok X G (cd.fact 42 (f := .glo "InvalidBook") rfl)
  have gcInvalidText := He.glo_ok X G (cd.fact 43 (f := .glo "InvalidText") rfl)
  have gcBook := He.glo_ok X G (cd.fact 44 (f := .glo "Book") rfl)
  have i__TOO_LONG := He.int_ok X G (cd.fact 45 (f := .int "_TOO_LONG" ((10 ^ 50) ^ 4)) rfl)
  have i_MAX_LETTERS := He.int_ok X G (cd.fact 46 (f := .int "MAX_LETTERS" 3) rfl)
  have i_MAX_WORD := He.int_ok X G (cd.fact 47 (f := .int "MAX_WORD" 400) rfl)
  have i_MAX_WORDS := He.int_ok X G (cd.fact 48 (f := .int "MAX_WORDS" 400) rfl)
  have i_MAX_TEXT := He.int_ok X G (cd.fact 49 (f := .int "MAX_TEXT" 4000) rfl)
  have m_isinstance := He.free_ok X G (cd.fact 50 (f := .free "isinstance") rfl)
  have m_int := He.free_ok X G (cd.fact 51 (f := .free "int") rfl)
  have m_bool := He.free_ok X G (cd.fact 52 (f := .free "bool") rfl)
  have m_str := He.free_ok X G (cd.fact 53 (f := .free "str") rfl)
  have m_tuple := He.free_ok X G (cd.fact 54 (f := .free "tuple") rfl)
  have m_abs := He.free_ok X G (cd.fact 55 (f := .free "abs") rfl)
  have m_len := He.free_ok X G (cd.fact 56 (f := .free "len") rfl)
  have m_sorted := He.free_ok X G (cd.fact 57 (f := .free "sorted") rfl)
  have m_set := He.free_ok X G (cd.fact 58 (f := .free "set") rfl)
  have m_any := He.free_ok X G (cd.fact 59 (f := .free "any") rfl)
  have m_all := He.free_ok X G (cd.fact 60 (f := .free "all") rfl)
  have m_zip := He.free_ok X G (cd.fact 61 (f := .free "zip") rfl)
  have m_range := He.free_ok X G (cd.fact 62 (f := .free "range") rfl)
  have m_max := He.free_ok X G (cd.fact 63 (f := .free "max") rfl)
  have m_min := He.free_ok X G (cd.fact 64 (f := .free "min") rfl)
  have m_list := He.free_ok X G (cd.fact 65 (f := .free "list") rfl)
  have m_sum := He.free_ok X G (cd.fact 66 (f := .free "sum") rfl)
  have m_repr := He.free_ok X G (cd.fact 67 (f := .free "repr") rfl)
  have cBook := He.cls_ok (cd.fact 68 (f := .cls "Book") rfl)
  have mkBook := He.mkr_ok (cd.fact 69 (f := .mkr "Book") rfl)
  have nBook_letters := He.noat_ok (cd.fact 70 (f := .noat "Book" "_letters") rfl)
  have nBook_words := He.noat_ok (cd.fact 71 (f := .noat "Book" "_words") rfl)
  have nBook_known := He.noat_ok (cd.fact 72 (f := .noat "Book" "_known") rfl)
  have wInit := He.meth_ok (cd.fact 73 (f := .meth "Book" "__init__") rfl)
  have pInvalidLetters := plain_ok gcInvalidLetters (cd.fact 74 (f := .exc "InvalidLetters") rfl)
  have pInvalidBook := plain_ok gcInvalidBook (cd.fact 75 (f := .exc "InvalidBook") rfl)
  have pInvalidText := plain_ok gcInvalidText (cd.fact 76 (f := .exc "InvalidText") rfl)
  obtain ⟨q0, r0⟩ := He.ba (c.ex)
  have k_tabs := q0
  obtain ⟨q1, r1⟩ := He.ba r0
  have k_BB := clsChk_ok cBook nBook_letters nBook_words nBook_known q1
  obtain ⟨q2, r2⟩ := He.ba r1
  have k_letters := HP.propB_ok q2
  obtain ⟨q3, r3⟩ := He.ba r2
  have k_words := HP.propB_ok q3
  obtain ⟨q4, r4⟩ := He.ba r3
  have k_uniform := HP.clsmB_ok q4
  obtain ⟨q5, r5⟩ := He.ba r4
  have k_stopInvalidBook := of_decide_eq_true q5
  obtain ⟨q6, r6⟩ := He.ba r5
  have k_stopInvalidText := of_decide_eq_true q6
  have k_tri := r6
  have ef := hfa.symm.trans gLaw
  cases ef
  refine ⟨dLaw, fun s v => FunD.bindsA (ps := ["script"]) FLaw (fun _ _ _ _ _ _ us hl => match us, hl with | [_], _ => rfl) s [v] rfl, fun base _ _ TB => ?_⟩
  have M : Free mg := ⟨m_isinstance, m_int, m_bool, m_str, m_tuple, m_abs, m_len, m_sorted, m_set⟩
  have Z : Sizes mg := ⟨i__TOO_LONG, i_MAX_LETTERS, i_MAX_WORD⟩
  have B : BookK K (He.ga K "Book") := k_BB
  have TN : CameC K mg (clA K) := ⟨gcInvalidBook, gcInvalidText, fun i j hi hj => of_decide_eq_true (List.all_eq_true.mp (List.all_eq_true.mp k_tri i (List.mem_range.mpr hi)) j (List.mem_range.mpr (by omega)))⟩
  have RB : Plain K mg "InvalidBook" (clA K 0) := pInvalidBook
  have RT : Plain K mg "InvalidText" (clA K 1) := pInvalidText
  have kGetLetters := ok_get_letters (P := P) (w := w) (mg := mg) (base := base) FGetLetters B
  have kGetWords := ok_get_words (P := P) (w := w) (mg := mg) (base := base) FGetWords B
  have pl : ∃ p g fd, PropOf K (He.ga K "Book") "letters" p g ∧ FnOk P w K mg base CX0 1 g fd ["self"] (spLetters (He.ga K "Book")) ∧ Binds K fd ["self"] [] := ⟨_, _, _, k_letters, kGetLetters, bGetLetters⟩
  have pw : ∃ p g fd, PropOf K (He.ga K "Book") "words" p g ∧ FnOk P w K mg base CX0 1 g fd ["self"] (spWords (He.ga K "Book")) ∧ Binds K fd ["self"] [] := ⟨_, _, _, k_words, kGetWords, bGetWords⟩
  have kBit := ok_bit (P := P) (w := w) (mg := mg) (base := base) FBit m_int
  have kJug := ok_jug (P := P) (w := w) (mg := mg) (base := base) FJug m_int m_len m_abs m_max
  have kDealt := ok_dealt FDealt kBit gBit FBit.kp bBit m_len m_range m_list
  have kIsInteger := ok_is_integer (P := P) (w := w) (mg := mg) (base := base) FIsInteger Z M
  have kIsLetters := ok_is_letters (P := P) (w := w) (mg := mg) (base := base) FIsLetters Z M
  have kIsSpelled := ok_is_spelled (P := P) (w := w) (mg := mg) (base := base) FIsSpelled M
  have kOrdered := ok_ordered (P := P) (w := w) (mg := mg) (base := base) FOrdered M
  have kCheckLetters := ok_check_letters FCheckLetters kIsLetters gIsLetters FIsLetters.kp bIsLetters
  have kCheckLettersX := ok_check_lettersX FCheckLetters pInvalidLetters kIsLetters gIsLetters FIsLetters.kp bIsLetters
  have kIsTextX := ok_is_textX FIsText M i_MAX_TEXT kCheckLettersX gCheckLetters FCheckLetters.kp bCheckLetters kIsSpelled gIsSpelled FIsSpelled.kp bIsSpelled
  have kCheckTextX := ok_check_textX FCheckText RT kIsTextX gIsText FIsText.kp bIsText
  have kIsWordOf := ok_is_word_of (P := P) (w := w) (mg := mg) (base := base) FIsWordOf M Z kIsSpelled gIsSpelled FIsSpelled.kp bIsSpelled
  have kOrderedWords := ok_ordered_words FOrderedWords M m_all kCheckLetters gCheckLetters FCheckLetters.kp bCheckLetters kIsWordOf gIsWordOf FIsWordOf.kp bIsWordOf kOrdered gOrdered FOrdered.kp bOrdered
  have kSomeBegins := ok_some_begins (P := P) (w := w) (mg := mg) (base := base) FSomeBegins M m_any m_zip
  have kNoClash := ok_no_clash FFirstClash kSomeBegins gSomeBegins FSomeBegins.kp bSomeBegins
  have kInit := ok_init FInit B M i_MAX_WORDS kOrderedWords gOrderedWords FOrderedWords.kp bOrderedWords kNoClash gFirstClash FFirstClash.kp bFirstClash
  have mk : ∃ g fd, Mk K (He.ga K "Book") g ∧ FnOk P w K mg base CX0 6 g fd ["self", "letters", "words"] (spInit K (He.ga K "Book")) ∧ Binds K fd ["self", "letters", "words"] [] := ⟨_, _, mkBook, kInit, bInit⟩
  have kCheckNumber := ok_check_number FCheckNumber kIsInteger gIsInteger FIsInteger.kp bIsInteger
  have kCheckBookX := ok_check_bookX (P := P) (w := w) (mg := mg) (base := base) FCheckBook B M gcBook RB
  have kPlaces := ok_places (P := P) (w := w) (mg := mg) (base := base) FPlacesIn
  have kWordsAt := ok_words_at FWordsAt B kCheckBookX gCheckBook FCheckBook.kp bCheckBook kCheckTextX gCheckText FCheckText.kp bCheckText kPlaces gPlacesIn FPlacesIn.kp bPlacesIn pl pw
  have kRowFrom := ok_row_from (P := P) (w := w) (mg := mg) (base := base) FRowFrom M
  have kWordsAhead := ok_words_ahead (P := P) (w := w) (mg := mg) (base := base) FWordsAhead M
  have kCountWays := ok_count_ways FCountWays M ⟨⟨_, _, kWordsAt, gWordsAt, FWordsAt.kp, bWordsAt⟩⟩
  have kCounts := ok_counts FCounts M m_range ⟨⟨_, _, kWordsAt, gWordsAt, FWordsAt.kp, bWordsAt⟩⟩ ⟨⟨_, _, kWordsAhead, gWordsAhead, FWordsAhead.kp, bWordsAhead⟩⟩
  have kPlacesT := ok_placesT FPlaces M ⟨⟨_, _, kWordsAt, gWordsAt, FWordsAt.kp, bWordsAt⟩⟩
  have kSorted := ok_law_sorted (P := P) (w := w) (mg := mg) (base := base) FSorted M
  have kSortedT := ok_law_sortedT (P := P) (w := w) (mg := mg) (base := base) FSorted M
  have kPick := ok_pickS FPick kBit gBit FBit.kp bBit M
  have kPickT := ok_pickT FPick kBit gBit FBit.kp bBit M
  have kSigns := ok_signs FSigns kPick gPick FPick.kp bPick
  have kLine := ok_line FLine M m_range kBit gBit FBit.kp bBit kPick gPick FPick.kp bPick
  have kMeet := ok_meet (P := P) (w := w) (mg := mg) (base := base) FMeet M
  have kLot := ok_lot FLot M m_range kPick gPick FPick.kp bPick kLine gLine FLine.kp bLine kMeet gMeet FMeet.kp bMeet kSorted gSorted FSorted.kp bSorted
  have kSpots := ok_spots (P := P) (w := w) (mg := mg) (base := base) FSpots M m_range
  have kMuch := ok_much FMuch M kSpots gSpots FSpots.kp bSpots
  have kGrown := ok_grown FGrown M kMuch gMuch FMuch.kp bMuch
  have kBookBy := ok_book_by FBookBy M m_list kMuch gMuch FMuch.kp bMuch kSorted gSorted FSorted.kp bSorted
  have kFull := ok_full FFull M m_range kBit gBit FBit.kp bBit kDealt gDealt FDealt.kp bDealt kGrown gGrown FGrown.kp bGrown kBookBy gBookBy FBookBy.kp bBookBy kSortedT gSorted FSorted.kp bSorted
  have kSomeBook := ok_some_book FSomeBook M kBit gBit FBit.kp bBit kLot gLot FLot.kp bLot kFull gFull FFull.kp bFull kDealt gDealt FDealt.kp bDealt kSorted gSorted FSorted.kp bSorted
  have kUniform := ok_uniform FUniform mkBook M Z m_range i_MAX_WORDS kCheckLetters gCheckLetters FCheckLetters.kp bCheckLetters kCheckNumber gCheckNumber FCheckNumber.kp bCheckNumber kInit bInit
  have uni : ∃ p g fd, ClX.CMet K (He.ga K "Book") (.type "type") "uniform" p g ∧ ClX.CRead K (He.ga K "Book") (.type "type") ∧ FnOk P w K mg base CX0 8 g fd ["cls", "letters", "size"] (spUniform K (He.ga K "Book")) ∧ Binds K fd ["cls", "letters", "size"] [] := ⟨_, _, _, k_uniform.1, k_uniform.2, kUniform, bUniform⟩
  have kWordsAtN := ok_words_atN FWordsAt B kCheckBookX gCheckBook FCheckBook.kp bCheckBook kCheckTextX gCheckText FCheckText.kp bCheckText pl
  have kWaysN := ok_waysN FWays ⟨⟨_, _, kWordsAtN, gWordsAt, FWordsAt.kp, bWordsAt⟩⟩
  have kCountWaysN := ok_count_waysN FCountWays ⟨⟨_, _, kWordsAtN, gWordsAt, FWordsAt.kp, bWordsAt⟩⟩
  have kCountsN := ok_countsN FCounts ⟨⟨_, _, kWordsAtN, gWordsAt, FWordsAt.kp, bWordsAt⟩⟩ ⟨⟨_, _, kWordsAhead, gWordsAhead, FWordsAhead.kp, bWordsAhead⟩⟩
  have kPlacesN := ok_placesN FPlaces ⟨⟨_, _, kWordsAtN, gWordsAt, FWordsAt.kp, bWordsAt⟩⟩
  have kPlacesA := ok_placesA FPlaces M ⟨⟨_, _, kWordsAt, gWordsAt, FWordsAt.kp, bWordsAt⟩⟩
  have kIsWayN := ok_is_wayN FIsWay ⟨⟨_, _, kWordsAtN, gWordsAt, FWordsAt.kp, bWordsAt⟩⟩
  have kCutsFrom := ok_cuts_from FCutsFrom M ⟨⟨_, _, kRowFrom, gRowFrom, FRowFrom.kp, bRowFrom⟩⟩
  have kIsWay := ok_is_way FIsWay M m_all ⟨⟨_, _, kIsInteger, gIsInteger, FIsInteger.kp, bIsInteger⟩⟩ ⟨⟨_, _, kWordsAt, gWordsAt, FWordsAt.kp, bWordsAt⟩⟩ ⟨⟨_, _, kWordsAhead, gWordsAhead, FWordsAhead.kp, bWordsAhead⟩⟩ ⟨⟨_, _, kCutsFrom, gCutsFrom, FCutsFrom.kp, bCutsFrom⟩⟩
  have O : CameOk K mg (He.ga K "_law_came") := ⟨gCame, FCame.kp, _, FCame, bCame⟩
  have WX : CtX P w K mg base (He.ga K "Book") (clA K) := ⟨B, gcBook, mk, uni, ⟨_, _, gWays, FWays.kp, kWaysN, bWays⟩, k_stopInvalidBook, k_stopInvalidText⟩
  have kRight := ok_right FRight (codeAt FRight) (TB _ (List.mem_map_of_mem inT0)) (HP.tab_in inT0) (HP.tab_one k_tabs inT0) M m_repr m_list O TN WX ⟨⟨_, _, kSigns, gSigns, FSigns.kp, bSigns⟩⟩ ⟨⟨_, _, kSomeBook, gSomeBook, FSomeBook.kp, bSomeBook⟩⟩ ⟨⟨_, _, kPick, gPick, FPick.kp, bPick⟩⟩ ⟨⟨_, _, kCountWaysN, gCountWays, FCountWays.kp, bCountWays⟩⟩ ⟨⟨_, _, kCountsN, gCounts, FCounts.kp, bCounts⟩⟩ ⟨⟨_, _, kPlacesN, gPlaces, FPlaces.kp, bPlaces⟩⟩ ⟨⟨_, _, kIsWayN, gIsWay, FIsWay.kp, bIsWay⟩⟩ ⟨⟨_, _, kIsWay, gIsWay, FIsWay.kp, bIsWay⟩⟩ ⟨⟨_, _, kCounts, gCounts, FCounts.kp, bCounts⟩⟩
  exact ok_law FLaw (codeAt FLaw) M m_range m_max m_min WX ⟨⟨_, _, kJug, gJug, FJug.kp, bJug⟩⟩ ⟨⟨_, _, kRight, gRight, FRight.kp, bRight⟩⟩ ⟨⟨_, _, kCountWays, gCountWays, FCountWays.kp, bCountWays⟩⟩ ⟨⟨_, _, kPlacesA, gPlaces, FPlaces.kp, bPlaces⟩⟩
end B17
open PySem PySem.W PySem.Calls PyProof.Rows
set_option maxRecDepth 100000 in
set_option maxHeartbeats 0 in
theorem PySem.Challenge.cw_twowaycuts_k17_errors_of_ways_holds : PySem.Challenge.rw_twowaycuts_k17_errors_of_ways.Holds := by
  w_on; o_law
  refine HandSHeadRun.head_any (r := OpenLaw.row PySem.Challenge.rw_twowaycuts_k17_errors_of_ways) (q := view (OpenLaw.row PySem.Challenge.rw_twowaycuts_k17_errors_of_ways).prog [63]) (H := B17.hk) (ob := B17.ob) (M := 12000) (loose := B17.loose) (d := HandSHeadRun.topDef (OpenLaw.row PySem.Challenge.rw_twowaycuts_k17_errors_of_ways).prog 63) (kwd := []) B17.ob_eq
    (by kernel_rfl) (fun s => by kernel_rfl) B17.run (by kernel_rfl) (by kernel_rfl) (by kernel_rfl) (by rfl) (by first | assumption | decide +kernel) (by decide +kernel) ⟨rfl, rfl, rfl, rfl, rfl, by decide +kernel⟩ ?hw ?hc
  case hw => w_witness2
  case hc =>
    refine XE.walk_guardedT (l := PySem.Challenge.rw_twowaycuts_k17_errors_of_ways) (n := 63) (k := 14) (x := "script") (CX := L2.CX0) rfl (by decide) (by kernel_rfl) ⟨rfl, by decide, by decide⟩ ?F (fun _ _ _ _ z => z)
    intro w mg fa h Y G hmg0
    obtain ⟨K, KX, c⟩ := Y
    have hmg : mg ("law" : PySem.Str) = some (.ref fa) := by
      have e : (HandSHeadRun.topDef (OpenLaw.row PySem.Challenge.rw_twowaycuts_k17_errors_of_ways).prog 63).name = ("law" : PySem.Str) := by kernel_rfl
      rw [← e]
      exact hmg0
    obtain ⟨fd, hb, hF⟩ := B17.all_facts (P := (PySem.Challenge.rw_twowaycuts_k17_errors_of_ways).prog) (w := w) KX G hmg c
    refine ⟨K, fd, B17.tf.map (He.cT K), B17.spLaw (HP.tabsOf B17.tf K) K, KX, fun p hp => ?_, fun p hp => ?_, fun p hp => ?_, hb, fun H a ns hl hT hS => ⟨a, ns, rfl, hS, hl, fun p hp => ?_, fun _ => rfl⟩, hF⟩
    · obtain ⟨r, hr, rfl⟩ := List.mem_map.mp hp
      exact c.x.empty r hr
    · obtain ⟨r, hr, rfl⟩ := List.mem_map.mp hp
      exact c.x.out r hr
    · obtain ⟨r, hr, rfl⟩ := List.mem_map.mp hp
      exact c.x.hd r hr
    · obtain ⟨r, hr, rfl⟩ := List.mem_map.mp hp
      exact LamX.TabS.nil (hT _ (List.mem_map_of_mem hr))
