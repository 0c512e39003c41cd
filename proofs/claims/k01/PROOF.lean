import PyProof.Rows.All
import Wide.All
import OpenK.AllK
import Wide.FinOn
import KE.KStateDown
import HandS.ForMost
import HandS.ForExc
import HandS.More
import HandS.Words
import HandS.WordsExc
import HandS.Defaults
import HandS.TryMany
import HandS.ExcIs
import HandS.ExcValue
import HandS.ExcInit
import HandS.RaiseMore
import HandS.DictTup
import HandS.Wide
import HandS.IsInst
import HandS.Conv
import HandS.Head0
import HandS.Head1
import HandS.Head2
import HandS.HeadEnd
import HandS.HeadHook1
import HandS.HeadHook2
import HandS.HeadHook3
import HandS.HeadHook4
import KE.KExcInit
import KE.KExcPX
import KE.KExcIs
import KE.KTryMore
import KE.KCallOwn
import PySem.Challenge.RW_twowaycuts_k01_whole_errors
set_option Elab.async false
set_option linter.all false
set_option maxRecDepth 100000
set_option maxHeartbeats 4000000
/-! the draws -/
namespace K1
open PySem PySem.Spec PyProof.Rows L2
def top (i : Nat) : Stmt := PySem.Challenge.pw_twowaycuts_k01_whole_errors.main.body.getD i (.Pass ⟨0, 0, 0, 0⟩)
abbrev sJug : Stmt := top 15
abbrev sBit : Stmt := top 16
abbrev sPick : Stmt := top 17
abbrev sDealt : Stmt := top 18
abbrev FnP (K : PySem.W.Frag) (x : Str) (st : Stmt) (f : Addr) (fd : FuncData) : Prop := FunD K x x (defArgs st) (defBody st) (defScope st) [] [] f fd

/-! ### a power with a great base -/
def CPowX (i j : Int) : Prop := 0 ≤ j ∧ (Builtin.Int.intBits i : Int) * j ≤ 2 ^ 27
theorem op_powX {X : Cx} : OpR X (binaryOp .Pow) (rI CPowX fun i j => .int (i ^ j.toNat)) := opI fun _ _ _ _ _ _ _ hc q => pow_int hc.1 hc.2 q

/-! ### the jug: a list of three ints, the first at least 0 -/
def JugAt (H : Hp) (j : Addr) : Prop := ∃ a b c : Int, H j = some (.lst [.int a, .int b, .int c]) ∧ 0 ≤ a
/-- all stands but j, which is a jug still -/
def Kj (j : Addr) (H H' : Hp) : Prop := (∀ b o, b ≠ j → H b = some o → H' b = some o) ∧ JugAt H' j
theorem Kj.refl {j : Addr} {H : Hp} (h : JugAt H j) : Kj j H H := ⟨fun _ _ _ e => e, h⟩
theorem Kj.trans {j : Addr} {H H1 H2 : Hp} (a : Kj j H H1) (b : Kj j H1 H2) : Kj j H H2 := ⟨fun c o n e => b.1 c o n (a.1 c o n e), b.2⟩
theorem Kj.put {j : Addr} {H : Hp} {a b c : Int} (h : 0 ≤ a) : Kj j H (upd H j (.lst [.int a, .int b, .int c])) := ⟨fun d o n e => by rw [upd_ne n]; exact e, ⟨a, b, c, upd_same, h⟩⟩
theorem Kj.new {j p : Addr} {H H' : Hp} {o : HO} (k : Kj j H H') (hp : H p = none) (hj : p ≠ j) : Kj j H (upd H' p o) := ⟨fun c u n e => by
  rw [upd_ne (ne_of_none e hp)]; exact k.1 c u n e, by
  obtain ⟨a, b, c, e, h⟩ := k.2
  exact ⟨a, b, c, by rw [upd_ne (Ne.symm hj)]; exact e, h⟩⟩
theorem Kj.rd {j a : Addr} {H H' : Hp} {u : HO} (k : Kj j H H') (n : a ≠ j) (h : Rd H a u) : Rd H' a u := by
  rcases h with h | ⟨o, h⟩
  · exact .inl (k.1 a _ n h)
  · exact .inr ⟨o, k.1 a _ n h⟩
theorem Kj.sqL {K : PySem.W.Frag} {j a : Addr} {H H' : Hp} {xs : List V} (k : Kj j H H') (n : a ≠ j) (h : SqL K H a xs) : SqL K H' a xs := by
  rcases h with h | h
  · exact .inl (k.rd n h)
  · exact .inr h
theorem Kj.sqT {K : PySem.W.Frag} {j a : Addr} {H H' : Hp} {xs : List V} (k : Kj j H H') (n : a ≠ j) (h : SqT K H a xs) : SqT K H' a xs := by
  rcases h with h | h
  · exact .inl (k.rd n h)
  · exact .inr h

/-! ### promises -/
def spJug (K : PySem.W.Frag) : Sp := fun vs H Q _ => ∃ (l : Addr) (ns : List Int) (i : Nat), vs = [.ref l, .int (i : Int)] ∧ SqL K H l (ns.map V.int) ∧
  ∀ j H', H j = none → (∀ b o, H b = some o → H' b = some o) → JugAt H' j → Q (.ref j) H'
def spBit : Sp := fun vs H Q _ => ∃ (j : Addr) (m : Int), vs = [.ref j, .int m] ∧ JugAt H j ∧ 0 < m ∧ m < 2 ^ 200 ∧
  ∀ r H', 0 ≤ r → r < m → Kj j H H' → Q (.int r) H'
def spPick (K : PySem.W.Frag) : Sp := fun vs H Q _ => ∃ (j p : Addr) (xs : List V), vs = [.ref j, .ref p] ∧ JugAt H j ∧ SqL K H p xs ∧ p ≠ j ∧ xs ≠ [] ∧ xs.length ≤ 1000 ∧
  ∀ x H', x ∈ xs → Kj j H H' → Q x H'
def spDealt (K : PySem.W.Frag) : Sp := fun vs H Q _ => ∃ (j p : Addr) (xs : List V), vs = [.ref j, .ref p] ∧ JugAt H j ∧ SqL K H p xs ∧ p ≠ j ∧ xs.length ≤ 1000 ∧
  ∀ q ys H', H q = none → H' q = some (.lst ys) → ys.length = xs.length → (∀ y ∈ ys, y ∈ xs) → Kj j H H' → Q (.ref q) H'

section
variable {P : Program} {w : World} {K : PySem.W.Frag} {mg : Str → Option Value} {base : Heap} {f fB fJ : Addr} {fd fdB : FuncData}
theorem scBit : FnScope ["jug", "much", "found", "first", "later"] ["jug", "much"] (defScope sBit) := ⟨rfl, rfl, rfl, by decide +kernel, rfl, by decide +kernel, by decide +kernel⟩
theorem scJug : FnScope ["script", "at", "cell", "great", "blend"] ["script", "at"] (defScope sJug) := ⟨rfl, rfl, rfl, by decide +kernel, rfl, by decide +kernel, by decide +kernel⟩
theorem scPick : FnScope ["jug", "items"] ["jug", "items"] (defScope sPick) := ⟨rfl, rfl, rfl, by decide +kernel, rfl, by decide +kernel, by decide +kernel⟩

theorem ok_bit (F : FnP K "_law_bit" sBit f fd) (mI : mg "int" = none) : FnOk P w K mg base CX0 1 f fd ["jug", "much"] spBit := by
  refine F.ok scBit (fun vs H Q E h => ?_) (fun cdv A outer s H vs Q E hr h => ?_)
  · obtain ⟨j, m, rfl, _⟩ := h
    rfl
  · obtain ⟨j, m, rfl, ⟨a, b, c, ej, ha⟩, hm, hm2, q⟩ := h
    refine ⟨_, PSs.nox (pss_cons (ps_if (pt_cmpR op_gt (pe_ix ix_list (pv 0) pe_int (fun _ _ => rfl)) pe_int (nomark _))
        (pss_cons (ps_set (i := 2) scBit.nd rfl (.inl rfl) (pe_op op_mod (pe_callTy call_int1 (by rfl) mI (by decide +kernel) (pa_cons (pe_ix ix_list (pv 0) pe_int (fun _ _ => rfl)) pa_nil)) (pv 1)))
          (pss_cons (ps_asg (pe_op op_fdivW (pe_ix ix_list (pv 0) pe_int (fun _ _ => rfl)) (pv 1)) (pg_sub (pv 0) pe_int set_list))
          (pss_one (ps_ret (pv 2))))) pss_nil)
      (pss_cons (ps_asg (pe_op op_add (pe_ix ix_list (pv 0) pe_int (fun _ _ => rfl)) pe_int) (pg_sub (pv 0) pe_int set_list))
      (pss_cons (ps_set (i := 3) scBit.nd rfl (.inl rfl) (pe_op op_mod (pe_callTy call_int1 (by rfl) mI (by decide +kernel) (pa_cons (pe_op op_add (pe_ix ix_list (pv 0) pe_int (fun _ _ => rfl)) (pe_op op_mul pe_int (pe_ix ix_list (pv 0) pe_int (fun _ _ => rfl)))) pa_nil)) pe_int))
      (pss_cons (ps_set (i := 4) scBit.nd rfl (.inl rfl) (pe_op op_add (pe_op op_mul (pe_op op_mod (pe_callTy call_int1 (by rfl) mI (by decide +kernel) (pa_cons (pe_op op_mul (pv 3) (pv 3)) pa_nil)) pe_int) (pv 3)) (pe_op op_mul pe_int (pe_ix ix_list (pv 0) pe_int (fun _ _ => rfl)))))
      (pss_one (ps_ret (pe_op op_mod (pe_callTy call_int1 (by rfl) mI (by decide +kernel) (pa_cons (pe_op op_fdiv (pe_op op_mod (pe_callTy call_int1 (by rfl) mI (by decide +kernel) (pa_cons (pv 4) pa_nil)) pe_int) pe_int) pa_nil)) (pv 1)))))))), ?_⟩
    refine ⟨_, rfl, _, _, _, _, rfl, rfl, SqL.of ej, atI_nat (j := 0) rfl, _, _, rfl, rfl, _, rfl, ite2 (fun e => ?_) (fun e => ?_)⟩
    · refine ⟨_, rfl, _, _, _, _, rfl, rfl, SqL.of ej, atI_nat (j := 0) rfl, .inl ⟨_, rfl, _, rfl, _, _, rfl, rfl, hm, ?_⟩⟩
      refine ⟨_, rfl, _, _, _, _, rfl, rfl, SqL.of ej, atI_nat (j := 0) rfl, _, rfl, _, _, rfl, rfl, wide_div hm (b := 200) (by omega) (by decide) (by decide), ?_⟩
      refine ⟨_, rfl, _, _, _, 0, rfl, rfl, ej, rfl, ?_⟩
      refine ⟨_, rfl, ?_⟩
      exact q _ _ (Int.emod_nonneg _ (by omega)) (Int.emod_lt_of_pos _ hm) (Kj.put (Int.ediv_nonneg ha (by omega)))
    · refine ⟨_, rfl, _, _, _, _, rfl, rfl, SqL.of ej, atI_nat (j := 2) rfl, _, _, rfl, rfl, ?_⟩
      refine ⟨_, rfl, _, _, _, 2, rfl, rfl, ej, rfl, ?_⟩
      have ej2 : (upd H j (.lst [V.int a, V.int b, V.int (c + 1)])) j = some (.lst [V.int a, V.int b, V.int (c + 1)]) := upd_same
      refine ⟨_, rfl, _, _, _, _, rfl, rfl, SqL.of ej2, atI_nat (j := 1) rfl, _, rfl, _, _, _, _, rfl, rfl, SqL.of ej2, atI_nat (j := 2) rfl, _, _, rfl, rfl, .inl (by decide), _, _, rfl, rfl, .inl ⟨_, rfl, _, _, rfl, rfl, (by show (0:Int) < _; decide), ?_⟩⟩
      have hf0 := Int.emod_nonneg (b + 1000507 * (c + 1)) (show (2305843009213693951 : Int) ≠ 0 by decide)
      have hf1 := Int.emod_lt_of_pos (b + 1000507 * (c + 1)) (show (0 : Int) < 2305843009213693951 by decide)
      generalize (b + 1000507 * (c + 1)) % 2305843009213693951 = fi at hf0 hf1
      refine ⟨_, rfl, _, rfl, _, _, rfl, rfl, .inl ⟨by omega, by omega⟩, .inl ⟨_, rfl, _, _, rfl, rfl, (by show (0:Int) < _; decide), ?_⟩⟩
      refine ⟨_, rfl, _, _, rfl, rfl, .inr ⟨by omega, by omega⟩, _, rfl, _, _, _, _, rfl, rfl, SqL.of ej2, atI_nat (j := 2) rfl, _, _, rfl, rfl, .inl (by decide), _, _, rfl, rfl, ?_⟩
      refine ⟨_, rfl, .inl ⟨_, rfl, _, _, rfl, rfl, (by show (0:Int) < _; decide), _, _, rfl, rfl, ⟨by decide, by decide⟩, .inl ⟨_, rfl, _, rfl, _, _, rfl, rfl, hm, ?_⟩⟩⟩
      exact q _ _ (Int.emod_nonneg _ (by omega)) (Int.emod_lt_of_pos _ hm) (Kj.put ha)

theorem ok_jug (F : FnP K "_law_jug" sJug f fd) (mI : mg "int" = none) (mL : mg "len" = none) (mA : mg "abs" = none) (mM : mg "max" = none) : FnOk P w K mg base CX0 1 f fd ["script", "at"] (spJug K) := by
  refine F.ok scJug (fun vs H Q E h => ?_) (fun cdv A outer s H vs Q E hr h => ?_)
  · obtain ⟨l, ns, i, rfl, _⟩ := h
    rfl
  · obtain ⟨l, ns, i, rfl, hS, q⟩ := h
    refine ⟨_, PSs.nox (pss_cons (ps_set (i := 2) scJug.nd rfl (.inl rfl) (pe_ifExp (pt_cmpR op_lt (pv 1) (pe_callB call_len_seq (by rfl) mL PySem.boot_len (pa_cons (pv 0) pa_nil)) (nomark _))
          (pe_ix ix_list (pv 0) (pv 1) (fun _ _ => rfl)) (pe_op op_add (pe_op op_mul pe_int (pv 1)) pe_int)))
      (pss_cons (ps_set (i := 3) scJug.nd rfl (.inl rfl) (pe_op op_mod (pe_callTy call_int1 (by rfl) mI (by decide +kernel) (pa_cons (pe_callB call_abs (by rfl) mA (by decide +kernel) (pa_cons (pv 2) pa_nil)) pa_nil)) (pe_op op_powX (pe_op op_powX pe_int pe_int) pe_int)))
      (pss_cons (ps_set (i := 4) scJug.nd rfl (.inl rfl) (pe_op op_add (pe_op op_add (pe_op op_add (pe_op op_mul (pe_op op_mod (pe_callTy call_int1 (by rfl) mI (by decide +kernel) (pa_cons (pv 3) pa_nil)) pe_int) pe_int) (pe_op op_mul pe_int (pv 1))) (pe_op op_mul pe_int (pe_callTy call_int1 (by rfl) mI (by decide +kernel) (pa_cons (pe_cmpR op_lt (pv 2) pe_int (nomark _)) pa_nil)))) pe_int))
      (pss_one (ps_ret (pe_lst (pa_cons (pe_callB (call_max2 rfl) (by rfl) mM (by decide +kernel) (pa_cons pe_int (pa_cons (pe_op op_sub (pv 3) (pe_op op_powX pe_int pe_int)) pa_nil))) (pa_cons (pe_op op_mod (pe_callTy call_int1 (by rfl) mI (by decide +kernel) (pa_cons (pv 4) pa_nil)) pe_int) (pa_cons pe_int pa_nil))))))))), ?_⟩
    refine ⟨_, rfl, _, rfl, _, _, rfl, .inl hS, _, _, rfl, rfl, _, rfl, ite2 (fun e => ?a) (fun e => ?b)⟩
    case' a =>
      have hi : i < ns.length := by
        have z := of_decide_eq_true e
        rw [List.length_map] at z
        omega
      refine ⟨_, rfl, _, rfl, _, _, _, _, rfl, rfl, hS, atI_nat (v := .int (ns[i]'hi)) (by rw [List.getElem?_map, List.getElem?_eq_getElem hi]; rfl), ?_⟩
      generalize ns[i]'hi = cell
    case' b =>
      refine ⟨_, rfl, _, _, rfl, rfl, .inl (by decide), _, _, rfl, rfl, ?_⟩
      generalize 71 * (i : Int) + 41 = cell
    all_goals
      refine ⟨_, rfl, _, rfl, .inl ⟨_, rfl, _, _, rfl, rfl, ⟨by decide, by decide +kernel⟩, _, _, rfl, rfl, ⟨by decide, by decide +kernel⟩, _, _, rfl, rfl, (by show (0:Int) < _; decide +kernel), ?_⟩⟩
      have hb : (0 : Int) < (10 ^ (61 : Int).toNat) ^ (11 : Int).toNat := by decide +kernel
      have hg0 := Int.emod_nonneg (if cell < 0 then -cell else cell) (show ((10 ^ (61 : Int).toNat) ^ (11 : Int).toNat : Int) ≠ 0 by omega)
      generalize (if cell < 0 then -cell else cell) % ((10 ^ (61 : Int).toNat) ^ (11 : Int).toNat : Int) = great at hg0
      refine ⟨_, rfl, .inl ⟨_, rfl, _, _, rfl, rfl, (by show (0:Int) < _; decide), _, _, rfl, rfl, .inr (by decide), _, rfl, _, _, rfl, rfl, .inl (by decide), _, _, rfl, rfl, _, rfl, _, _, rfl, rfl, .inr ⟨_, rfl, _, _, rfl, rfl, .inl (by decide), _, _, rfl, rfl, _, _, rfl, rfl, ?_⟩⟩⟩
      refine ⟨_, rfl, _, _, rfl, rfl, ⟨by decide, by decide +kernel⟩, _, _, rfl, rfl, _, _, rfl, _, rfl, .inl ⟨_, rfl, _, _, rfl, rfl, (by show (0:Int) < _; decide), (by show 3 ≤ sizeLine; decide), fun p hp => ?_⟩⟩
      refine q p _ hp (fun b o e => by rw [upd_ne (ne_of_none e hp)]; exact e) ⟨_, _, _, upd_same, ?_⟩
      split <;> omega

theorem ok_pick (F : FnP K "_law_pick" sPick f fd) (FB : FnOk P w K mg base CX0 1 fB fdB ["jug", "much"] spBit) (gB : mg "_law_bit" = some (.ref fB)) (kB : PySem.W.keepIn K (.ref fB) = true) (bB : Binds K fdB ["jug", "much"] [])
    (mL : mg "len" = none) : FnOk P w K mg base CX0 2 f fd ["jug", "items"] (spPick K) := by
  refine F.ok scPick (fun vs H Q E h => ?_) (fun cdv A outer s H vs Q E hr h => ?_)
  · obtain ⟨j, p, xs, rfl, _⟩ := h
    rfl
  · obtain ⟨j, p, xs, rfl, hj, hS, hpj, hne, hlen, q⟩ := h
    refine ⟨_, PSs.nox (pss_one (ps_ret (pe_ix ix_list (pv 1) (pe_call FB hr rfl gB kB bB .nil pass0 (pa_cons (pv 0) (pa_cons (pe_callB call_len_seq (by rfl) mL PySem.boot_len (pa_cons (pv 1) pa_nil)) pa_nil))) (fun _ _ => rfl)))), ?_⟩
    have h0 : 0 < xs.length := List.length_pos_iff.mpr hne
    refine ⟨_, rfl, _, rfl, _, rfl, _, _, rfl, .inl hS, j, _, rfl, hj, by omega, by omega, fun r H' hr0 hr1 hk => ?_⟩
    have hi : r.toNat < xs.length := by omega
    have er : r = ((r.toNat : Nat) : Int) := by omega
    rw [er]
    refine ⟨_, _, _, _, rfl, rfl, hk.sqL hpj hS, atI_nat (List.getElem?_eq_getElem hi), ?_⟩
    exact q _ _ (List.getElem_mem hi) hk

def rLenL (K : PySem.W.Frag) : List V → Hp → VK → Prop := fun xs H Q => ∃ p ys, xs = [.ref p] ∧ (SqL K H p ys ∨ SqT K H p ys) ∧ Q (.int ys.length) H
theorem call_lenL {X : Cx} : CallR X (.builtin "len") (rLenL X.K) := call_len_seq
theorem scDealt : FnScope ["jug", "items", "waits", "turn"] ["jug", "items"] (defScope sDealt) := ⟨rfl, rfl, rfl, by decide +kernel, rfl, by decide +kernel, by decide +kernel⟩
theorem ok_dealt (F : FnP K "_law_dealt" sDealt f fd) (FB : FnOk P w K mg base CX0 1 fB fdB ["jug", "much"] spBit) (gB : mg "_law_bit" = some (.ref fB)) (kB : PySem.W.keepIn K (.ref fB) = true) (bB : Binds K fdB ["jug", "much"] [])
    (mL : mg "len" = none) (mR : mg "range" = none) (mT : mg "list" = none) : FnOk P w K mg base CX0 2 f fd ["jug", "items"] (spDealt K) := by
  refine F.ok scDealt (fun vs H Q E h => ?_) (fun cdv A outer s H vs Q E hr h => ?_)
  · obtain ⟨j, p, xs, rfl, _⟩ := h
    rfl
  · obtain ⟨j, p, xs, rfl, hj, hS, hpj, hlen, q⟩ := h
    refine ⟨_, PSs.nox (pss_cons (ps_set (i := 2) scDealt.nd rfl (.inr rfl) (pe_callTy call_list_of (by rfl) mT (by decide +kernel) (pa_cons (pv 1) pa_nil)))
      (pss_one (ps_ret (pe_lc (own := [("turn", 3)]) (g := gName 3) (tt := tYes) (te := tBM K "list" rPopAt (tVar 2) (tCons (tCall spBit [] E0 (tCons (tVar 0) (tCons (tCB (rLenL K) (tCons (tVar 2) tNil)) tNil))) tNil)) rfl scDealt.nd (pi_range1 (by rfl) mR (pa_cons (pe_callB call_len_seq (by rfl) mL PySem.boot_len (pa_cons (pv 1) pa_nil)) pa_nil))
        (blkOk_by (N := ["jug", "items", "waits", "turn"]) (sc := defScope sDealt) (by decide +kernel)) (fun _ _ _ _ _ => pg_name (i := 3) scDealt.nd rfl (Or.inl rfl)) (fun _ _ _ _ _ => pts_nil)
        (fun _ _ _ _ _ => by
          refine pe_bm (T := "list") (id := "list.pop") (r := rPopAt) PySem.F.plainAttrs_list PySem.F.slot_list_pop PySem.F.type_list_pop ?_ ?_ ?_
          · exact mt_popAt
          · exact pv 2
          · exact (pa_cons (pe_call FB hr (by rfl) gB kB bB .nil pass0 (pa_cons (pv 0) (pa_cons (pe_callB call_lenL (by rfl) mL PySem.boot_len (pa_cons (pv 2) pa_nil)) pa_nil))) pa_nil)))))), ?_⟩
    refine ⟨_, rfl, _, _, rfl, .inl hS, fun wt hw => ?_⟩
    have hwj : wt ≠ j := fun z => by
      obtain ⟨a, b, c, e, _⟩ := hj
      rw [z, e] at hw
      cases hw
    refine ⟨_, rfl, _, _, rfl, .inl (Kj.sqL ((Kj.refl hj).new hw hwj) hpj hS), _, rfl, by omega, by omega, fun D hD => ?_⟩
    have ewt : (upd H wt (.lst xs)) wt = some (.lst xs) := upd_same
    have nDw : wt ≠ D := ne_of_none ewt hD
    have hkw : Kj j H (upd H wt (.lst xs)) := (Kj.refl hj).new hw hwj
    have nDj : D ≠ j := fun z => by
      obtain ⟨a, b, c, e, _⟩ := hkw.2
      rw [z, e] at hD
      cases hD
    have hDH : H D = none := by
      cases e : H D with
      | none => rfl
      | some o =>
        rw [hkw.1 D o nDj e] at hD
        cases hD
    refine lc_range (n := xs.length) (fun i H' => ∃ ws acc : List V, H' wt = some (.lst ws) ∧ H' D = some (.lst acc) ∧ ws.length + i = xs.length ∧ acc.length = i ∧ (∀ y ∈ ws, y ∈ xs) ∧ (∀ y ∈ acc, y ∈ xs) ∧ Kj j H H') ?_ ?_ ?_
    · refine ⟨xs, [], by rw [upd_ne nDw]; exact ewt, upd_same, by simp, rfl, fun _ h => h, fun _ h => (nomatch h), ?_⟩
      refine ⟨fun b o n e => ?_, ?_⟩
      · rw [upd_ne (ne_of_none e hDH)]
        exact hkw.1 b o n e
      · obtain ⟨a, b, c, e, h⟩ := hkw.2
        exact ⟨a, b, c, by rw [upd_ne (Ne.symm nDj)]; exact e, h⟩
    · rintro i H' hi ⟨ws, acc, hws, hacc, l1, l2, m1, m2, hk⟩
      have hlw : 0 < ws.length := by omega
      refine ⟨rfl, _, rfl, .inl ⟨rfl, _, .inl (.inl hws)⟩, _, rfl, _, rfl, _, _, rfl, .inl (SqL.of hws), j, _, rfl, hk.2, by omega, by omega, fun r H2 hr0 hr1 hk2 => ?_⟩
      have hwt2 := hk2.1 wt _ hwj hws
      have hi : r.toNat < ws.length := by omega
      have er : r = ((r.toNat : Nat) : Int) := by omega
      have es : seqIndex? r ws.length = some r.toNat := by
        rw [er]
        unfold seqIndex?
        simp
        omega
      refine ⟨wt, ws, r, r.toNat, _, rfl, rfl, hwt2, by omega, by omega, es, List.getElem?_eq_getElem hi, ?_⟩
      have hacc2 := hk2.1 D _ nDj hacc
      refine ⟨acc, by rw [upd_ne (Ne.symm nDw)]; exact hacc2, by rw [l2]; exact Nat.lt_of_lt_of_le (show i < 1001 by omega) (by decide), ?_⟩
      have hm : ∀ y ∈ ws.eraseIdx r.toNat, y ∈ ws := fun y hy => List.mem_of_mem_eraseIdx hy
      refine ⟨ws.eraseIdx r.toNat, acc ++ [ws[r.toNat]'hi], by rw [upd_ne nDw]; exact upd_same, upd_same, by rw [List.length_eraseIdx_of_lt hi]; omega, by rw [List.length_append]; simp; omega, fun y hy => m1 y (hm y hy), fun y hy => ?_, ?_⟩
      · rcases List.mem_append.mp hy with z | z
        · exact m2 y z
        · rw [List.mem_singleton.mp z]
          exact m1 _ (List.getElem_mem hi)
      · have hk3 := hk.trans hk2
        refine ⟨fun b o n e => ?_, ?_⟩
        · rw [upd_ne (ne_of_none e hDH), upd_ne (ne_of_none e hw)]
          exact hk3.1 b o n e
        · obtain ⟨a, b, c, e, h⟩ := hk3.2
          exact ⟨a, b, c, by rw [upd_ne (Ne.symm nDj), upd_ne (Ne.symm hwj)]; exact e, h⟩
    · rintro H' ⟨ws, acc, hws, hacc, l1, l2, m1, m2, hk⟩
      exact q D acc H' hDH hacc l2 m2 hk
end
end K1

/-! own exceptions with an own __init__, of any base: fields stored, objects made -/
namespace XE
open PySem PySem.W PySem.Calls PyProof.Rows PySem.Spec Builtin Builtin.ObjectAttr
section
variable {prog : Program} {w : World} {A : Around} {R : Result → Shared → Prop} {hp : Heap} {g : Array GenState} {dr : Drawn} {t : Nat} {os : OsState} {K : Frag} {C : Addr} {B : String} {bmB : List Value}
/-- the first field: the dict is made -/
theorem first_field {x : Addr} {fv : Array Value} {name : Str} {tk : Tok} {v : Value} (SF : StoreFacts B bmB "object.__setattr__" "object") (KI : K.In hp) (ov : excOver K C bmB = true) (tn : takerIn K C name = some none) (hh : hasDictIn K C = true)
    (hx : hp.get? x = some { cls := .ref C, data := .fields fv })
    (fin : ∀ h' tk' dx, (∀ b o, b ≠ x → hp.get? b = some o → h'.get? b = some o) → hp.objs.size ≤ dx → dx ≠ x → h'.get? x = some { cls := .ref C, dict := some dx, data := .fields fv } →
      h'.Ns1 dx (fun y => if y = name then some v else none) → R (.ok (.ret .none)) ⟨h', g, dr, tk', os⟩) :
    codeAny (model prog w) A (.call (.builtin "object.__setattr__") ⟨[.ref x, .str name tk, v], []⟩) R ⟨hp, g, dr, t, os⟩ := by
  have away : x ≠ hp.objs.size := Nat.ne_of_lt (Heap.lt_size hx)
  obtain ⟨cd, hcd, hd1⟩ := any_some hh
  have look : Looks (model prog w) hp (classData C) cd := looks_clsIn KI hcd
  refine osa_openX (s := ⟨hp, g, dr, t, os⟩) (od := none) SF KI ⟨hx, rfl, rfl, trivial⟩ ov tn fun b => ?_
  show wpAny _ _ (storeInOwnDict (.ref x) (.ref C) (.str name tk) name v b) _ _ _
  obtain ⟨nm, bs, mro, ns, qn, hdd, sn, sb, ab, col, del⟩ := cd
  dsimp only at hd1
  subst hd1
  unfold storeInOwnDict ownDictForStores
  repeat (first | with_reducible refine PX.store_in_new ?_ ?_ | with_reducible refine wpAny_loadPart_at hx ?_ | with_reducible refine look.at ?_ | wp_step)
  · exact ⟨_, #[], _, (Heap.get?_update_ne _ _ _ _ away.symm).trans (Heap.get?_push_at rfl rfl), rfl, fun e he => absurd he (by simp), fun _ => rfl⟩
  · intro h' tk' hn' hs
    have hx1 : (hp.push { cls := .type "dict", data := .dict #[] }).get? x = some { cls := .ref C, data := .fields fv } := Heap.get?_push_of_some _ hx
    refine fin h' tk' hp.objs.size (fun b o hb ho => ?_) (Nat.le_refl _) away.symm ?_ hn'
    · exact (hs.2 b (Nat.ne_of_lt (Heap.lt_size ho))).trans ((Heap.get?_update_ne _ _ _ _ hb).trans (Heap.get?_push_of_some _ ho))
    · exact (hs.2 x away).trans (Heap.get?_update_self _ hx1 rfl)
/-- a further field -/
theorem more_field {x dx : Addr} {fv : Array Value} {name : Str} {tk : Tok} {v : Value} {m0 : Str → Option Value} {nl : List Str} (SF : StoreFacts B bmB "object.__setattr__" "object") (KI : K.In hp) (ov : excOver K C bmB = true) (tn : takerIn K C name = some none) (hh : hasDictIn K C = true)
    (hx : hp.get? x = some { cls := .ref C, dict := some dx, data := .fields fv }) (hns : hp.Ns1 dx m0) (hw : Within m0 nl) (hz : nl.length ≤ 1000)
    (fin : ∀ h' tk', (∀ b o, b ≠ dx → hp.get? b = some o → h'.get? b = some o) → h'.Ns1 dx (fun y => if y = name then some v else m0 y) → R (.ok (.ret .none)) ⟨h', g, dr, tk', os⟩) :
    codeAny (model prog w) A (.call (.builtin "object.__setattr__") ⟨[.ref x, .str name tk, v], []⟩) R ⟨hp, g, dr, t, os⟩ := by
  obtain ⟨oD, _, _, hoD, _, _⟩ := hns.count hw
  obtain ⟨cd, hcd, hd1⟩ := any_some hh
  have look : Looks (model prog w) hp (classData C) cd := looks_clsIn KI hcd
  refine osa_openX (s := ⟨hp, g, dr, t, os⟩) (od := some oD) SF KI ⟨hx, rfl, rfl, hoD⟩ ov tn fun b => ?_
  show wpAny _ _ (storeInOwnDict (.ref x) (.ref C) (.str name tk) name v b) _ _ _
  obtain ⟨nm, bs, mro, ns, qn, hdd, sn, sb, ab, col, del⟩ := cd
  dsimp only at hd1
  subst hd1
  unfold storeInOwnDict ownDictForStores
  repeat (first | with_reducible refine PX.store_in_old hns hw hz ?_ | with_reducible refine wpAny_loadPart_at hx ?_ | with_reducible refine look.at ?_ | wp_step)
  intro h' tk' hn' hs
  exact fin h' tk' (fun b o hb ho => (hs.2 b hb).trans ho) hn'
end
end XE

/-! own exceptions with an own __init__, in the layer -/
namespace XE
open PySem PySem.Spec PyProof.Rows L2
open PySem.W (Frag)
/-- what the written part says of an own exception class with its own __init__, of any base -/
structure InitC (K : Frag) (C fI : Addr) : Prop where
  how : ∃ B newId initId bmB, ExcBaseFacts B newId initId bmB ∧ StoreFacts B bmB "object.__setattr__" "object" ∧ PySem.W.excInitIn K C bmB newId = true ∧ PySem.W.excOver K C bmB = true
  sa : PySem.W.findIn K (.ref C) "__setattr__" = some (some (.builtin "object.__setattr__"))
  hd : PySem.W.hasDictIn K C = true
  iC : PySem.W.findIn K (.ref C) "__init__" = some (some (.ref fI))
  fI : PySem.W.isFn K (.ref fI) = true
  kC : PySem.W.keepIn K (.ref C) = true
section
variable {X : Cx} {pins : List (Addr × Obj)} {σ : L2.St} {H : Hp} {s : Shared} {a C fI dx : Addr} {f : Str} {y : V} {u : Value} {fs : List (Str × V)} {Q : Unit → Shared → Prop} {E : Value → Shared → Prop} {A : Around}
theorem put_first (T : InitC X.K C fI) (I : Inv X pins σ H s) (ea : H a = some (exo a C none)) (tn : PySem.W.takerIn X.K C f = some none) (ry : RelV y u)
    (h : ∀ d s', H d = none → d ≠ a → Inv X pins σ (upd (upd H d (exd d [(f, y)])) a (exo a C (some d))) s' → Q () s') : wpAny (model X.prog X.w) A (setAttr (.ref a) f u) Q E s := by
  obtain ⟨B, newId, initId, bmB, FB, SF, -, ov⟩ := T.how
  obtain ⟨tt, there⟩ := exo_at I.hok ea
  obtain ⟨hp, g, dr, t, os⟩ := s
  refine PySem.W.set_plain I.kIn (ox := { cls := .ref C, dict := none, data := .fields #[.ref tt, .none, .none, .none, .bool false, .none] }) (od := none) ⟨there, rfl, rfl, trivial⟩ T.sa ?_
  refine first_field SF I.kIn ov tn T.hd there fun h' tk' d keep dn dne hxa hns => ?_
  have fresh : H d = none := I.hok.fresh dn
  have old : ∀ {b : Addr} {o : Obj}, hp.get? b = some o → b ≠ d := fun {b o} q => Nat.ne_of_lt (Nat.lt_of_lt_of_le (Heap.lt_size q) dn)
  have apart : ∀ {b : Addr}, H b = none → b ≠ a := fun {b} n z => by
    subst z
    rw [ea] at n
    cases n
  refine h d ⟨h', g, dr, tk', os⟩ fresh dne (I.un (t' := tk') ?_ fun b o q => ?_)
  · exact {
      keep := fun b o q n _ _ => keep b o (apart n) q
      slot := fun b o q n _ _ => ⟨o.slots, keep b o (apart n) q⟩
      free := fun b o q n _ => (upd_ne (apart n)).trans ((upd_ne (old q)).trans n)
      there := fun b o q _ => by
        rcases Classical.em (b = a) with e | e
        · subst e
          exact ⟨_, hxa⟩
        · exact ⟨o, keep b o e q⟩
      tups := fun b xs q => (upd_ne (at_ne ea q exo_tup)).trans ((upd_ne (ne_of_none q fresh)).trans q)
      frzs := fun b o v q => (upd_ne (at_ne ea q exo_frz)).trans ((upd_ne (ne_of_none q fresh)).trans q)
      tbls := fun b ps q => ⟨#[], by rw [Array.append_empty]; exact (upd_ne (at_ne ea q exo_tbl)).trans ((upd_ne (ne_of_none q fresh)).trans q)⟩ }
  · rcases Classical.em (b = a) with e | e
    · subst e
      obtain rfl := Option.some.inj (upd_same.symm.trans q)
      exact exo_ok hxa
    · rw [upd_ne e] at q
      rcases Classical.em (b = d) with e2 | e2
      · subst e2
        obtain rfl := Option.some.inj (upd_same.symm.trans q)
        exact exd_ok hns (relO_put (fs := []) ry fun _ => True.intro)
      · rw [upd_ne e2] at q
        refine (I.hok b o q).stay (fun c v hc z => keep c v ?_ z) (fun c hc => (upd_ne (at_ne ea hc exo_own)).trans ((upd_ne (ne_of_none hc fresh)).trans hc)) fun c xs hc => (upd_ne (at_ne ea hc exo_tup)).trans ((upd_ne (ne_of_none hc fresh)).trans hc)
        rcases hc with hc | hc
        · rw [hc]; exact e
        · exact at_ne ea hc exo_own
theorem put_more (T : InitC X.K C fI) (I : Inv X pins σ H s) (ea : H a = some (exo a C (some dx))) (ed : H dx = some (exd dx fs)) (few : fs.length ≤ 900) (tn : PySem.W.takerIn X.K C f = some none) (ry : RelV y u)
    (h : ∀ s', Inv X pins σ (upd H dx (exd dx ((f, y) :: fs))) s' → Q () s') : wpAny (model X.prog X.w) A (setAttr (.ref a) f u) Q E s := by
  obtain ⟨B, newId, initId, bmB, FB, SF, -, ov⟩ := T.how
  obtain ⟨tt, there⟩ := exo_at I.hok ea
  obtain ⟨mA, hns, rel⟩ := exd_at I.hok ed
  have hw := within_of rel
  obtain ⟨hp, g, dr, t, os⟩ := s
  obtain ⟨oD, _, _, hoD, _, _⟩ := hns.count hw
  refine PySem.W.set_plain I.kIn (ox := { cls := .ref C, dict := some dx, data := .fields #[.ref tt, .none, .none, .none, .bool false, .none] }) (od := some oD) ⟨there, rfl, rfl, hoD⟩ T.sa ?_
  refine more_field SF I.kIn ov tn T.hd there hns hw (by rw [List.length_map]; omega) fun h' tk' keep hn => ?_
  have gone : ∃ o, h'.get? dx = some o := ⟨hn.choose, hn.choose_spec.choose_spec.choose_spec.1⟩
  exact h _ (I.write (t' := tk') (x := dx) (e := dx) (o := exd dx ((f, y) :: fs)) (by rw [ed]; exact True.intro) (.inl rfl) keep gone (exd_ok hn (relO_put ry rel)))
end
/-- self.f = e in such an __init__ -/
def tPut (K : Frag) (f : Str) (to te : TE) : TS := fun D σ H => te σ H fun y H1 => to σ H1 fun x H2 => ∃ a C fI : Addr, x = .ref a ∧ InitC K C fI ∧ PySem.W.takerIn K C f = some none ∧
  ((H2 a = some (exo a C none) ∧ ∀ d, H2 d = none → d ≠ a → D.nx σ (upd (upd H2 d (exd d [(f, y)])) a (exo a C (some d)))) ∨
    ∃ (d : Addr) (fs : List (Str × V)), H2 a = some (exo a C (some d)) ∧ H2 d = some (exd d fs) ∧ fs.length ≤ 900 ∧ D.nx σ (upd H2 d (exd d ((f, y) :: fs))))
section
variable {X : Cx} {o e : Expr} {to te : TE} {f : Str} {p' pos : Pos}
theorem ps_put (ho : PE X o to) (he : PE X e te) (hs : swapsWith e (some (.Attribute o f p')) pos.line X.env = pure false := by rfl) : PS X (.Assign [.Attribute o f p'] e pos) (tPut X.K f to te) := by
  refine ⟨fun pins s σ H D I h => ?_⟩
  refine plainObj_wpAny_Assign_Attribute (thn (he.run pins s σ H _ I h) fun v s1 ⟨y, H1, I1, r1, q1⟩ => thn (ho.run pins s1 σ H1 _ I1 q1) fun u s2 ⟨x, H2, I2, r2, hz⟩ => ?_) hs
  obtain ⟨a, C, fI, rfl, T, tn, q⟩ := hz
  cases (show u = Value.ref a from r2)
  rcases q with ⟨ea, q⟩ | ⟨d, fs, ea, ed, few, q⟩
  · exact put_first T I2 ea tn r1 fun d s' n ne J => ⟨σ, _, J, q d n ne⟩
  · exact put_more T I2 ea ed few tn r1 fun s' J => ⟨σ, _, J, q⟩
end
end XE

/-! C(e, ..) for such a class: as a value, and raised -/
namespace XE
open PySem PySem.Spec PyProof.Rows L2
open PySem.W (Frag)
section
variable {X : Cx} {CX : CXT} {pins : List (Addr × Obj)} {σ : L2.St} {H : Hp} {s : Shared} {C fI : Addr} {k : Nat} {fd : FuncData} {ps : List Str} {sp : Sp} {E : XK} {us : List Value} {vs : List V} {Q1 : VK}
/-- the call of the class: what its __init__ leaves -/
theorem run_new {Z : Value → Shared → Prop} (T : InitC X.K C fI) (F1 : FnOk X.prog X.w X.K X.mg X.base CX k fI fd ps sp) (hr : Room (k + 1) X.A) (hb : Binds X.K fd ps []) (hx : Passes CX X E)
    (I : Inv X pins σ H s) (r : Vals vs us) (few : us.length ≤ 1000)
    (h : H (s.heap.objs.size + 1) = none → sp (.ref (s.heap.objs.size + 1) :: vs) (upd H (s.heap.objs.size + 1) (exo (s.heap.objs.size + 1) C none)) Q1 E)
    (fin : ∀ u s' hp2, (∀ b o, s.heap.get? b = some o → hp2.get? b = some o) → CE X.stack X.prog X.w (upd H (s.heap.objs.size + 1) (exo (s.heap.objs.size + 1) C none)) { s with heap := hp2 } Q1 u s' →
      Inv X pins σ (upd H (s.heap.objs.size + 1) (exo (s.heap.objs.size + 1) C none)) { s with heap := hp2 } → u = .none ∧ Z (.ref (s.heap.objs.size + 1)) s') :
    wpAny (model X.prog X.w) X.A (call (.ref C) us) Z X.xe s := by
  obtain ⟨B, newId, initId, bmB, FB, -, ini, -⟩ := T.how
  obtain ⟨nm, N', qn, bs, bm, hdct, sn, sub, ab, col, dd, k0, k1, k2, k3, k5, hC, hT⟩ := PySem.W.excInit_of I.kIn ini
  obtain ⟨hp, g, dr, tk, os⟩ := s
  have next : hp.objs.size ≤ hp.objs.size + 1 := Nat.le_succ _
  have start := h (I.hok.fresh next)
  have grown : ∀ b o, hp.get? b = some o → ((hp.push (PySem.W.kdv_tup us)).push (PX.excO C hp.objs.size)).get? b = some o := fun b o e => Heap.get?_push_of_some _ (Heap.get?_push_of_some _ e)
  have laid : ((hp.push (PySem.W.kdv_tup us)).push (PX.excO C hp.objs.size)).get? (hp.objs.size + 1) = some (PX.excO C hp.objs.size) := by heap_get
  have J : Inv X pins σ (upd H (hp.objs.size + 1) (exo (hp.objs.size + 1) C none)) ⟨(hp.push (PySem.W.kdv_tup us)).push (PX.excO C hp.objs.size), g, dr, tk, os⟩ :=
    I.laid (t' := tk) (a := hp.objs.size + 1) grown next (exo_ok laid)
  have rr : Vals (V.ref (hp.objs.size + 1) :: vs) (Value.ref (hp.objs.size + 1) :: us) := .cons rfl r
  have many : (Value.ref (hp.objs.size + 1) :: us).length = ps.length := (rr.length.symm).trans (F1.len _ _ _ _ start)
  have bound := hb _ (Value.ref (hp.objs.size + 1) :: us) J.kIn (by rw [List.append_nil]; exact many)
  rw [List.append_nil] at bound
  have small : us.length ≤ sizeLine := Nat.le_trans few (by decide)
  have isf : PySem.W.typeIn X.K (.ref fI) = some (.type "function") := beq_iff_eq.mp T.fI
  refine wpAny_call (PX.call_own FB hT hC (PySem.W.looks_findIn I.kIn T.iC) (fun self => PySem.W.bind_fn I.kIn self isf) small
    (codeAny_mono (F1.run _ X.stack _ _ ⟨Value.ref (hp.objs.size + 1) :: us, []⟩ _ _ _ E (hr.make C us []) (J.env0.make C us []) bound rr start) fun r s' done => ?_))
  cases r with
  | error er => exact hx pins σ _ _ er s' J done
  | ok fl =>
    cases fl with
    | ret u => exact fin u s' _ grown done J
    | next => exact False.elim done
    | brk => exact False.elim done
    | cont => exact False.elim done
end
/-- C(e, ..) as a value -/
def tNew (C : Addr) (sp : Sp) (E : XK) (ta : TA) : TE := fun σ H Q => ta σ H fun vs H1 => vs.length ≤ 1000 ∧ ∀ a, H1 a = none → sp (.ref a :: vs) (upd H1 a (exo a C none)) (fun v H2 => v = .non ∧ Q (.ref a) H2) E
/-- C(e, ..) to be raised -/
def tNewX (C : Addr) (sp : Sp) (ta : TA) : L2.St → Hp → XK → Prop := fun σ H Q => ta σ H fun vs H1 => vs.length ≤ 1000 ∧ ∀ a, H1 a = none → sp (.ref a :: vs) (upd H1 a (exo a C none))
  (fun v H2 => v = .non ∧ ∃ (d : Addr) (fs : List (Str × V)), H2 a = some (exo a C (some d)) ∧ H2 d = some (exd d fs) ∧ H1 d = none ∧ Q (.ref C) (some d) (upd (del H2 a) d (.xd fs))) E0
section
variable {X : Cx} {CX : CXT} {C fI : Addr} {k : Nat} {fd : FuncData} {ps : List Str} {sp : Sp} {E : XK} {x : Str} {e : Expr} {es : List Expr} {p pos : Pos} {ta : TA}
theorem pe_new (T : InitC X.K C fI) (F1 : FnOk X.prog X.w X.K X.mg X.base CX k fI fd ps sp) (hr : Room (k + 1) X.A) (hb : Binds X.K fd ps []) (hx : Passes CX X E) (hg : Gl X x) (hm : X.mg x = some (.ref C)) (ha : PA X (e :: es) ta)
    (hdb : (x == ("__debug__" : Str)) = false := by decide) (he : starEach (e :: es) X.env = (false, eval e X.env) :: starEach es X.env := by rfl) (hpl : (backTo pos (starEach es X.env)).any (·.1) = false := by rfl) :
    PE X (.Call (.Name x p) (e :: es) [] pos) (tNew C sp E ta) := by
  refine ⟨fun pins s σ H Q I h => ?_⟩
  refine wpAny_Call_Name_kw (ld_glob I hg hm ?_ hdb)
  refine PySem.W.callWith_K (h₀ := X.base) I.ok.mod.kin T.kC (thn (ha.run pos pins s σ H _ I h) fun us s1 ⟨vs, H1, I1, r1, few, go⟩ => ⟨I1.kIn, ?_⟩) he hpl
  refine run_new T F1 hr hb hx I1 r1 (by rw [List.nil_append, ← r1.length]; exact few) (go _) fun u s' hp2 _ done J => ?_
  obtain ⟨v, H2, J2, rv, rfl, q⟩ := J.after done
  exact ⟨rv, .ref _, H2, J2, rfl, q⟩
theorem pmk_new (T : InitC X.K C fI) (R : Raises X (.ref C)) (F1 : FnOk X.prog X.w X.K X.mg X.base CX0 k fI fd ps sp) (hr : Room (k + 1) X.A) (hb : Binds X.K fd ps []) (hg : Gl X x) (hm : X.mg x = some (.ref C)) (ha : PA X (e :: es) ta)
    (hdb : (x == ("__debug__" : Str)) = false := by decide) (he : starEach (e :: es) X.env = (false, eval e X.env) :: starEach es X.env := by rfl) (hpl : (backTo pos (starEach es X.env)).any (·.1) = false := by rfl) :
    PMk X (.Call (.Name x p) (e :: es) [] pos) (tNewX C sp ta) := by
  intro pins s σ H Q I h
  refine wpAny_Call_Name_kw (ld_glob I hg hm ?_ hdb)
  refine PySem.W.callWith_K (h₀ := X.base) I.ok.mod.kin T.kC (thn (ha.run pos pins s σ H _ I h) fun us s1 ⟨vs, H1, I1, r1, few, go⟩ => ⟨I1.kIn, ?_⟩) he hpl
  refine run_new T F1 hr hb pass0 I1 r1 (by rw [List.nil_append, ← r1.length]; exact few) (go _) fun u s' hp2 grown done J => ?_
  obtain ⟨hp, g, dr, tk, os⟩ := s1
  obtain ⟨h2, g2, d2, t2, o2⟩ := s'
  obtain ⟨v, H2, os2, bare2, un2, hok2, rv, rfl, d, fs, ea, ed, hd1, q⟩ := done
  exact ⟨rv, mk_end R I1 (Nat.le_succ _) grown un2 hok2 os2 bare2 ea ed hd1 q⟩
end
end XE

/-! try: body, then clauses of any kind: one class or a tuple of classes, with a name or without -/
namespace XE
open PySem PySem.Spec PyProof.Rows L2
open PySem.W (Frag)
/-! ### except (C1, C2, ..) -/
theorem loop_pass {M : Model} {A : Around} {E : Value → Shared → Prop} {s : Shared} {f : Value → PUnit → Sem (ForInStep PUnit)} : ∀ (cs : List Value), (∀ c ∈ cs, ∀ Q : ForInStep PUnit → Shared → Prop, Q (.yield PUnit.unit) s → wpAny M A (f c PUnit.unit) Q E s) →
    ∀ {Q : PUnit → Shared → Prop}, Q PUnit.unit s → wpAny M A (forIn cs PUnit.unit f) Q E s
  | [], _, _, q => by
    rw [List.forIn_nil]
    exact wpAny_pure q
  | c :: cs, h, _, q => by
    rw [List.forIn_cons]
    exact wpAny_bind (h c List.mem_cons_self _ (loop_pass cs (fun c' hc => h c' (List.mem_cons_of_mem _ hc)) q))
theorem loop_find {M : Model} {A : Around} {E : Value → Shared → Prop} {s : Shared} {t : Value → Bool} {f : Value → (Option Bool × Unit) → Sem (ForInStep (Option Bool × Unit))} : ∀ (cs : List Value),
    (∀ c ∈ cs, ∀ Q : ForInStep (Option Bool × Unit) → Shared → Prop, Q (if t c = true then .done (some true, ()) else .yield (none, ())) s → wpAny M A (f c (none, ())) Q E s) →
    ∀ {Q : (Option Bool × Unit) → Shared → Prop}, Q (if cs.any t = true then (some true, ()) else (none, ())) s → wpAny M A (forIn cs ((none, ()) : Option Bool × Unit) f) Q E s
  | [], _, _, q => by
    rw [List.forIn_nil]
    exact wpAny_pure q
  | c :: cs, h, _, q => by
    rw [List.forIn_cons]
    refine wpAny_bind (h c List.mem_cons_self _ ?_)
    rw [List.any_cons] at q
    cases e : t c with
    | true =>
      rw [e, Bool.true_or, if_pos rfl] at q
      rw [if_pos rfl]
      exact wpAny_pure q
    | false =>
      rw [e, Bool.false_or] at q
      rw [if_neg Bool.false_ne_true]
      exact loop_find cs (fun c' hc => h c' (List.mem_cons_of_mem _ hc)) q
theorem any_is {K : Frag} {cls : Value} : ∀ (cs : List Value) (b : Bool), PySem.W.exmAny K cls cs = some b → (cs.any fun c => PySem.W.exmOne K cls c == some true) = b ∧ ∀ c ∈ cs, PySem.W.exmOne K cls c = some (PySem.W.exmOne K cls c == some true)
  | [], b, h => ⟨Option.some.inj h, fun _ z => nomatch z⟩
  | c :: cs, b, h => by
    obtain ⟨b1, d1, h1, h2, rfl⟩ := PySem.W.exmAny_cons h
    obtain ⟨i1, i2⟩ := any_is cs d1 h2
    have e1 : (PySem.W.exmOne K cls c == some true) = b1 := by rw [h1]; cases b1 <;> rfl
    refine ⟨by rw [List.any_cons, i1, e1], fun c' hc => ?_⟩
    rcases List.mem_cons.mp hc with rfl | hc
    · rw [e1]; exact h1
    · exact i2 c' hc
theorem tup_matches {M : Model} {K : Frag} {h : Heap} {cls : Value} {e tp : Addr} {n : Nat} (KI : K.In h) (LT : PySem.W.Looks M h (typeOf (.ref e)) cls) :
    ∀ (cs : List Value) (b : Bool), h.get? tp = some { cls := .type "tuple", data := .seq cs.toArray n } → PySem.W.exmAny K cls cs = some b → PySem.W.Looks M h (excMatches (.ref e) (.ref tp)) b := by
  intro cs b htp ok A Q E s k q
  obtain ⟨hh, g, d, tk, os⟩ := s
  obtain ⟨eb, each⟩ := any_is cs b ok
  have isT : PySem.W.Looks M h (isInstance (.ref tp) (.type "tuple")) true := ((PySem.W.Looks.ld htp).andThen .now).andThen (PySem.W.Looks.of_pure isSubtype_tuple_tuple)
  unfold excMatches
  refine wpAny_bind ((isT.keeps k).at ?_)
  dsimp only
  rw [if_pos rfl]
  first
    | refine wpAny_bind (wpAny_seqItems (k _ _ htp) rfl (wpAny_bind (wpAny_pure ?_)))
    | refine wpAny_bind (wpAny_bind (wpAny_seqItems (k _ _ htp) rfl (wpAny_pure ?_)))
  dsimp only [Option.getD_some, Option.getD]
  refine wpAny_bind (loop_pass cs (fun c hc Q1 q1 => ?_) ?_)
  · obtain ⟨x1, _⟩ := PySem.W.exm_cls (M := M) KI (each c hc)
    refine wpAny_bind ((x1.keeps k).at ?_)
    exact wpAny_pure q1
  · refine wpAny_bind ((LT.keeps k).at (wpAny_bind (loop_find (t := fun c => PySem.W.exmOne K cls c == some true) cs (fun c hc Q1 q1 => ?_) ?_)))
    · obtain ⟨_, x2⟩ := PySem.W.exm_cls (M := M) KI (each c hc)
      refine wpAny_bind ((x2.keeps k).at ?_)
      cases e : (PySem.W.exmOne K cls c == some true) with
      | true =>
        simp only [e, if_true] at q1 ⊢
        exact wpAny_pure q1
      | false =>
        simp only [e] at q1 ⊢
        exact wpAny_pure q1
    · rw [eb]
      cases b with
      | true => exact wpAny_pure q
      | false => exact wpAny_pure q
/-! ### the clauses' tests -/
/-- the test of a clause names these classes, whatever exception is handled; it makes nothing but, perhaps, a tuple -/
def Tests (X : Cx) (t : Expr) (cs : List Value) : Prop := ∀ (a : Addr) (oe : Obj) (pn : List (Addr × Obj)) (σ : L2.St) (H : Hp) (s : Shared) (cls : Value) (b : Bool), Inv (X.suite a ((a, oe) :: pn)) [] σ H s → s.heap.get? a = some oe → oe.cls = cls → PySem.W.exmAny X.K cls cs = some b →
  ∀ {Q : Value → Shared → Prop} {E : Value → Shared → Prop}, (∀ h' t' c, (∀ b o, s.heap.get? b = some o → h'.get? b = some o) → PySem.W.Looks (model X.prog X.w) h' (excMatches (.ref a) c) b → Q c { s with heap := h', toks := t' }) →
    wpAny (model X.prog X.w) (X.A.mark (some (.ref a))) (eval t X.env) Q E s
section
variable {X : Cx}
theorem cls_looks {M : Model} {h : Heap} {a : Addr} {oe : Obj} {cls : Value} (he : h.get? a = some oe) (hc : oe.cls = cls) : PySem.W.Looks M h (typeOf (.ref a)) cls := fun A Q E s k q => wpAny_typeOf_ref (k _ _ he) (by rw [hc]; exact q)
/-- a class's name, looked up in an except clause -/
theorem name_eval {x : Str} {c : Value} {np : Pos} {a : Addr} {oe : Obj} {pn : List (Addr × Obj)} {σ : L2.St} {H : Hp} {s : Shared} (hc : Names X x c) (I : Inv (X.suite a ((a, oe) :: pn)) [] σ H s) {Q : Value → Shared → Prop} {E : Value → Shared → Prop} (q : Q c s) :
    wpAny (model X.prog X.w) (X.A.mark (some (.ref a))) (eval (.Name x np) X.env) Q E s := by
  obtain ⟨hg, hdbg, hm | ⟨hm, hv, hnn⟩⟩ := hc
  · exact ld_glob (X := X.suite a ((a, oe) :: pn)) I hg hm q hdbg
  · exact ld_blt (X := X.suite a ((a, oe) :: pn)) I hg hm hv q hnn hdbg
theorem tests_name {x : Str} {c : Value} {np : Pos} (hc : Names X x c) : Tests X (.Name x np) [c] := by
  intro a oe pn σ H s cls b I he hcl ok Q E q
  obtain ⟨b1, d1, h1, h2, rfl⟩ := PySem.W.exmAny_cons ok
  obtain rfl : false = d1 := Option.some.inj h2
  refine name_eval hc I ?_
  rw [Bool.or_false] at q
  exact q s.heap s.toks c (fun _ _ z => z) (PySem.W.exm_one I.kIn (cls_looks he hcl) h1)
/-- the names of a tuple of classes -/
inductive NamesAll (X : Cx) : List Expr → List Value → Prop
  | nil : NamesAll X [] []
  | cons {x : Str} {c : Value} {np : Pos} {es : List Expr} {cs : List Value} (h : Names X x c) (r : NamesAll X es cs) : NamesAll X (.Name x np :: es) (c :: cs)
theorem names_eval {pos : Pos} {a : Addr} {oe : Obj} {pn : List (Addr × Obj)} {σ : L2.St} {H : Hp} {s : Shared} (I : Inv (X.suite a ((a, oe) :: pn)) [] σ H s) {es : List Expr} {cs : List Value} (h : NamesAll X es cs) :
    ∀ {Q : List Value → Shared → Prop} {E : Value → Shared → Prop}, Q cs s → wpAny (model X.prog X.w) (X.A.mark (some (.ref a))) (spliced (backTo pos (starEach es X.env))) Q E s := by
  induction h with
  | nil => exact fun q => wpAny_items_nil q
  | cons h r ih => exact fun q => wpAny_items_cons (name_eval h I (ih q))
theorem tests_tuple {es : List Expr} {cs : List Value} {k : Nat} {np : Pos} (hc : NamesAll X es cs) (few : cs.length ≤ 100) : Tests X (.Tuple es k np) cs := by
  intro a oe pn σ H s cls b I he hcl ok Q E q
  refine wpAny_Tuple (names_eval I hc ⟨Nat.le_trans few (by decide), ?_⟩)
  have grown : ∀ b o, s.heap.get? b = some o → (s.heap.push { cls := .type "tuple", data := .seq cs.toArray }).get? b = some o := fun _ _ z => Heap.get?_push_of_some _ z
  exact q _ s.toks _ grown (tup_matches (PySem.W.Frag.In.keeps I.kIn grown) (cls_looks (grown _ _ he) hcl) cs b (Heap.get?_push_size s.heap rfl) ok)
end
/-! ### the statement -/
/-- a clause: its classes, the slot of its name, its suite -/
structure Cl where
  cs : List Value
  slot : Option Nat
  ts : Addr → Value → Option Addr → TS
/-- the name of a clause is gone behind its suite -/
def wipeE (D : Ends) (i : Nat) : Ends := { nx := fun σ' H' => D.nx (σ'.set i none) H', rt := D.rt, bk := fun σ' H' => D.bk (σ'.set i none) H', ct := fun σ' H' => D.ct (σ'.set i none) H' }
def enters (D : Ends) (c : Cl) (cls : Value) (d : Option Addr) (a : Addr) (σ : L2.St) (H : Hp) : Prop := match c.slot with
  | none => c.ts a cls d D σ H
  | some i => c.ts a cls d (wipeE D i) (σ.set i (some (.ref a))) H
def wAll (K : Frag) (Wout : WX) (D : Ends) : List Cl → WX
  | [] => Wout
  | c :: r => fun cls d σ H => ∃ b, PySem.W.exmAny K cls c.cs = some b ∧ (b = true → ∀ a, H a = none → enters D c cls d a σ H) ∧ (b = false → wAll K Wout D r cls d σ H)
inductive Hds (X : Cx) : List ExceptHandler → List Cl → Prop
  | nil : Hds X [] []
  | plain {t : Expr} {cs : List Value} {ts : Addr → Value → Option Addr → TS} {b₀ : Stmt} {suite : List Stmt} {hp : Pos} {hds : List ExceptHandler} {l : List Cl} (ht : Tests X t cs)
      (hsu : ∀ (a : Addr) (oe : Obj) (cls : Value) (d : Option Addr) (pn : List (Addr × Obj)), Zc cls d oe → (∃ vs, oe.data = .fields vs) → PSs (X.suite a ((a, oe) :: pn)) (b₀ :: suite) (ts a cls d)) (r : Hds X hds l) :
      Hds X (.ExceptHandler (some t) none (b₀ :: suite) hp :: hds) (⟨cs, none, ts⟩ :: l)
  | named {t : Expr} {n : Str} {i : Nat} {cs : List Value} {ts : Addr → Value → Option Addr → TS} {b₀ : Stmt} {suite : List Stmt} {hp : Pos} {hds : List ExceptHandler} {l : List Cl} (ht : Tests X t cs) (hi : X.N[i]? = some n) (hln : X.env.kindOf n = some .local)
      (hsu : ∀ (a : Addr) (oe : Obj) (cls : Value) (d : Option Addr) (pn : List (Addr × Obj)), Zc cls d oe → (∃ vs, oe.data = .fields vs) → PSs (X.suite a ((a, oe) :: pn)) (b₀ :: suite) (ts a cls d)) (r : Hds X hds l) :
      Hds X (.ExceptHandler (some t) (some n) (b₀ :: suite) hp :: hds) (⟨cs, some i, ts⟩ :: l)
theorem flying_grown {base h h' : Heap} {l : List Env} {e : Addr} {Z : Obj → Prop} (fl : PySem.HandSPX.FlyingZ base l e Z h) (k : ∀ b o, h.get? b = some o → h'.get? b = some o) : PySem.HandSPX.FlyingZ base l e Z h' := by
  obtain ⟨k1, k2, k3, oe, vs, T, oT, ts, h1, h2, h3, h4, h5, h6, h7, h8, h9⟩ := fl
  exact ⟨fun b o z => k b o (k1 b o z), k2, k3.of_keeps fun b o z _ => ⟨o, k b o z, rfl⟩, oe, vs, T, oT, ts, k _ _ h1, h2, h3, h4, h5, h6, k _ _ h7, h8, h9⟩
section
variable {X : Cx} {body : List Stmt} {h₀ : ExceptHandler} {hds : List ExceptHandler} {l : List Cl} {pos : Pos} {tb : WX → TS} {Wout : WX}
theorem ps_try_all (hs : X.stack = X.env :: X.outer) (hf : X.env.frame = some X.env.locals) (hN : X.N.Nodup) (tk : Takes X Wout)
    (hb : ∀ (W : WX) (pn : List (Addr × Obj)) (xe : Value → Shared → Prop), Takes (X.tr pn xe) W → PassesOwn (model X.prog X.w) X.A X.env xe → PSs (X.tr pn xe) body (tb W))
    (hh : Hds X (h₀ :: hds) l) : PS X (.Try body (h₀ :: hds) [] [] pos) (fun D σ H => tb (wAll X.K Wout D l) D σ H) := by
  refine ⟨fun pins s σ H D I h => ?_⟩
  have ok := I.ok
  have frames : X.A.frames = some (X.env :: X.outer) := ok.frames.trans (congrArg some hs)
  refine wpAny_Try_except (wpAny_mono ((hb (wAll X.K Wout D l) (X.pn ++ pins) _ (fun u s' xx => ?_) PassesOwn.looking).run [] s σ H D (I.toTry _) h) (fun f s1 out => ?_) fun _ _ z => z)
  · obtain ⟨a, B, sI, pins', σ', H', cls, d, rfl, J', nb, up, sky, na, os, ag, w⟩ := xx
    have J : Inv X pins σ' H' sI := J'.ofTry ok
    rw [hs] at sky
    refine Sky.land Zc.steady frames hf sky fun h3 fl3 up3 => ?_
    obtain ⟨oe3, vs3, he3, hz3, hd3⟩ := fl3.there
    have nofr : a ∉ frs (X.env :: X.outer) := fun hm => by
      obtain ⟨_, o', e', hnf⟩ := fl3.2.2.1.mem hm
      obtain rfl := Option.some.inj (he3.symm.trans e')
      exact hnf _ hd3
    have nL : a ≠ X.env.locals := fun z => nofr (List.mem_filterMap.mpr ⟨X.env, List.mem_cons_self, by rw [hf, z]⟩)
    have nF : a ∉ X.fs := fun hm => by
      obtain ⟨e, he, q⟩ := List.mem_filterMap.mp hm
      exact nofr (List.mem_filterMap.mpr ⟨e, List.mem_cons_of_mem _ he, q⟩)
    have go : ∀ {hds' : List ExceptHandler} {l' : List Cl}, Hds X hds' l' → ∀ (h4 : Heap) (t4 : Nat), PySem.HandSPX.FlyingZ B (X.env :: X.outer) a (Zc cls d) h4 → sI.heap.UpToSlots h4 → wAll X.K Wout D l' cls d σ' H' →
        wpAny (model X.prog X.w) X.A (handleBy (.ref a) X.env hds') (SP X pins D) X.xe { s' with heap := h4, toks := t4 } := by
      intro hds' l' hk
      induction hk with
      | nil =>
        intro h4 t4 fl4 up4 w
        refine wpAny_handleBy_nil ?_
        obtain ⟨k1, k2, k3, oe, vs, T, oT, ts', he, hz, hd, h1, hr⟩ := id fl4
        have J4 : Inv X pins σ' H' { s' with heap := h4, toks := t4 } := J.landed nb fl4.1 up4 os ag
        unfold PySem.passOn
        refine wpAny_bind (wpAny_field he hd h1 ?_)
        rw [if_neg (show ¬ ((Value.ref T == Value.none) = true) from by simp)]
        have last : wpAny (model X.prog X.w) X.A (setFlight (.ref a) X.env.frame) (fun _ s5 => wpAny (model X.prog X.w) X.A (throw (.ref a) : Sem Flow) (SP X pins D) X.xe s5) X.xe { s' with heap := h4, toks := t4 } := by
          rw [hf]
          refine PySem.HandSPX.setFlight_upZ fl4 fun h5 hh5 up5 => wpAny_throw (tk _ _ ?_)
          exact ⟨a, B, sI, pins, σ', H', cls, d, rfl, J, nb, up4.trans up5, .inr (.inr (by rw [hs]; exact hh5)), na, os, ag, w⟩
        first
          | exact wpAny_bind (wpAny_pure (wpAny_bind last))
          | exact wpAny_bind last
      | @plain t cs ts b₀ suite hp hds2 l2 ht hsu r ih =>
        intro h4 t4 fl4 up4 ⟨b, hb1, hyes, hno⟩
        have J4 : Inv X pins σ' H' { s' with heap := h4, toks := t4 } := J.landed nb fl4.1 up4 os ag
        obtain ⟨oe4, vs4, he4, hz4, hd4⟩ := fl4.there
        refine wpAny_handleBy_cons (codeAny_handlers_test ?_) (by intro q; cases q)
        refine ht a oe4 _ σ' H' _ cls b (J4.suite he4 hd4 na nL nF) he4 hz4.1 hb1 fun h5 t5 c k5 LM => LM.here ?_
        have fl5 := flying_grown fl4 k5
        have up5 := up4.trans (Heap.UpToSlots.of_keeps k5)
        cases b with
        | true =>
          refine codeAny_handlers_suite ?_
          refine PySem.HandSPX.lands_againZ fl5 fun h6 fl6 up6 => ?_
          have J6 : Inv X pins σ' H' { s' with heap := h6, toks := t5 } := J.landed nb fl6.1 (up5.trans up6) os ag
          obtain ⟨oe6, vs6, he6, hz6, hd6⟩ := fl6.there
          refine wpAny_mono ((hsu a oe6 cls d (X.pn ++ pins) hz6 ⟨_, hd6⟩).run [] _ _ H' _ (J6.suite he6 hd6 na nL nF) (hyes rfl a na)) (fun f s7 out => ?_) (fun _ _ z => False.elim z)
          cases f with
          | next => exact out.elim fun σ7 z => z.elim fun H7 z => ⟨σ7, H7, z.1.unsuite ok, z.2⟩
          | brk => exact out.elim fun σ7 z => z.elim fun H7 z => ⟨σ7, H7, z.1.unsuite ok, z.2⟩
          | cont => exact out.elim fun σ7 z => z.elim fun H7 z => ⟨σ7, H7, z.1.unsuite ok, z.2⟩
          | ret u =>
            obtain ⟨v7, σ7, H7, S7, r7, q7⟩ := out
            exact ⟨v7, σ7, H7, S7.unsuite ok, r7, q7⟩
        | false => exact ih h5 t5 fl5 up5 (hno rfl)
      | @named t n i cs ts b₀ suite hp hds2 l2 ht hi hln hsu r ih =>
        intro h4 t4 fl4 up4 ⟨b, hb1, hyes, hno⟩
        have J4 : Inv X pins σ' H' { s' with heap := h4, toks := t4 } := J.landed nb fl4.1 up4 os ag
        obtain ⟨oe4, vs4, he4, hz4, hd4⟩ := fl4.there
        refine wpAny_handleBy_cons (codeAny_handlers_test ?_) (by intro q; cases q)
        refine ht a oe4 _ σ' H' _ cls b (J4.suite he4 hd4 na nL nF) he4 hz4.1 hb1 fun h5 t5 c k5 LM => LM.here ?_
        have fl5 := flying_grown fl4 k5
        have up5 := up4.trans (Heap.UpToSlots.of_keeps k5)
        cases b with
        | true =>
          refine codeAny_handlers_suite_as ?_
          refine PySem.HandSPX.lands_againZ fl5 fun h6 fl6 up6 => ?_
          have J6 : Inv X pins σ' H' { s' with heap := h6, toks := t5 } := J.landed nb fl6.1 (up5.trans up6) os ag
          obtain ⟨oe6, vs6, he6, hz6, hd6⟩ := fl6.there
          refine store_ok (X := X.suite a ((a, oe6) :: (X.pn ++ pins))) (v := .ref a) (J6.suite he6 hd6 na nL nF) hN hi (.inl hln) rfl (fun s7 S7 => ?_) (.inr hln)
          refine wpAny_mono ((hsu a oe6 cls d (X.pn ++ pins) hz6 ⟨_, hd6⟩).run [] s7 _ H' _ S7 (hyes rfl a na)) (fun f s8 out => ?_) (fun _ _ z => False.elim z)
          cases f with
          | next => exact out.elim fun σ8 z => z.elim fun H8 z => gone_ok (z.1.unsuite ok) hN hi hln fun s9 J9 => ⟨_, H8, J9, z.2⟩
          | brk => exact out.elim fun σ8 z => z.elim fun H8 z => gone_ok (z.1.unsuite ok) hN hi hln fun s9 J9 => ⟨_, H8, J9, z.2⟩
          | cont => exact out.elim fun σ8 z => z.elim fun H8 z => gone_ok (z.1.unsuite ok) hN hi hln fun s9 J9 => ⟨_, H8, J9, z.2⟩
          | ret u =>
            obtain ⟨v8, σ8, H8, S8, r8, q8⟩ := out
            exact gone_ok (S8.unsuite ok) hN hi hln fun s9 J9 => ⟨v8, _, H8, J9, r8, q8⟩
        | false => exact ih h5 t5 fl5 up5 (hno rfl)
    exact go hh h3 s'.toks fl3 (up.trans up3) w
  · cases f with
    | next => exact out.elim fun σ' z => z.elim fun H' z => wpAny_execs_nil ⟨σ', H', z.1.ofTry ok, z.2⟩
    | brk => exact out.elim fun σ' z => z.elim fun H' z => ⟨σ', H', z.1.ofTry ok, z.2⟩
    | cont => exact out.elim fun σ' z => z.elim fun H' z => ⟨σ', H', z.1.ofTry ok, z.2⟩
    | ret u =>
      obtain ⟨v, σ', H', J', r, q⟩ := out
      exact ⟨v, σ', H', J'.ofTry ok, r, q⟩
end
end XE

/-! defs that may ask for a repr: called where no repr is under way -/
namespace XE
open PySem PySem.Spec PyProof.Rows L2
open PySem.W (Frag)
/-- FnOk, where no repr is under way -/
structure FnG (P : Program) (w : World) (K : Frag) (mg : Str → Option Value) (base : Heap) (CX : CXT) (k : Nat) (f : Addr) (fd : FuncData) (ps : List Str) (sp : Sp) : Prop where
  len : ∀ vs H Q E, sp vs H Q E → vs.length = ps.length
  run : ∀ (A : Around) (outer : List Env) (s : Shared) (H : Hp) (args : Args) (us : List Value) (vs : List V) (Q : VK) (E : XK), A.guards = some [] → Room k A → Env0 P w K mg base A outer s H → BindsTo s fd args (ps.zip us) → Vals vs us → sp vs H Q E →
    codeAny (model P w) A (.call (.ref f) args) (CR CX outer P w H s Q E) s
theorem guards_deeper {A : Around} {env : Env} (h : A.guards = some []) : (A.deeper env).guards = some [] := by
  first
    | exact h
    | (show (pushGuards _ _) = _; rw [h]; rfl)
section
variable {P : Program} {w : World} {K : Frag} {mg : Str → Option Value} {base : Heap} {x qual : Str} {params : Arguments} {body : List Stmt} {scope : Scope} {dvs : List V} {kws : List (Str × V)} {f : Addr} {fd : FuncData}
theorem fnG {CX : CXT} {N ps : List Str} {k : Nat} {sp : Sp} (F : FunD K x qual params body scope dvs kws f fd) (S : FnScope N ps scope) (len : ∀ vs H Q E, sp vs H Q E → vs.length = ps.length)
    (hbody : ∀ (cdv : Value) (A : Around) (outer : List Env) (s : Shared) (H : Hp) (vs : List V) (Q : VK) (E : XK), (A.deeper (envOfC qual scope s.heap.objs.size f cdv)).guards = some [] → Room k (A.deeper (envOfC qual scope s.heap.objs.size f cdv)) → sp vs H Q E →
      ∃ t, PSs (cxOf CX P w K mg base N qual scope f cdv A outer s H E) body t ∧ t { nx := fun _ H' => Q .non H', rt := Q } (start N vs) H) : FnG P w K mg base CX (k + 1) f fd ps sp := by
  obtain ⟨oc, od, dV, kV, doc, pm, an, cdv, ct, osl, rfl, lk, hcd, _, _⟩ := F.ex
  refine ⟨len, fun A outer s H args us vs Q E hg hr e0 hb r hsp => ?_⟩
  have inK : K.In s.heap := PySem.W.Frag.In.keeps e0.mod.kin fun b o e => (e0.bs b o e).1
  have unlim : s.heap.NoLimit := e0.mod.nolimit.keeps fun b o e => (e0.bs b o e).1
  have many := len _ _ _ _ hsp
  refine codeAny_call_function hr.depth (inK _ _ lk) rfl S.co S.gen rfl (PySem.W.codeRec_of inK hcd) (hb _ _ _ _ ?_)
  refine wpAny_newFunctionEnv_cells S.kind (fun y hy => ?_) fun env he s1 into => ?_
  · rcases S.par y.1 (List.of_mem_zip (show (y.1, y.2) ∈ ps.zip us from hy)).1 with q | q
    · exact .inl q
    · exact .inr ⟨q, PySem.W.cellsFrom_some _ _ _ (.inl q)⟩
  · subst he
    obtain ⟨t, body', reads⟩ := hbody cdv A outer s H vs Q E (guards_deeper hg) (hr.deeper _) hsp
    refine ⟨unlim.keeps into.toInCall.keep, codeAny_func (wpAny_mono (body'.run [] s1 (start N vs) H _ (inv_start S hr.hd e0 many r into) reads) (fun fl s' out => ?_) fun _ _ z => z)⟩
    cases fl with
    | ret u => exact out.elim fun v z => z.elim fun σ' z => z.elim fun H' z => ⟨v, H', z.1.os, z.1.bare, z.1.base, z.1.hok, z.2.1, z.2.2⟩
    | next => exact out.elim fun σ' z => z.elim fun H' z => ⟨.non, H', z.1.os, z.1.bare, z.1.base, z.1.hok, rfl, z.2⟩
    | brk => exact out.elim fun _ z => z.elim fun _ z => False.elim z.2
    | cont => exact out.elim fun _ z => z.elim fun _ z => False.elim z.2
end
theorem FnG.mono {P : Program} {w : World} {K : Frag} {mg : Str → Option Value} {base : Heap} {CX : CXT} {j k : Nat} {f : Addr} {fd : FuncData} {ps : List Str} {sp : Sp} (F : FnG P w K mg base CX j f fd ps sp) (h : j ≤ k) : FnG P w K mg base CX k f fd ps sp :=
  ⟨F.len, fun A outer s H args us vs Q E hg hr => F.run A outer s H args us vs Q E hg (hr.mono h)⟩
section
variable {X : Cx} {CX : CXT} {k : Nat} {f : Addr} {fd : FuncData} {ps : List Str} {sp : Sp} {E : XK} {x : Str} {p pos : Pos} {e : Expr} {es : List Expr} {ta : TA}
theorem run_guarded {pins : List (Addr × Obj)} {σ : L2.St} {H : Hp} {s : Shared} {Q : VK} {us : List Value} {vs : List V} (F : FnG X.prog X.w X.K X.mg X.base CX k f fd ps sp) (hg0 : X.A.guards = some []) (hr : Room k X.A) (hb : Binds X.K fd ps []) (hx : Passes CX X E)
    (I : Inv X pins σ H s) (r : Vals vs us) (h : sp vs H Q E) : wpAny (model X.prog X.w) X.A (call (.ref f) us) (EP X pins σ Q) X.xe s := by
  have bound := hb s us I.kIn (by rw [List.append_nil]; exact r.length.symm.trans (F.len _ _ _ _ h))
  rw [List.append_nil] at bound
  refine wpAny_call (codeAny_mono (F.run X.A X.stack s H ⟨us, []⟩ us vs Q E hg0 hr I.env0 bound r h) fun r s' done => ?_)
  cases r with
  | error er => exact hx pins σ H s er s' I done
  | ok fl =>
    cases fl with
    | ret u => exact I.after done
    | next => exact False.elim done
    | brk => exact False.elim done
    | cont => exact False.elim done
theorem pe_callG (F : FnG X.prog X.w X.K X.mg X.base CX k f fd ps sp) (hg0 : X.A.guards = some []) (hr : Room k X.A) (hg : Gl X x) (hm : X.mg x = some (.ref f)) (hk : PySem.W.keepIn X.K (.ref f) = true) (hb : Binds X.K fd ps []) (hx : Passes CX X E) (ha : PA X (e :: es) ta)
    (hdb : (x == ("__debug__" : Str)) = false := by decide) (he : starEach (e :: es) X.env = (false, eval e X.env) :: starEach es X.env := by rfl) (hpl : (backTo pos (starEach es X.env)).any (·.1) = false := by rfl) :
    PE X (.Call (.Name x p) (e :: es) [] pos) (tCall sp [] E ta) := by
  refine ⟨fun pins s σ H Q I h => wpAny_Call_Name_kw (ld_glob I hg hm ?_ hdb)⟩
  refine PySem.W.callWith_K (h₀ := X.base) I.ok.mod.kin hk (thn (ha.run pos pins s σ H _ I h) fun us s1 ⟨vs, H1, I1, r, q⟩ => ⟨I1.kIn, ?_⟩) he hpl
  have q2 : sp (vs ++ []) H1 Q E := q
  rw [List.append_nil] at q2
  exact run_guarded F hg0 hr hb hx I1 r q2
end
/-! ### the end of a law whose def is guarded -/
theorem law_guarded {P : Program} {w : World} {K : Frag} {mg mb : Str → Option Value} {CX : CXT} {k : Nat} {fa a : Addr} {fd : FuncData} {x : Str} {sp : Sp} {s₁ : Shared} {vs : List Value} {ns : List Int}
    (KX : K.In s₁.heap) (hns : s₁.heap.Ns mainGlobals mg) (hb : s₁.heap.Ns builtinsNs mb) (hbb : ∀ x : Str, x ≠ "__name__" → mb x = bootBuiltins x) (hlim : s₁.heap.NoLimit) (hg : s₁.gens = #[])
    (ha : s₁.heap.get? a = some { cls := .type "list", data := .seq vs.toArray }) (hi : IntsAre vs ns) (hl : ns.length ≤ sizeLine) (hr : Room k callerA)
    (F : ∀ base : Heap, K.In base → base.Ns mainGlobals mg → FnG P w K mg base CX k fa fd [x] sp) (hbind : ∀ (s : Shared) (u : Value), BindsTo s fd ⟨[u], []⟩ [(x, u)])
    (hsp : ∀ H : Hp, Only H → SqL K H a (ns.map V.int) → sp [.ref a] H (fun v _ => v = .bl true) fun _ _ _ => False)
    (hCX : ∀ H e s', CX [] H s₁ (fun _ _ _ => False) e s' → False) :
    codeAny (model P w) callerA (.call (.ref fa) ⟨[.ref a], []⟩) (fun r s' => r = .ok (.ret (.bool true)) ∧ OldK s₁.heap s'.heap ∧ s'.os = s₁.os ∧ AllBare s'.gens) s₁ := by
  have values := vals_ints hi
  have howmany := hi.length
  have main : ∀ H : Hp, Only H → SqL K H a (ns.map V.int) → HOk P w H s₁.heap → (∀ b, H b ≠ none → b = a) → (H a ≠ none → K.lookup a = none) →
      codeAny (model P w) callerA (.call (.ref fa) ⟨[.ref a], []⟩) (fun r s' => r = .ok (.ret (.bool true)) ∧ OldK s₁.heap s'.heap ∧ s'.os = s₁.os ∧ AllBare s'.gens) s₁ := by
    intro H hO hS hok hA hK
    have below : ∀ {b : Addr} {o : Obj}, s₁.heap.get? b = some o → H b = none → (hidT s₁.heap H).get? b = some o := fun e n => hidT_get e n
    have nodict : ∀ {b : Addr} {o : Obj} {es : Array DictEntry} {ep : Nat}, s₁.heap.get? b = some o → o.data = .dict es ep → H b = none := by
      intro b o es ep e d
      refine Classical.byContradiction fun z => ?_
      obtain rfl := hA b z
      obtain rfl := Option.some.inj (ha.symm.trans e)
      exact Data.noConfusion d
    have spaces : ∀ {b : Addr} {m : Str → Option Value}, s₁.heap.Ns b m → (hidT s₁.heap H).Ns b m := fun {b m} ⟨o, es, ep, e, d, r⟩ => ⟨o, es, ep, below e (nodict e d), d, r⟩
    have written : K.In (hidT s₁.heap H) := fun b o e => below (KX b o e) (by
      refine Classical.byContradiction fun z => ?_
      obtain rfl := hA b z
      rw [hK z] at e
      cases e)
    have ground : Mod K mg (hidT s₁.heap H) := ⟨written, spaces hns, ⟨mb, spaces hb, hbb⟩, hlim.elim fun mc z => ⟨mc, spaces z.1, z.2⟩⟩
    have entry : Env0 P w K mg (hidT s₁.heap H) callerA [] s₁ H := ⟨rfl, ground, fun b o e => of_hidT e, Nat.le_of_eq (hidT_size _ _), trivial, fun b z => absurd (show b ∈ ([] : List Addr) from z) (by simp), hok, .of_eq hg⟩
    refine codeAny_mono ((F _ written (spaces hns)).run callerA [] s₁ H ⟨[.ref a], []⟩ [.ref a] [.ref a] _ _ rfl hr entry (hbind s₁ (.ref a)) (.cons rfl .nil) (hsp H hO hS)) fun r s' out => ?_
    cases r with
    | error e => exact (hCX H e s' out).elim
    | ok fl =>
      cases fl with
      | next => exact False.elim out
      | brk => exact False.elim out
      | cont => exact False.elim out
      | ret u =>
        obtain ⟨v, H', os, bare, un, hok', rv, rfl⟩ := out
        obtain rfl : u = Value.bool true := rv
        refine ⟨rfl, OldK.of_keep fun b o e => ?_, os, bare⟩
        rcases hO b with z | ⟨ob, xs, z⟩
        · exact un.keep b o e z (fun y => absurd (show b ∈ ([] : List Addr) from y) (by simp)) (by simp)
        · obtain ⟨e1, _⟩ := hok b _ z
          obtain ⟨e2, _⟩ := hok' b _ (un.frzs b ob _ z)
          obtain rfl := Option.some.inj (e1.symm.trans e)
          exact e2
  rcases Option.eq_none_or_eq_some (K.lookup a) with free | ⟨o, own⟩
  · refine main (fun b => if b = a then some (.frz { cls := .type "list", data := .seq vs.toArray } (.lst (ns.map V.int))) else none) (fun b => ?_) (.inl (.inr ⟨{ cls := .type "list", data := .seq vs.toArray }, if_pos rfl⟩)) (fun b u z => ?_) (fun b z => ?_) fun _ => free
    · rcases Classical.em (b = a) with e | e
      · exact .inr ⟨_, _, if_pos e⟩
      · exact .inl (if_neg e)
    · rcases Classical.em (b = a) with e | e
      · subst e
        obtain rfl := Option.some.inj ((if_pos rfl).symm.trans z)
        exact ⟨ha, by rw [List.length_map]; exact hl, vs, _, values, ha⟩
      · have y := (if_neg e).symm.trans z
        cases y
    · exact Classical.byContradiction fun e => z (if_neg e)
  · obtain rfl := Option.some.inj ((KX a o own).symm.trans ha)
    exact main (fun _ => none) (fun _ => .inl rfl) (.inr ⟨_, vs.toArray, _, own, rfl, rfl, rfl, by rw [List.size_toArray, howmany]; exact hl, by simpa using values⟩) (fun b u z => by have y : (none : Option HO) = some u := z; cases y) (fun b z => absurd rfl z) fun z => absurd rfl z
theorem walk_guarded {l : PySem.W.OpenLaw} {n k : Nat} {q : Program} {loose : List Str} {XP : (Str → Option Value) → Heap → Prop} {YP : World → Heap → Prop} {d : DefRec} {CX : CXT} {x : Str}
    (hn : l.most = some n) (hn2 : n ≤ sizeLine) (hdf : d.params.defaults = []) (hr : Room k callerA)
    (F : ∀ (w : World) (mg : Str → Option Value) (fa : Addr) (h : Heap), YP w h → h.Ns mainGlobals mg → mg d.name = some (.ref fa) →
      ∃ (K : Frag) (fd : FuncData) (sp : Sp), K.In h ∧ (∀ (s : Shared) (u : Value), BindsTo s fd ⟨[u], []⟩ [(x, u)]) ∧
        (∀ (H : Hp) (a : Addr) (ns : List Int), ns.length ≤ n → Only H → SqL K H a (ns.map V.int) → sp [.ref a] H (fun v _ => v = .bl true) fun _ _ _ => False) ∧
        ∀ base : Heap, K.In base → base.Ns mainGlobals mg → FnG l.prog w K mg base CX k fa fd [x] sp)
    (hCX : ∀ (H : Hp) (s : Shared) (e : Value) (s' : Shared), CX [] H s (fun _ _ _ => False) e s' → False) :
    PySem.W.WalkO q loose XP YP l.row.toRowW d [] (fun f vs => PySem.call f vs) := by
  refine Att.attach_call hn hdf fun w s₀ s₁ mg mb fa o pm cd doc a vs ns G Y _ _ _ hmg hobj hints hlen hg => ?_
  obtain ⟨K, fd, sp, KX, hb, hsp, hF⟩ := F w mg fa _ Y G.T.g hmg
  exact law_guarded KX G.T.g G.T.b G.T.builtins G.T.nolimit hg hobj hints (Nat.le_trans hlen hn2) hr hF hb (fun H hO hS => hsp H a ns hlen hO hS) fun H e s' => hCX H s₁ e s'
end XE

/-! repr of data; isinstance, fields and str of an own exception that is held -/
namespace XE
open PySem PySem.Spec PyProof.Rows L2
open PySem.W (Frag)
/-! ### repr -/
/-- a value as data; the empty dict, too -/
inductive RepV (K : Frag) (H : Hp) : V → PyData → Prop
  | dat {v : V} {d : PyData} (h : Dp K H v d) : RepV K H v d
  | nul {a : Addr} (h : H a = some (.dK [])) : RepV K H (.ref a) (.dict [])
def rRepr (K : Frag) : List V → Hp → VK → Prop := fun xs H Q => ∃ x d, xs = [x] ∧ RepV K H x d ∧ d.showable = true ∧ d.depth ≤ 60 ∧ d.shown.length ≤ sizeLine ∧ Q (.str d.shown) H
mutual
theorem dp_nodict {K : Frag} {H : Hp} : ∀ (d : PyData) (v : V), Dp K H v d → d.hasDict = false
  | .none, _, h => rfl
  | .bool _, _, h => rfl
  | .int _, _, h => rfl
  | .str _, _, h => rfl
  | .list ds, _, h => by
    cases h with
    | lst _ ha => exact dpAll_nodict ds _ ha
  | .tuple ds, _, h => by
    cases h with
    | tup _ ha => exact dpAll_nodict ds _ ha
  | .dict _, _, h => by cases h
theorem dpAll_nodict {K : Frag} {H : Hp} : ∀ (ds : List PyData) (vs : List V), DpAll K H vs ds → PyData.hasDictAll ds = false
  | [], _, _ => rfl
  | d :: ds, _, h => by
    cases h with
    | cons h1 h2 =>
      show (d.hasDict || PyData.hasDictAll ds) = false
      rw [dp_nodict d _ h1, dpAll_nodict ds _ h2]
      rfl
end
theorem repV_reads {X : Cx} {pins : List (Addr × Obj)} {σ : L2.St} {H : Hp} {s : Shared} (I : Inv X pins σ H s) {v : V} {d : PyData} {u : Value} (h : RepV X.K H v d) (r : RelV v u) : ∃ as, Reads s.heap u d as ∧ (d.hasDict = true → sysModules ∉ as) := by
  cases h with
  | dat h =>
    obtain ⟨as, rd⟩ := Dp.reads I d v u h r
    exact ⟨as, rd, fun z => by rw [dp_nodict d v h] at z; cases z⟩
  | @nul a h =>
    obtain rfl : u = Value.ref a := r
    obtain ⟨_, ns, vs, kv, o, es, ep, e1, e2, e3, _, e5, _⟩ := (show ObjOk X.prog X.w H s.heap a (.dK []) from I.hok a _ h)
    cases kv
    have nil : es.toList = [] := by
      cases q : es.toList with
      | nil => rfl
      | cons x xs =>
        rw [q] at e5
        cases e5
    have rd : Reads s.heap (.ref a) (.dict []) ([a] ++ []) := .dict (as := []) (bs := []) e1 e2.1 e3 (by rw [nil]; exact .nil) (by rw [nil]; exact .nil)
    refine ⟨_, rd, fun _ hm => ?_⟩
    have same : sysModules = a := by simpa using hm
    rw [← same] at ns
    simp at ns
theorem call_repr {X : Cx} (hg0 : X.A.guards = some []) (hu : X.A.units + 64 < cLine) : CallR X (.builtin "repr") (rRepr X.K) := by
  intro pins s σ H xs us Q I r h
  obtain ⟨x, d, rfl, hd, sh, dep, sz, q⟩ := h
  obtain ⟨u, rfl, rx⟩ := vals1 r
  obtain ⟨as, rd, nd⟩ := repV_reads I hd rx
  have fin : ∀ h' t t', (∀ b o, s.heap.get? b = some o → h'.get? b = some o) → EP X pins σ Q (.str d.shown t) { s with heap := h', toks := t' } := fun h' t t' k => ⟨.str d.shown, H, I.kept (t' := t') k, ⟨t, rfl⟩, q⟩
  cases u with
  | ref a => exact repr_of_reads' rd sh nd hg0 (by omega) (fun _ _ e => e) (fun h' t tk k => fin h' t tk k) sz
  | none =>
    cases rd
    exact P.repr_of_none (fin s.heap _ _ fun _ _ z => z)
  | bool b =>
    cases rd
    exact P.repr_of_bool (fin s.heap _ _ fun _ _ z => z)
  | int i t =>
    cases rd
    exact P.repr_of_int (by simpa [PyData.showable] using sh) (fin s.heap _ _ fun _ _ z => z)
  | str y t =>
    cases rd
    exact P.repr_of_str (fin s.heap _ _ fun _ _ z => z) sz
  | _ => cases rd
/-! ### an own exception that is held -/
/-- at a: an exception of the class at C: with a message alone, or with fields in its own dict -/
inductive Held (H : Hp) (a C : Addr) : Prop
  | bare (h : H a = some (ExO (.ref C) a))
  | dict {d : Addr} {fs : List (Str × V)} (h : H a = some (exo a C (some d))) (hd : H d = some (exd d fs))
theorem held_inst {X : Cx} {pins : List (Addr × Obj)} {σ : L2.St} {H : Hp} {s : Shared} {a C : Addr} (I : Inv X pins σ H s) (h : Held H a C) : ∃ ox od, PySem.W.InstAt s.heap a ox C od := by
  cases h with
  | bare h =>
    obtain ⟨⟨oe, vs, e1, z, e2, _⟩, _, _⟩ := (show ObjOk X.prog X.w H s.heap a (ExO (.ref C) a) from I.hok a _ h)
    exact ⟨oe, none, e1, z.1, by unfold PySem.W.notCls; rw [e2], by rw [z.2]; trivial⟩
  | @dict d fs h hd =>
    obtain ⟨t1, e1⟩ := exo_at I.hok h
    obtain ⟨mA, ⟨oD, es, ep, e2, _⟩, _⟩ := exd_at I.hok hd
    exact ⟨_, some oD, e1, rfl, rfl, e2⟩
/-- isinstance(e, c) -/
def rIsH (K : Frag) : List V → Hp → VK → Prop := fun xs H Q => ∃ (a C : Addr) (c : V) (cv : Value) (b : Bool), xs = [.ref a, c] ∧ ExcC K C ∧ Held H a C ∧ ClsV c cv ∧ PySem.W.kitOne K (.ref C) cv = some b ∧ Q (.bl b) H
theorem call_isH {X : Cx} : CallR X (.builtin "isinstance") (rIsH X.K) := by
  intro pins s σ H xs us Q I r h
  obtain ⟨a, C, c, cv, b, rfl, T, hh, k, e, q⟩ := h
  obtain ⟨u1, u2, rfl, r1, r2⟩ := vals2 r
  obtain rfl : u1 = Value.ref a := r1
  obtain rfl := k.eq r2
  obtain ⟨ox, od, J⟩ := held_inst I hh
  obtain ⟨cd, hcd, _⟩ := PySem.W.any_some T.hd
  exact PySem.W.kia_one (PySem.W.kitx_exc (by rw [hcd]; rfl) T.hg T.hk T.hs T.ha T.hn T.ht T.hm) I.kIn J e (fun z => nomatch z) fun tk => ⟨.bl b, H, I.tok tk, rfl, q⟩
/-- e.f -/
def tHeld (K : Frag) (f : Str) (te : TE) : TE := fun σ H Q => te σ H fun x H1 => ∃ (a C d : Addr) (fs : List (Str × V)) (v : V), x = .ref a ∧ ExcC K C ∧ PySem.W.findIn K (.ref C) f = some none ∧ H1 a = some (exo a C (some d)) ∧ H1 d = some (exd d fs) ∧ fs.lookup f = some v ∧ Q v H1
theorem pe_held {X : Cx} {e : Expr} {f : Str} {te : TE} {pos : Pos} (he : PE X e te) (hb : attributeBase e f X.env (eval e X.env) = eval e X.env := by rfl) : PE X (.Attribute e f pos) (tHeld X.K f te) := by
  refine ⟨fun pins s σ H Q I h => attr_of hb (thn (he.run pins s σ H _ I h) fun u s1 ⟨x, H1, I1, rx, a, C, d, fs, v, ex, T, no, ea, ed, hl, q⟩ => ?_)⟩
  subst ex
  obtain rfl : u = Value.ref a := rx
  obtain ⟨t1, e1⟩ := exo_at I1.hok ea
  obtain ⟨mA, hns, rel⟩ := exd_at I1.hok ed
  obtain ⟨oD, hoD, hlook⟩ := lookIn_ns hns
  obtain ⟨w, hw, rw'⟩ := RelO.some_of (v := v) (o := mA f) (by rw [← hl]; exact rel f)
  exact PX.exc_get I1.kIn (ox := { cls := .ref C, dict := some d, data := .fields #[.ref t1, .none, .none, .none, .bool false, .none] }) ⟨e1, rfl, rfl, hoD⟩ T.hg T.hk T.hs (PySem.W.findObj_own T.hd no rfl (by rw [hlook, hw])) (handed_of rw') ⟨v, H1, I1.tok _, rw', q⟩
/-! ### str(e), e's class with its own __str__ -/
def rStrH (C : Addr) (sp : Sp) : List V → Hp → VK → Prop := fun xs H Q => ∃ a, xs = [.ref a] ∧ Held H a C ∧ sp [.ref a] H (fun v H' => ∃ z, v = .str z ∧ Q (.str z) H') E0
theorem call_strH {X : Cx} {k : Nat} {C f : Addr} {fd : FuncData} {sp : Sp} (F : FnG X.prog X.w X.K X.mg X.base CX0 k f fd ["self"] sp) (hg0 : X.A.guards = some []) (hr : Room (k + 2) X.A) (hs : PySem.W.findIn X.K (.ref C) "__str__" = some (some (.ref f)))
    (hf : PySem.W.isFn X.K (.ref f) = true) (hb : Binds X.K fd ["self"] []) : CallR X (.type "str") (rStrH C sp) := by
  intro pins s σ H xs us Q I r h
  obtain ⟨a, rfl, hh, q⟩ := h
  obtain ⟨u, rfl, rx⟩ := vals1 r
  obtain rfl : u = Value.ref a := rx
  obtain ⟨ox, od, J⟩ := held_inst I hh
  have room2 : Room k X.A.in1.in1 := (Room.in1 hr).in1
  refine PySem.W.kso_call room2.units0 I.kIn J hs hf ?_
  have e2 := I.env0.in1.in1
  have bound := hb s [Value.ref a] I.kIn rfl
  refine wpAny_call (codeAny_mono (F.run X.A.in1.in1 X.stack s H ⟨[.ref a], []⟩ [.ref a] [.ref a] _ _ hg0 room2 e2 bound (.cons rfl .nil) q) fun r s' done => ?_)
  cases r with
  | error er => exact False.elim done
  | ok fl =>
    cases fl with
    | ret u =>
      obtain ⟨v, H', I', rv, z, rfl, q'⟩ := I.after done
      obtain ⟨t, rfl⟩ := rv
      exact ⟨.str z, H', I', ⟨t, rfl⟩, q'⟩
    | next => exact False.elim done
    | brk => exact False.elim done
    | cont => exact False.elim done
end XE

/-! the classes, what the text says of them; their __init__ -/
namespace K1
open PySem PySem.Spec PyProof.Rows L2 XE
open PySem.W (Frag)
def inClass : Stmt → Nat → Stmt
  | .ClassDef (body := b) .., i => b.getD i (.Pass ⟨0, 0, 0, 0⟩)
  | s, _ => s
abbrev sInit (i : Nat) : Stmt := inClass (top i) 0
abbrev sStr : Stmt := inClass (top 9) 1
abbrev FnM (K : Frag) (x q : Str) (st : Stmt) (f : Addr) (fd : FuncData) : Prop := FunD K x q (defArgs st) (defBody st) (defScope st) [] [] f fd
/-- the classes by their numbers; 12 is the base -/
def nm : Nat → Str
  | 0 => "InvalidLetters" | 1 => "InvalidText" | 2 => "InvalidWord" | 3 => "InvalidBook" | 4 => "InvalidPlan" | 5 => "InvalidOperation" | 6 => "ParseError" | 7 => "InvalidNumber" | 8 => "TooMany" | 9 => "NothingToUndo" | 10 => "Clash" | 11 => "NotFull" | _ => "BookError"
/-- the field of one -/
def fld : Nat → Str
  | 6 => "index" | 7 => "value" | 8 => "limit" | 9 => "many" | 10 => "one" | _ => "text"
/-- the built-in classes by their numbers -/
def bn : Nat → String
  | 0 => "ValueError" | 1 => "LookupError" | 2 => "IndexError" | 3 => "KeyError" | 4 => "ArithmeticError" | 5 => "OverflowError" | _ => "ZeroDivisionError"
def isSub (lot i : Nat) : Bool := if i < 12 then i == lot else decide (lot < 7)
def isBase (lot i : Nat) : Bool := match lot with
  | 7 => i == 1 || i == 2
  | 8 => i == 4 || i == 5
  | 9 => i == 1
  | 10 => i == 4
  | 11 => i == 4
  | _ => i == 0
/-- the base of one that has its own __init__ -/
def bsN : Nat → String
  | 7 => "IndexError" | 8 => "OverflowError" | 9 => "LookupError" | 10 => "ArithmeticError" | 11 => "ArithmeticError" | _ => "ValueError"
def bsM : Nat → List Value
  | 7 => [.type "IndexError", .type "LookupError", .type "Exception", .type "BaseException", .type "object"]
  | 8 => [.type "OverflowError", .type "ArithmeticError", .type "Exception", .type "BaseException", .type "object"]
  | 9 => [.type "LookupError", .type "Exception", .type "BaseException", .type "object"]
  | 10 => [.type "ArithmeticError", .type "Exception", .type "BaseException", .type "object"]
  | 11 => [.type "ArithmeticError", .type "Exception", .type "BaseException", .type "object"]
  | _ => [.type "ValueError", .type "Exception", .type "BaseException", .type "object"]
/-- what the written part says of the classes -/
structure Cls13 (K : Frag) (mg : Str → Option Value) (cl ini : Nat → Addr) (sN : Addr) : Prop where
  gC : ∀ i, i < 13 → mg (nm i) = some (.ref (cl i))
  kC : ∀ i, i < 12 → PySem.W.keepIn K (.ref (cl i)) = true
  msg : ∀ i, i < 6 → PySem.W.excIn K (cl i) (bsM i) "ValueError.__new__" = true
  init : ∀ i, 6 ≤ i → i < 12 → InitC K (cl i) (ini i)
  tk : ∀ i, 6 ≤ i → i < 12 → PySem.W.takerIn K (cl i) (fld i) = some none ∧ PySem.W.findIn K (.ref (cl i)) (fld i) = some none
  tk2 : PySem.W.takerIn K (cl 10) "other" = some none ∧ PySem.W.findIn K (.ref (cl 10)) "other" = some none
  exc : ∀ i, i < 12 → ExcC K (cl i)
  ty : ∀ i, i < 12 → PySem.W.typeIn K (.ref (cl i)) = some (.type "type")
  kit : ∀ i j, i < 12 → j < 13 → PySem.W.kitOne K (.ref (cl i)) (.ref (cl j)) = some (isSub i j)
  kib : ∀ i j, i < 12 → j < 7 → PySem.W.kitOne K (.ref (cl i)) (.type (bn j)) = some (isBase i j)
  exm : ∀ i j, i < 12 → j < 13 → PySem.W.exmOne K (.ref (cl i)) (.ref (cl j)) = some (isSub i j)
  str7 : PySem.W.findIn K (.ref (cl 7)) "__str__" = some (some (.ref sN)) ∧ PySem.W.isFn K (.ref sN) = true
/-! ### __init__ -/
def spInit (K : Frag) (C : Addr) (f : Str) : Sp := fun vs H Q _ => ∃ (a fI : Addr) (v : V), vs = [.ref a, v] ∧ InitC K C fI ∧ PySem.W.takerIn K C f = some none ∧ H a = some (exo a C none) ∧
  ∀ d, H d = none → d ≠ a → Q .non (upd (upd H d (exd d [(f, v)])) a (exo a C (some d)))
def spInit2 (K : Frag) (C : Addr) : Sp := fun vs H Q _ => ∃ (a fI : Addr) (v u : V), vs = [.ref a, v, u] ∧ InitC K C fI ∧ PySem.W.takerIn K C "one" = some none ∧ PySem.W.takerIn K C "other" = some none ∧ H a = some (exo a C none) ∧
  ∀ d H', H d = none → d ≠ a → (∀ b, b ≠ a → b ≠ d → H' b = H b) → H' a = some (exo a C (some d)) → H' d = some (exd d [("other", u), ("one", v)]) → Q .non H'
section
variable {P : Program} {w : World} {K : Frag} {mg : Str → Option Value} {base : Heap} {f : Addr} {fd : FuncData} {C : Addr}
theorem sc6 : FnScope ["self", "index"] ["self", "index"] (defScope (sInit 8)) := ⟨rfl, rfl, rfl, by decide +kernel, rfl, by decide +kernel, by decide +kernel⟩
theorem sc7 : FnScope ["self", "value"] ["self", "value"] (defScope (sInit 9)) := ⟨rfl, rfl, rfl, by decide +kernel, rfl, by decide +kernel, by decide +kernel⟩
theorem sc8 : FnScope ["self", "limit"] ["self", "limit"] (defScope (sInit 10)) := ⟨rfl, rfl, rfl, by decide +kernel, rfl, by decide +kernel, by decide +kernel⟩
theorem sc9 : FnScope ["self", "many"] ["self", "many"] (defScope (sInit 11)) := ⟨rfl, rfl, rfl, by decide +kernel, rfl, by decide +kernel, by decide +kernel⟩
theorem sc10 : FnScope ["self", "one", "other"] ["self", "one", "other"] (defScope (sInit 12)) := ⟨rfl, rfl, rfl, by decide +kernel, rfl, by decide +kernel, by decide +kernel⟩
theorem sc11 : FnScope ["self", "text"] ["self", "text"] (defScope (sInit 13)) := ⟨rfl, rfl, rfl, by decide +kernel, rfl, by decide +kernel, by decide +kernel⟩
theorem ok_i6 (F : FnM K "__init__" "ParseError.__init__" (sInit 8) f fd) : FnOk P w K mg base CX0 1 f fd ["self", "index"] (spInit K C "index") := by
  refine F.ok sc6 (fun vs H Q E h => ?_) (fun cdv A outer s H vs Q E hr h => ?_)
  · obtain ⟨a, fI, v, rfl, _⟩ := h
    rfl
  · obtain ⟨a, fI, v, rfl, T, tn, ha, q⟩ := h
    exact ⟨_, PSs.nox (pss_one (ps_put (pv 0) (pv 1))), _, rfl, _, rfl, a, C, fI, rfl, T, tn, .inl ⟨ha, q⟩⟩
theorem ok_i7 (F : FnM K "__init__" "InvalidNumber.__init__" (sInit 9) f fd) : FnOk P w K mg base CX0 1 f fd ["self", "value"] (spInit K C "value") := by
  refine F.ok sc7 (fun vs H Q E h => ?_) (fun cdv A outer s H vs Q E hr h => ?_)
  · obtain ⟨a, fI, v, rfl, _⟩ := h
    rfl
  · obtain ⟨a, fI, v, rfl, T, tn, ha, q⟩ := h
    exact ⟨_, PSs.nox (pss_one (ps_put (pv 0) (pv 1))), _, rfl, _, rfl, a, C, fI, rfl, T, tn, .inl ⟨ha, q⟩⟩
theorem ok_i8 (F : FnM K "__init__" "TooMany.__init__" (sInit 10) f fd) : FnOk P w K mg base CX0 1 f fd ["self", "limit"] (spInit K C "limit") := by
  refine F.ok sc8 (fun vs H Q E h => ?_) (fun cdv A outer s H vs Q E hr h => ?_)
  · obtain ⟨a, fI, v, rfl, _⟩ := h
    rfl
  · obtain ⟨a, fI, v, rfl, T, tn, ha, q⟩ := h
    exact ⟨_, PSs.nox (pss_one (ps_put (pv 0) (pv 1))), _, rfl, _, rfl, a, C, fI, rfl, T, tn, .inl ⟨ha, q⟩⟩
theorem ok_i9 (F : FnM K "__init__" "NothingToUndo.__init__" (sInit 11) f fd) : FnOk P w K mg base CX0 1 f fd ["self", "many"] (spInit K C "many") := by
  refine F.ok sc9 (fun vs H Q E h => ?_) (fun cdv A outer s H vs Q E hr h => ?_)
  · obtain ⟨a, fI, v, rfl, _⟩ := h
    rfl
  · obtain ⟨a, fI, v, rfl, T, tn, ha, q⟩ := h
    exact ⟨_, PSs.nox (pss_one (ps_put (pv 0) (pv 1))), _, rfl, _, rfl, a, C, fI, rfl, T, tn, .inl ⟨ha, q⟩⟩
theorem ok_i11 (F : FnM K "__init__" "NotFull.__init__" (sInit 13) f fd) : FnOk P w K mg base CX0 1 f fd ["self", "text"] (spInit K C "text") := by
  refine F.ok sc11 (fun vs H Q E h => ?_) (fun cdv A outer s H vs Q E hr h => ?_)
  · obtain ⟨a, fI, v, rfl, _⟩ := h
    rfl
  · obtain ⟨a, fI, v, rfl, T, tn, ha, q⟩ := h
    exact ⟨_, PSs.nox (pss_one (ps_put (pv 0) (pv 1))), _, rfl, _, rfl, a, C, fI, rfl, T, tn, .inl ⟨ha, q⟩⟩
theorem ok_i10 (F : FnM K "__init__" "Clash.__init__" (sInit 12) f fd) : FnOk P w K mg base CX0 1 f fd ["self", "one", "other"] (spInit2 K C) := by
  refine F.ok sc10 (fun vs H Q E h => ?_) (fun cdv A outer s H vs Q E hr h => ?_)
  · obtain ⟨a, fI, v, u, rfl, _⟩ := h
    rfl
  · obtain ⟨a, fI, v, u, rfl, T, t1, t2, ha, q⟩ := h
    refine ⟨_, PSs.nox (pss_cons (ps_put (pv 0) (pv 1)) (pss_one (ps_put (pv 0) (pv 2)))), _, rfl, _, rfl, a, C, fI, rfl, T, t1, .inl ⟨ha, fun d hd hne => ?_⟩⟩
    refine ⟨_, rfl, _, rfl, a, C, fI, rfl, T, t2, .inr ⟨d, _, upd_same, (upd_ne hne).trans upd_same, by show 1 ≤ 900; decide, ?_⟩⟩
    refine q d _ hd hne (fun b n1 n2 => ?_) ?_ upd_same
    · rw [upd_ne n2, upd_ne n1, upd_ne n2]
    · rw [upd_ne (Ne.symm hne)]
      exact upd_same
theorem scStr : FnScope ["self"] ["self"] (defScope sStr) := ⟨rfl, rfl, rfl, by decide +kernel, rfl, by decide +kernel, by decide +kernel⟩
/-- data that can be shown -/
def Shows (K : Frag) (H : Hp) (v : V) (d : PyData) : Prop := RepV K H v d ∧ d.showable = true ∧ d.depth ≤ 60 ∧ d.shown.length ≤ sizeLine
def spStr (K : Frag) (C : Addr) : Sp := fun vs H Q _ => ∃ (a d : Addr) (v : V) (z : PyData), vs = [.ref a] ∧ ExcC K C ∧ PySem.W.findIn K (.ref C) "value" = some none ∧ H a = some (exo a C (some d)) ∧ H d = some (exd d [("value", v)]) ∧ Shows K H v z ∧ Q (.str z.shown) H
theorem ok_str (F : FnM K "__str__" "InvalidNumber.__str__" sStr f fd) (mR : mg "repr" = none) : FnG P w K mg base CX0 1 f fd ["self"] (spStr K C) := by
  refine fnG F scStr (fun vs H Q E h => ?_) (fun cdv A outer s H vs Q E hg hr h => ?_)
  · obtain ⟨a, d, v, z, rfl, _⟩ := h
    rfl
  · obtain ⟨a, d, v, z, rfl, T, no, ha, hd, ⟨h1, h2, h3, h4⟩, q⟩ := h
    refine ⟨_, PSs.nox (pss_one (ps_ret (pe_callB (call_repr hg hr.units) (by rfl) mR (by decide +kernel) (pa_cons (pe_held (pv 0)) pa_nil)))), _, rfl, a, C, d, _, v, rfl, T, no, ha, hd, rfl, v, z, rfl, h1, h2, h3, h4, q⟩
end
end K1

/-! the errors made, and raised -/
namespace K1
open PySem PySem.Spec PyProof.Rows L2 XE
open PySem.W (Frag)
abbrev sFirst : Stmt := top 19
abbrev sMade : Stmt := top 20
abbrev sThrown : Stmt := top 21
theorem eqT {x y : V} {A B : Prop} (e : x = y) (h : A) : if decide (x = y) = true then A else B := by
  rw [decide_eq_true e, if_pos rfl]
  exact h
theorem eqN {x y : V} {A B : Prop} (e : x ≠ y) (h : B) : if decide (x = y) = true then A else B := by
  rw [decide_eq_false e, if_neg Bool.false_ne_true]
  exact h
theorem ltT {i j : Int} {A B : Prop} (e : i < j) (h : A) : if decide (i < j) = true then A else B := by
  rw [decide_eq_true e, if_pos rfl]
  exact h
theorem ltN {i j : Int} {A B : Prop} (e : ¬ i < j) (h : B) : if decide (i < j) = true then A else B := by
  rw [decide_eq_false e, if_neg Bool.false_ne_true]
  exact h
theorem same_new {H : Hp} {a : Addr} {o : HO} (h : H a = none) : Same H (upd H a o) := fun b u e => by
  rw [upd_ne (ne_of_none e h)]
  exact e
theorem Same.then {H H1 H2 : Hp} (a : Same H H1) (b : Same H1 H2) : Same H H2 := fun c o e => b c o (a c o e)
/-- an error with a number that keeps a value -/
def ErrOk (cl : Nat → Addr) (H : Hp) (lot : Nat) (v : V) (e : Addr) : Prop :=
  if lot < 6 then H e = some (ExO (.ref (cl lot)) e)
  else if lot = 10 then ∃ d t : Addr, H e = some (exo e (cl 10) (some d)) ∧ H d = some (exd d [("other", .ref t), ("one", v)]) ∧ H t = some (.tup [v, .str "x"])
  else ∃ d : Addr, H e = some (exo e (cl lot) (some d)) ∧ H d = some (exd d [(fld lot, v)])
theorem ErrOk.keep {cl : Nat → Addr} {H H' : Hp} {lot : Nat} {v : V} {e : Addr} (k : ∀ b o, (∀ xs, o ≠ .lst xs) → H b = some o → H' b = some o) (h : ErrOk cl H lot v e) : ErrOk cl H' lot v e := by
  have nx : ∀ {e C : Addr} {d : Option Addr} (xs : List V), exo e C d ≠ .lst xs := fun xs z => by
    have y : HO.ext _ = HO.lst xs := z
    cases y
  have nd : ∀ {e : Addr} {fs : List (Str × V)} (xs : List V), exd e fs ≠ .lst xs := fun xs z => by
    have y : HO.ext _ = HO.lst xs := z
    cases y
  unfold ErrOk at h ⊢
  split
  · rename_i c
    rw [if_pos c] at h
    refine k _ _ (fun xs z => ?_) h
    have y : HO.ext _ = HO.lst xs := z
    cases y
  · rename_i c
    rw [if_neg c] at h
    split
    · rename_i c2
      rw [if_pos c2] at h
      obtain ⟨d, t, h1, h2, h3⟩ := h
      exact ⟨d, t, k _ _ (fun xs => nx xs) h1, k _ _ (fun xs => nd xs) h2, k _ _ (fun xs z => by cases z) h3⟩
    · rename_i c2
      rw [if_neg c2] at h
      obtain ⟨d, h1, h2⟩ := h
      exact ⟨d, k _ _ (fun xs => nx xs) h1, k _ _ (fun xs => nd xs) h2⟩
def spMade (cl : Nat → Addr) (top : Nat) : Sp := fun vs H Q _ => ∃ (lot : Nat) (v : V), vs = [.int (lot : Int), v] ∧ lot < top ∧ ∀ e H', H e = none → Same H H' → ErrOk cl H' lot v e → Q (.ref e) H'
def spThrown (cl : Nat → Addr) : Sp := fun vs H Q E => ∃ (lot : Nat) (v : V), vs = [.int (lot : Int), v] ∧ lot < 12 ∧ ∀ d H', (lot < 6 → d = none) → Same H H' → E (.ref (cl lot)) d H'
section
variable {P : Program} {w : World} {K : Frag} {mg : Str → Option Value} {base : Heap} {cl ini : Nat → Addr} {sN f fF : Addr} {fd fdF f6 f7 f8 f9 f10 f11 : FuncData}
/-- the defs that make them -/
structure Inits (P : Program) (w : World) (K : Frag) (mg : Str → Option Value) (base : Heap) (cl ini : Nat → Addr) (f6 f7 f8 f9 f10 f11 : FuncData) : Prop where
  i6 : FnOk P w K mg base CX0 1 (ini 6) f6 ["self", "index"] (spInit K (cl 6) "index")
  i7 : FnOk P w K mg base CX0 1 (ini 7) f7 ["self", "value"] (spInit K (cl 7) "value")
  i8 : FnOk P w K mg base CX0 1 (ini 8) f8 ["self", "limit"] (spInit K (cl 8) "limit")
  i9 : FnOk P w K mg base CX0 1 (ini 9) f9 ["self", "many"] (spInit K (cl 9) "many")
  i10 : FnOk P w K mg base CX0 1 (ini 10) f10 ["self", "one", "other"] (spInit2 K (cl 10))
  i11 : FnOk P w K mg base CX0 1 (ini 11) f11 ["self", "text"] (spInit K (cl 11) "text")
  b6 : Binds K f6 ["self", "index"] []
  b7 : Binds K f7 ["self", "value"] []
  b8 : Binds K f8 ["self", "limit"] []
  b9 : Binds K f9 ["self", "many"] []
  b10 : Binds K f10 ["self", "one", "other"] []
  b11 : Binds K f11 ["self", "text"] []
theorem scFirst : FnScope ["lot", "value"] ["lot", "value"] (defScope sFirst) := ⟨rfl, rfl, rfl, by decide +kernel, rfl, by decide +kernel, by decide +kernel⟩
theorem scMade : FnScope ["lot", "value"] ["lot", "value"] (defScope sMade) := ⟨rfl, rfl, rfl, by decide +kernel, rfl, by decide +kernel, by decide +kernel⟩
theorem scThrown : FnScope ["lot", "value"] ["lot", "value"] (defScope sThrown) := ⟨rfl, rfl, rfl, by decide +kernel, rfl, by decide +kernel, by decide +kernel⟩
theorem raises13 {X : Cx} (T : Cls13 X.K X.mg cl ini sN) {i : Nat} (h : i < 12) : Raises X (.ref (cl i)) := raises_own (T.exc i h).hs (T.ty i h)
theorem ok_first (F : FnP K "_law_first_ones" sFirst f fd) (T : Cls13 K mg cl ini sN) : FnOk P w K mg base CX0 1 f fd ["lot", "value"] (spMade cl 6) := by
  refine F.ok scFirst (fun vs H Q E h => ?_) (fun cdv A outer s H vs Q E hr h => ?_)
  · obtain ⟨lot, v, rfl, _⟩ := h
    rfl
  · obtain ⟨lot, v, rfl, hl, q⟩ := h
    refine ⟨_, PSs.nox (pss_cons (ps_if (pt_cmpR op_eq (pv 0) pe_int (nomark _)) (pss_one (ps_ret (pe_exc1 PySem.F.excBase_ValueError (T.msg 0 (by decide)) (T.gC 0 (by decide)) (T.kC 0 (by decide)) (by rfl) (pv 1)))) pss_nil)
      (pss_cons (ps_if (pt_cmpR op_eq (pv 0) pe_int (nomark _)) (pss_one (ps_ret (pe_exc1 PySem.F.excBase_ValueError (T.msg 1 (by decide)) (T.gC 1 (by decide)) (T.kC 1 (by decide)) (by rfl) (pv 1)))) pss_nil)
      (pss_cons (ps_if (pt_cmpR op_eq (pv 0) pe_int (nomark _)) (pss_one (ps_ret (pe_exc1 PySem.F.excBase_ValueError (T.msg 2 (by decide)) (T.gC 2 (by decide)) (T.kC 2 (by decide)) (by rfl) (pv 1)))) pss_nil)
      (pss_cons (ps_if (pt_cmpR op_eq (pv 0) pe_int (nomark _)) (pss_one (ps_ret (pe_exc1 PySem.F.excBase_ValueError (T.msg 3 (by decide)) (T.gC 3 (by decide)) (T.kC 3 (by decide)) (by rfl) (pv 1)))) pss_nil)
      (pss_one (ps_ret (pe_ifExp (pt_cmpR op_eq (pv 0) pe_int (nomark _)) (pe_exc1 PySem.F.excBase_ValueError (T.msg 4 (by decide)) (T.gC 4 (by decide)) (T.kC 4 (by decide)) (by rfl) (pv 1)) (pe_exc1 PySem.F.excBase_ValueError (T.msg 5 (by decide)) (T.gC 5 (by decide)) (T.kC 5 (by decide)) (by rfl) (pv 1))))))))), ?_⟩
    have fin : ∀ e, H e = none → Q (.ref e) (upd H e (ExO (.ref (cl lot)) e)) := fun e he => q e _ he (same_new he) (by unfold ErrOk; rw [if_pos hl]; exact upd_same)
    rcases (by omega : lot = 0 ∨ lot = 1 ∨ lot = 2 ∨ lot = 3 ∨ lot = 4 ∨ lot = 5) with rfl | rfl | rfl | rfl | rfl | rfl
    · exact ⟨_, rfl, rfl, _, rfl, eqT rfl ⟨_, rfl, fin⟩⟩
    · exact ⟨_, rfl, rfl, _, rfl, eqN (by decide) ⟨_, rfl, rfl, _, rfl, eqT rfl ⟨_, rfl, fin⟩⟩⟩
    · exact ⟨_, rfl, rfl, _, rfl, eqN (by decide) ⟨_, rfl, rfl, _, rfl, eqN (by decide) ⟨_, rfl, rfl, _, rfl, eqT rfl ⟨_, rfl, fin⟩⟩⟩⟩
    · exact ⟨_, rfl, rfl, _, rfl, eqN (by decide) ⟨_, rfl, rfl, _, rfl, eqN (by decide) ⟨_, rfl, rfl, _, rfl, eqN (by decide) ⟨_, rfl, rfl, _, rfl, eqT rfl ⟨_, rfl, fin⟩⟩⟩⟩⟩
    · exact ⟨_, rfl, rfl, _, rfl, eqN (by decide) ⟨_, rfl, rfl, _, rfl, eqN (by decide) ⟨_, rfl, rfl, _, rfl, eqN (by decide) ⟨_, rfl, rfl, _, rfl, eqN (by decide) ⟨_, rfl, rfl, _, rfl, eqT rfl ⟨_, rfl, fin⟩⟩⟩⟩⟩⟩
    · exact ⟨_, rfl, rfl, _, rfl, eqN (by decide) ⟨_, rfl, rfl, _, rfl, eqN (by decide) ⟨_, rfl, rfl, _, rfl, eqN (by decide) ⟨_, rfl, rfl, _, rfl, eqN (by decide) ⟨_, rfl, rfl, _, rfl, eqN (by decide) ⟨_, rfl, fin⟩⟩⟩⟩⟩⟩
theorem ok_made (F : FnP K "_law_made_one" sMade f fd) (T : Cls13 K mg cl ini sN) (I : Inits P w K mg base cl ini f6 f7 f8 f9 f10 f11) (FF : FnOk P w K mg base CX0 1 fF fdF ["lot", "value"] (spMade cl 6)) (gF : mg "_law_first_ones" = some (.ref fF)) (kF : PySem.W.keepIn K (.ref fF) = true)
    (bF : Binds K fdF ["lot", "value"] []) : FnOk P w K mg base CX0 3 f fd ["lot", "value"] (spMade cl 12) := by
  refine F.ok scMade (fun vs H Q E h => ?_) (fun cdv A outer s H vs Q E hr h => ?_)
  · obtain ⟨lot, v, rfl, _⟩ := h
    rfl
  · obtain ⟨lot, v, rfl, hl, q⟩ := h
    refine ⟨_, PSs.nox (pss_cons (ps_if (pt_cmpR op_lt (pv 0) pe_int (nomark _)) (pss_one (ps_ret (pe_call FF (hr.mono (by decide)) (by rfl) gF kF bF .nil pass0 (pa_cons (pv 0) (pa_cons (pv 1) pa_nil))))) pss_nil)
      (pss_cons (ps_if (pt_cmpR op_eq (pv 0) pe_int (nomark _)) (pss_one (ps_ret (pe_new (T.init 6 (by decide) (by decide)) I.i6 (hr.mono (by decide)) I.b6 pass0 (by rfl) (T.gC 6 (by decide)) (pa_cons (pv 1) pa_nil)))) pss_nil)
      (pss_cons (ps_if (pt_cmpR op_eq (pv 0) pe_int (nomark _)) (pss_one (ps_ret (pe_new (T.init 7 (by decide) (by decide)) I.i7 (hr.mono (by decide)) I.b7 pass0 (by rfl) (T.gC 7 (by decide)) (pa_cons (pv 1) pa_nil)))) pss_nil)
      (pss_cons (ps_if (pt_cmpR op_eq (pv 0) pe_int (nomark _)) (pss_one (ps_ret (pe_new (T.init 8 (by decide) (by decide)) I.i8 (hr.mono (by decide)) I.b8 pass0 (by rfl) (T.gC 8 (by decide)) (pa_cons (pv 1) pa_nil)))) pss_nil)
      (pss_cons (ps_if (pt_cmpR op_eq (pv 0) pe_int (nomark _)) (pss_one (ps_ret (pe_new (T.init 9 (by decide) (by decide)) I.i9 (hr.mono (by decide)) I.b9 pass0 (by rfl) (T.gC 9 (by decide)) (pa_cons (pv 1) pa_nil)))) pss_nil)
      (pss_one (ps_ret (pe_ifExp (pt_cmpR op_eq (pv 0) pe_int (nomark _)) (pe_new (T.init 10 (by decide) (by decide)) I.i10 (hr.mono (by decide)) I.b10 pass0 (by rfl) (T.gC 10 (by decide)) (pa_cons (pv 1) (pa_cons (pe_tup (pa_cons (pv 1) (pa_cons pe_str pa_nil))) pa_nil))) (pe_new (T.init 11 (by decide) (by decide)) I.i11 (hr.mono (by decide)) I.b11 pass0 (by rfl) (T.gC 11 (by decide)) (pa_cons (pv 1) pa_nil)))))))))), ?_⟩
    refine ⟨_, rfl, _, _, rfl, rfl, _, rfl, ?_⟩
    by_cases c : lot < 6
    · exact ltT (by omega) ⟨_, rfl, _, rfl, lot, v, rfl, c, fun e H' he k h => q e H' he k h⟩
    · refine ltN (by omega) ?_
      have fin : ∀ C e d, C = cl lot → lot ≠ 10 → H e = none → (upd H e (exo e C none)) d = none → d ≠ e → V.non = V.non ∧ Q (.ref e) (upd (upd (upd H e (exo e C none)) d (exd d [(fld lot, v)])) e (exo e C (some d))) := by
        rintro C e d rfl h10 he hd hne
        rw [upd_ne hne] at hd
        refine ⟨rfl, q e _ he (fun b o z => ?_) ?_⟩
        · have n1 := ne_of_none z he
          rw [upd_ne n1, upd_ne (ne_of_none z hd), upd_ne n1]
          exact z
        · unfold ErrOk
          rw [if_neg c, if_neg h10]
          exact ⟨d, upd_same, by rw [upd_ne hne]; exact upd_same⟩
      rcases (by omega : lot = 6 ∨ lot = 7 ∨ lot = 8 ∨ lot = 9 ∨ lot = 10 ∨ lot = 11) with rfl | rfl | rfl | rfl | rfl | rfl
      · exact ⟨_, rfl, rfl, _, rfl, eqT rfl ⟨_, rfl, by show 1 ≤ 1000; decide, fun e he => ⟨e, ini 6, v, rfl, T.init 6 (by decide) (by decide), (T.tk 6 (by decide) (by decide)).1, upd_same, fun d hd hne => fin _ e d rfl (by decide) he hd hne⟩⟩⟩
      · exact ⟨_, rfl, rfl, _, rfl, eqN (by decide) ⟨_, rfl, rfl, _, rfl, eqT rfl ⟨_, rfl, by show 1 ≤ 1000; decide, fun e he => ⟨e, ini 7, v, rfl, T.init 7 (by decide) (by decide), (T.tk 7 (by decide) (by decide)).1, upd_same, fun d hd hne => fin _ e d rfl (by decide) he hd hne⟩⟩⟩⟩
      · exact ⟨_, rfl, rfl, _, rfl, eqN (by decide) ⟨_, rfl, rfl, _, rfl, eqN (by decide) ⟨_, rfl, rfl, _, rfl, eqT rfl ⟨_, rfl, by show 1 ≤ 1000; decide, fun e he => ⟨e, ini 8, v, rfl, T.init 8 (by decide) (by decide), (T.tk 8 (by decide) (by decide)).1, upd_same, fun d hd hne => fin _ e d rfl (by decide) he hd hne⟩⟩⟩⟩⟩
      · exact ⟨_, rfl, rfl, _, rfl, eqN (by decide) ⟨_, rfl, rfl, _, rfl, eqN (by decide) ⟨_, rfl, rfl, _, rfl, eqN (by decide) ⟨_, rfl, rfl, _, rfl, eqT rfl ⟨_, rfl, by show 1 ≤ 1000; decide, fun e he => ⟨e, ini 9, v, rfl, T.init 9 (by decide) (by decide), (T.tk 9 (by decide) (by decide)).1, upd_same, fun d hd hne => fin _ e d rfl (by decide) he hd hne⟩⟩⟩⟩⟩⟩
      · refine ⟨_, rfl, rfl, _, rfl, eqN (by decide) ⟨_, rfl, rfl, _, rfl, eqN (by decide) ⟨_, rfl, rfl, _, rfl, eqN (by decide) ⟨_, rfl, rfl, _, rfl, eqN (by decide) ⟨_, rfl, rfl, _, rfl, eqT rfl ⟨_, rfl, _, rfl, by show 2 ≤ sizeLine; decide, fun t ht => ?_⟩⟩⟩⟩⟩⟩
        refine ⟨by show 2 ≤ 1000; decide, fun e he => ⟨e, ini 10, v, .ref t, rfl, T.init 10 (by decide) (by decide), (T.tk 10 (by decide) (by decide)).1, T.tk2.1, upd_same, fun d H' hd hne rest h1 h2 => ⟨rfl, ?_⟩⟩⟩
        have et : t ≠ e := ne_of_none (H := upd H t (.tup [v, .str "x"])) upd_same he
        rw [upd_ne hne] at hd
        have dt : d ≠ t := fun z => by rw [z, upd_same] at hd; cases hd
        rw [upd_ne (Ne.symm et)] at he
        rw [upd_ne dt] at hd
        refine q e H' he (fun b o z => ?_) ?_
        · have n1 := ne_of_none z he
          have n2 := ne_of_none z hd
          rw [rest b n1 n2, upd_ne n1, upd_ne (ne_of_none z ht)]
          exact z
        · unfold ErrOk
          rw [if_neg c, if_pos rfl]
          exact ⟨d, t, h1, h2, by rw [rest t et (Ne.symm dt), upd_ne et]; exact upd_same⟩
      · exact ⟨_, rfl, rfl, _, rfl, eqN (by decide) ⟨_, rfl, rfl, _, rfl, eqN (by decide) ⟨_, rfl, rfl, _, rfl, eqN (by decide) ⟨_, rfl, rfl, _, rfl, eqN (by decide) ⟨_, rfl, rfl, _, rfl, eqN (by decide) ⟨_, rfl, by show 1 ≤ 1000; decide, fun e he => ⟨e, ini 11, v, rfl, T.init 11 (by decide) (by decide), (T.tk 11 (by decide) (by decide)).1, upd_same, fun d hd hne => fin _ e d rfl (by decide) he hd hne⟩⟩⟩⟩⟩⟩⟩
end
end K1

namespace K1
open PySem PySem.Spec PyProof.Rows L2 XE
open PySem.W (Frag)
section
variable {P : Program} {w : World} {K : Frag} {mg : Str → Option Value} {base : Heap} {cl ini : Nat → Addr} {sN f : Addr} {fd f6 f7 f8 f9 f10 f11 : FuncData}
theorem ok_thrown (F : FnP K "_law_thrown" sThrown f fd) (T : Cls13 K mg cl ini sN) (I : Inits P w K mg base cl ini f6 f7 f8 f9 f10 f11) : FnOk P w K mg base (L2.CX P w) 4 f fd ["lot", "value"] (spThrown cl) := by
  refine F.ok scThrown (fun vs H Q E h => ?_) (fun cdv A outer s H vs Q E hr h => ?_)
  · obtain ⟨lot, v, rfl, _⟩ := h
    rfl
  · obtain ⟨lot, v, rfl, hl, q⟩ := h
    refine ⟨_, (pss_cons (ps_if (pt_cmpR op_eq (pv 0) pe_int (nomark _)) (pss_one (ps_raise (W := fun cls d _ H => E cls d H) rfl (takes_of rfl rfl rfl rfl) (SkE.pmk_own1 PySem.F.excBase_ValueError (T.msg 0 (by decide)) (T.gC 0 (by decide)) (T.kC 0 (by decide)) (raises13 T (by decide)) (by rfl) (pv 1)))) pss_nil)
      (pss_cons (ps_if (pt_cmpR op_eq (pv 0) pe_int (nomark _)) (pss_one (ps_raise (W := fun cls d _ H => E cls d H) rfl (takes_of rfl rfl rfl rfl) (SkE.pmk_own1 PySem.F.excBase_ValueError (T.msg 1 (by decide)) (T.gC 1 (by decide)) (T.kC 1 (by decide)) (raises13 T (by decide)) (by rfl) (pv 1)))) pss_nil)
      (pss_cons (ps_if (pt_cmpR op_eq (pv 0) pe_int (nomark _)) (pss_one (ps_raise (W := fun cls d _ H => E cls d H) rfl (takes_of rfl rfl rfl rfl) (SkE.pmk_own1 PySem.F.excBase_ValueError (T.msg 2 (by decide)) (T.gC 2 (by decide)) (T.kC 2 (by decide)) (raises13 T (by decide)) (by rfl) (pv 1)))) pss_nil)
      (pss_cons (ps_if (pt_cmpR op_eq (pv 0) pe_int (nomark _)) (pss_one (ps_raise (W := fun cls d _ H => E cls d H) rfl (takes_of rfl rfl rfl rfl) (SkE.pmk_own1 PySem.F.excBase_ValueError (T.msg 3 (by decide)) (T.gC 3 (by decide)) (T.kC 3 (by decide)) (raises13 T (by decide)) (by rfl) (pv 1)))) pss_nil)
      (pss_cons (ps_if (pt_cmpR op_eq (pv 0) pe_int (nomark _)) (pss_one (ps_raise (W := fun cls d _ H => E cls d H) rfl (takes_of rfl rfl rfl rfl) (SkE.pmk_own1 PySem.F.excBase_ValueError (T.msg 4 (by decide)) (T.gC 4 (by decide)) (T.kC 4 (by decide)) (raises13 T (by decide)) (by rfl) (pv 1)))) pss_nil)
      (pss_cons (ps_if (pt_cmpR op_eq (pv 0) pe_int (nomark _)) (pss_one (ps_raise (W := fun cls d _ H => E cls d H) rfl (takes_of rfl rfl rfl rfl) (SkE.pmk_own1 PySem.F.excBase_ValueError (T.msg 5 (by decide)) (T.gC 5 (by decide)) (T.kC 5 (by decide)) (raises13 T (by decide)) (by rfl) (pv 1)))) pss_nil)
      (pss_cons (ps_if (pt_cmpR op_eq (pv 0) pe_int (nomark _)) (pss_one (ps_raise (W := fun cls d _ H => E cls d H) rfl (takes_of rfl rfl rfl rfl) (pmk_new (T.init 6 (by decide) (by decide)) (raises13 T (by decide)) I.i6 (hr.mono (by decide)) I.b6 (by rfl) (T.gC 6 (by decide)) (pa_cons (pv 1) pa_nil)))) pss_nil)
      (pss_cons (ps_if (pt_cmpR op_eq (pv 0) pe_int (nomark _)) (pss_one (ps_raise (W := fun cls d _ H => E cls d H) rfl (takes_of rfl rfl rfl rfl) (pmk_new (T.init 7 (by decide) (by decide)) (raises13 T (by decide)) I.i7 (hr.mono (by decide)) I.b7 (by rfl) (T.gC 7 (by decide)) (pa_cons (pv 1) pa_nil)))) pss_nil)
      (pss_cons (ps_if (pt_cmpR op_eq (pv 0) pe_int (nomark _)) (pss_one (ps_raise (W := fun cls d _ H => E cls d H) rfl (takes_of rfl rfl rfl rfl) (pmk_new (T.init 8 (by decide) (by decide)) (raises13 T (by decide)) I.i8 (hr.mono (by decide)) I.b8 (by rfl) (T.gC 8 (by decide)) (pa_cons (pv 1) pa_nil)))) pss_nil)
      (pss_cons (ps_if (pt_cmpR op_eq (pv 0) pe_int (nomark _)) (pss_one (ps_raise (W := fun cls d _ H => E cls d H) rfl (takes_of rfl rfl rfl rfl) (pmk_new (T.init 9 (by decide) (by decide)) (raises13 T (by decide)) I.i9 (hr.mono (by decide)) I.b9 (by rfl) (T.gC 9 (by decide)) (pa_cons (pv 1) pa_nil)))) pss_nil)
      (pss_cons (ps_if (pt_cmpR op_eq (pv 0) pe_int (nomark _)) (pss_one (ps_raise (W := fun cls d _ H => E cls d H) rfl (takes_of rfl rfl rfl rfl) (pmk_new (T.init 10 (by decide) (by decide)) (raises13 T (by decide)) I.i10 (hr.mono (by decide)) I.b10 (by rfl) (T.gC 10 (by decide)) (pa_cons (pv 1) (pa_cons (pe_tup (pa_cons (pv 1) (pa_cons pe_str pa_nil))) pa_nil))))) pss_nil)
      (pss_one (ps_raise (W := fun cls d _ H => E cls d H) rfl (takes_of rfl rfl rfl rfl) (pmk_new (T.init 11 (by decide) (by decide)) (raises13 T (by decide)) I.i11 (hr.mono (by decide)) I.b11 (by rfl) (T.gC 11 (by decide)) (pa_cons (pv 1) pa_nil))))))))))))))), ?_⟩
    have fin : ∀ C e d, C = cl lot → ¬ lot < 6 → H e = none → (upd H e (exo e C none)) d = none → d ≠ e → V.non = V.non ∧ ∃ (d' : Addr) (fs : List (Str × V)), (upd (upd (upd H e (exo e C none)) d (exd d [(fld lot, v)])) e (exo e C (some d))) e = some (exo e C (some d')) ∧
        (upd (upd (upd H e (exo e C none)) d (exd d [(fld lot, v)])) e (exo e C (some d))) d' = some (exd d' fs) ∧ H d' = none ∧ E (.ref C) (some d') (upd (del (upd (upd (upd H e (exo e C none)) d (exd d [(fld lot, v)])) e (exo e C (some d))) e) d' (.xd fs)) := by
      rintro C e d rfl c he hd hne
      rw [upd_ne hne] at hd
      refine ⟨rfl, d, _, upd_same, by rw [upd_ne hne]; exact upd_same, hd, q _ _ (fun z => absurd z c) fun b o z => ?_⟩
      have n1 := ne_of_none z he
      have n2 := ne_of_none z hd
      rw [upd_ne n2, del_ne n1, upd_ne n1, upd_ne n2, upd_ne n1]
      exact z
    rcases (by omega : lot = 0 ∨ lot = 1 ∨ lot = 2 ∨ lot = 3 ∨ lot = 4 ∨ lot = 5 ∨ lot = 6 ∨ lot = 7 ∨ lot = 8 ∨ lot = 9 ∨ lot = 10 ∨ lot = 11) with rfl | rfl | rfl | rfl | rfl | rfl | rfl | rfl | rfl | rfl | rfl | rfl
    · exact ⟨_, rfl, rfl, _, rfl, eqT rfl ⟨_, rfl, q none H (fun _ => rfl) fun _ _ z => z⟩⟩
    · exact ⟨_, rfl, rfl, _, rfl, eqN (by decide) ⟨_, rfl, rfl, _, rfl, eqT rfl ⟨_, rfl, q none H (fun _ => rfl) fun _ _ z => z⟩⟩⟩
    · exact ⟨_, rfl, rfl, _, rfl, eqN (by decide) ⟨_, rfl, rfl, _, rfl, eqN (by decide) ⟨_, rfl, rfl, _, rfl, eqT rfl ⟨_, rfl, q none H (fun _ => rfl) fun _ _ z => z⟩⟩⟩⟩
    · exact ⟨_, rfl, rfl, _, rfl, eqN (by decide) ⟨_, rfl, rfl, _, rfl, eqN (by decide) ⟨_, rfl, rfl, _, rfl, eqN (by decide) ⟨_, rfl, rfl, _, rfl, eqT rfl ⟨_, rfl, q none H (fun _ => rfl) fun _ _ z => z⟩⟩⟩⟩⟩
    · exact ⟨_, rfl, rfl, _, rfl, eqN (by decide) ⟨_, rfl, rfl, _, rfl, eqN (by decide) ⟨_, rfl, rfl, _, rfl, eqN (by decide) ⟨_, rfl, rfl, _, rfl, eqN (by decide) ⟨_, rfl, rfl, _, rfl, eqT rfl ⟨_, rfl, q none H (fun _ => rfl) fun _ _ z => z⟩⟩⟩⟩⟩⟩
    · exact ⟨_, rfl, rfl, _, rfl, eqN (by decide) ⟨_, rfl, rfl, _, rfl, eqN (by decide) ⟨_, rfl, rfl, _, rfl, eqN (by decide) ⟨_, rfl, rfl, _, rfl, eqN (by decide) ⟨_, rfl, rfl, _, rfl, eqN (by decide) ⟨_, rfl, rfl, _, rfl, eqT rfl ⟨_, rfl, q none H (fun _ => rfl) fun _ _ z => z⟩⟩⟩⟩⟩⟩⟩
    · exact ⟨_, rfl, rfl, _, rfl, eqN (by decide) ⟨_, rfl, rfl, _, rfl, eqN (by decide) ⟨_, rfl, rfl, _, rfl, eqN (by decide) ⟨_, rfl, rfl, _, rfl, eqN (by decide) ⟨_, rfl, rfl, _, rfl, eqN (by decide) ⟨_, rfl, rfl, _, rfl, eqN (by decide) ⟨_, rfl, rfl, _, rfl, eqT rfl ⟨_, rfl, by show 1 ≤ 1000; decide, fun e he => ⟨e, ini 6, v, rfl, T.init 6 (by decide) (by decide), (T.tk 6 (by decide) (by decide)).1, upd_same, fun d hd hne => fin _ e d rfl (by decide) he hd hne⟩⟩⟩⟩⟩⟩⟩⟩⟩
    · exact ⟨_, rfl, rfl, _, rfl, eqN (by decide) ⟨_, rfl, rfl, _, rfl, eqN (by decide) ⟨_, rfl, rfl, _, rfl, eqN (by decide) ⟨_, rfl, rfl, _, rfl, eqN (by decide) ⟨_, rfl, rfl, _, rfl, eqN (by decide) ⟨_, rfl, rfl, _, rfl, eqN (by decide) ⟨_, rfl, rfl, _, rfl, eqN (by decide) ⟨_, rfl, rfl, _, rfl, eqT rfl ⟨_, rfl, by show 1 ≤ 1000; decide, fun e he => ⟨e, ini 7, v, rfl, T.init 7 (by decide) (by decide), (T.tk 7 (by decide) (by decide)).1, upd_same, fun d hd hne => fin _ e d rfl (by decide) he hd hne⟩⟩⟩⟩⟩⟩⟩⟩⟩⟩
    · exact ⟨_, rfl, rfl, _, rfl, eqN (by decide) ⟨_, rfl, rfl, _, rfl, eqN (by decide) ⟨_, rfl, rfl, _, rfl, eqN (by decide) ⟨_, rfl, rfl, _, rfl, eqN (by decide) ⟨_, rfl, rfl, _, rfl, eqN (by decide) ⟨_, rfl, rfl, _, rfl, eqN (by decide) ⟨_, rfl, rfl, _, rfl, eqN (by decide) ⟨_, rfl, rfl, _, rfl, eqN (by decide) ⟨_, rfl, rfl, _, rfl, eqT rfl ⟨_, rfl, by show 1 ≤ 1000; decide, fun e he => ⟨e, ini 8, v, rfl, T.init 8 (by decide) (by decide), (T.tk 8 (by decide) (by decide)).1, upd_same, fun d hd hne => fin _ e d rfl (by decide) he hd hne⟩⟩⟩⟩⟩⟩⟩⟩⟩⟩⟩
    · exact ⟨_, rfl, rfl, _, rfl, eqN (by decide) ⟨_, rfl, rfl, _, rfl, eqN (by decide) ⟨_, rfl, rfl, _, rfl, eqN (by decide) ⟨_, rfl, rfl, _, rfl, eqN (by decide) ⟨_, rfl, rfl, _, rfl, eqN (by decide) ⟨_, rfl, rfl, _, rfl, eqN (by decide) ⟨_, rfl, rfl, _, rfl, eqN (by decide) ⟨_, rfl, rfl, _, rfl, eqN (by decide) ⟨_, rfl, rfl, _, rfl, eqN (by decide) ⟨_, rfl, rfl, _, rfl, eqT rfl ⟨_, rfl, by show 1 ≤ 1000; decide, fun e he => ⟨e, ini 9, v, rfl, T.init 9 (by decide) (by decide), (T.tk 9 (by decide) (by decide)).1, upd_same, fun d hd hne => fin _ e d rfl (by decide) he hd hne⟩⟩⟩⟩⟩⟩⟩⟩⟩⟩⟩⟩
    · refine ⟨_, rfl, rfl, _, rfl, eqN (by decide) ⟨_, rfl, rfl, _, rfl, eqN (by decide) ⟨_, rfl, rfl, _, rfl, eqN (by decide) ⟨_, rfl, rfl, _, rfl, eqN (by decide) ⟨_, rfl, rfl, _, rfl, eqN (by decide) ⟨_, rfl, rfl, _, rfl, eqN (by decide) ⟨_, rfl, rfl, _, rfl, eqN (by decide) ⟨_, rfl, rfl, _, rfl, eqN (by decide) ⟨_, rfl, rfl, _, rfl, eqN (by decide) ⟨_, rfl, rfl, _, rfl, eqN (by decide) ⟨_, rfl, rfl, _, rfl, eqT rfl ⟨_, rfl, _, rfl, by show 2 ≤ sizeLine; decide, fun t ht => ?_⟩⟩⟩⟩⟩⟩⟩⟩⟩⟩⟩⟩
      refine ⟨by show 2 ≤ 1000; decide, fun e he => ⟨e, ini 10, v, .ref t, rfl, T.init 10 (by decide) (by decide), (T.tk 10 (by decide) (by decide)).1, T.tk2.1, upd_same, fun d H' hd hne rest h1 h2 => ⟨rfl, d, _, h1, h2, ?_, q _ _ (fun z => absurd z (by decide)) fun b o z => ?_⟩⟩⟩
      · rw [upd_ne hne] at hd
        exact hd
      · have n0 := ne_of_none z ht
        have z1 : (upd H t (.tup [v, .str "x"])) b = some o := by rw [upd_ne n0]; exact z
        have n1 := ne_of_none z1 he
        rw [upd_ne hne] at hd
        have n2 := ne_of_none z1 hd
        rw [upd_ne n2, del_ne n1, rest b n1 n2, upd_ne n1]
        exact z1
    · exact ⟨_, rfl, rfl, _, rfl, eqN (by decide) ⟨_, rfl, rfl, _, rfl, eqN (by decide) ⟨_, rfl, rfl, _, rfl, eqN (by decide) ⟨_, rfl, rfl, _, rfl, eqN (by decide) ⟨_, rfl, rfl, _, rfl, eqN (by decide) ⟨_, rfl, rfl, _, rfl, eqN (by decide) ⟨_, rfl, rfl, _, rfl, eqN (by decide) ⟨_, rfl, rfl, _, rfl, eqN (by decide) ⟨_, rfl, rfl, _, rfl, eqN (by decide) ⟨_, rfl, rfl, _, rfl, eqN (by decide) ⟨_, rfl, rfl, _, rfl, eqN (by decide) (⟨_, rfl, by show 1 ≤ 1000; decide, fun e he => ⟨e, ini 11, v, rfl, T.init 11 (by decide) (by decide), (T.tk 11 (by decide) (by decide)).1, upd_same, fun d hd hne => fin _ e d rfl (by decide) he hd hne⟩⟩)⟩⟩⟩⟩⟩⟩⟩⟩⟩⟩⟩
end
end K1

/-! what an error is of, and what is due -/
namespace K1
open PySem PySem.Spec PyProof.Rows L2 XE
open PySem.W (Frag)
abbrev sSorts : Stmt := top 22
abbrev sBases : Stmt := top 23
abbrev sDue : Stmt := top 24
def sorts (lot : Nat) : List V := (List.range 13).map fun i => .bl (isSub lot i)
def bases (lot : Nat) : List V := (List.range 7).map fun i => .bl (isBase lot i)
theorem Held.same {H H' : Hp} {a C : Addr} (h : Held H a C) (k : Same H H') : Held H' a C := by
  cases h with
  | bare h => exact .bare (k _ _ h)
  | dict h hd => exact .dict (k _ _ h) (k _ _ hd)
theorem ErrOk.held {cl : Nat → Addr} {H : Hp} {lot : Nat} {v : V} {e : Addr} (h : ErrOk cl H lot v e) : Held H e (cl lot) := by
  unfold ErrOk at h
  split at h
  · exact .bare h
  · split at h
    · rename_i c
      obtain ⟨d, t, h1, h2, _⟩ := h
      rw [c]
      exact .dict h1 h2
    · obtain ⟨d, h1, h2⟩ := h
      exact .dict h1 h2
def spSorts (cl : Nat → Addr) : Sp := fun vs H Q _ => ∃ (lot : Nat) (e : Addr), vs = [.ref e] ∧ lot < 12 ∧ Held H e (cl lot) ∧ ∀ p H', Same H H' → H' p = some (.lst (sorts lot)) → Q (.ref p) H'
def spBases (cl : Nat → Addr) : Sp := fun vs H Q _ => ∃ (lot : Nat) (e : Addr), vs = [.ref e] ∧ lot < 12 ∧ Held H e (cl lot) ∧ ∀ p H', Same H H' → H' p = some (.lst (bases lot)) → Q (.ref p) H'
section
variable {P : Program} {w : World} {K : Frag} {mg : Str → Option Value} {base : Heap} {cl ini : Nat → Addr} {sN f : Addr} {fd : FuncData}
theorem scSorts : FnScope ["error", "found"] ["error"] (defScope sSorts) := ⟨rfl, rfl, rfl, by decide +kernel, rfl, by decide +kernel, by decide +kernel⟩
theorem scBases : FnScope ["error", "found"] ["error"] (defScope sBases) := ⟨rfl, rfl, rfl, by decide +kernel, rfl, by decide +kernel, by decide +kernel⟩
theorem bI : bootBuiltins "isinstance" = some (.builtin "isinstance") := by decide +kernel
/-! ### steps -/
def ItA (ta : TA) (σ : L2.St) (H : Hp) (vs : List V) : Prop := ∀ R : List V → Hp → Prop, R vs H → ta σ H R
def ItE (te : TE) (σ : L2.St) (H : Hp) (v : V) : Prop := ∀ R : VK, R v H → te σ H R
theorem it_nil {σ : L2.St} {H : Hp} : ItA tNil σ H [] := fun _ h => h
theorem it_cons {σ : L2.St} {H : Hp} {te : TE} {ta : TA} {v : V} {vs : List V} (he : ItE te σ H v) (ht : ItA ta σ H vs) : ItA (tCons te ta) σ H (v :: vs) := fun R h => he _ (ht _ h)
theorem it_isi {σ : L2.St} {H : Hp} {c : V} {cv : Value} {b : Bool} {e C : Addr} {i : Nat} (h0 : σ[i]? = some (some (.ref e))) (X : ExcC K C) (h : Held H e C) (k : ClsV c cv) (kk : PySem.W.kitOne K (.ref C) cv = some b) :
    ItE (tCB (rIsH K) (tCons (tVar i) (tCons (tC c) tNil))) σ H (.bl b) := fun R r => ⟨_, h0, e, C, c, cv, b, rfl, X, h, k, kk, r⟩
theorem lst_step {ta : TA} {σ : L2.St} {H : Hp} {Q : VK} {zs : List V} (ha : ItA ta σ H zs) (len : zs.length ≤ 1000) (fin : ∀ p H', Same H H' → H' p = some (.lst zs) → Q (.ref p) H') : tLst ta σ H Q :=
  ha _ ⟨Nat.le_trans len (by decide), fun p hp => fin p _ (same_new hp) upd_same⟩
theorem cat_step {ta : TA} {σ : L2.St} {H : Hp} {Q : VK} {p0 : Addr} {xs zs : List V} {i : Nat} (h0 : σ[i]? = some (some (.ref p0))) (f0 : H p0 = some (.lst xs)) (ha : ItA ta σ H zs) (len : xs.length + zs.length ≤ 1000)
    (fin : ∀ p H', Same H H' → H' p = some (.lst (xs ++ zs)) → Q (.ref p) H') : tOp rCat (tVar i) (tLst ta) σ H Q :=
  ⟨_, h0, lst_step ha (by omega) fun q H1 k hq => ⟨p0, q, xs, zs, rfl, rfl, k _ _ f0, hq, Nat.le_trans len (by decide), fun p hp => fin p _ (Same.then k (same_new hp)) upd_same⟩⟩
theorem seq_lst {ta : TA} {u : TS} {D : Ends} {σ : L2.St} {H : Hp} {zs : List V} {i : Nat} (ha : ItA ta σ H zs) (len : zs.length ≤ 1000) (fin : ∀ p H', Same H H' → H' p = some (.lst zs) → u D (σ.set i (some (.ref p))) H') : tSeq (tAsg (tLst ta) (gName i)) u D σ H :=
  show tLst ta σ H (fun x H1 => u D (σ.set i (some x)) H1) from lst_step ha len fin
theorem seq_cat {ta : TA} {u : TS} {D : Ends} {σ : L2.St} {H : Hp} {p0 : Addr} {xs zs : List V} {i j : Nat} (h0 : σ[i]? = some (some (.ref p0))) (f0 : H p0 = some (.lst xs)) (ha : ItA ta σ H zs) (len : xs.length + zs.length ≤ 1000)
    (fin : ∀ p H', Same H H' → H' p = some (.lst (xs ++ zs)) → u D (σ.set j (some (.ref p))) H') : tSeq (tAsg (tOp rCat (tVar i) (tLst ta)) (gName j)) u D σ H := show tOp rCat (tVar i) (tLst ta) σ H (fun x H1 => u D (σ.set j (some x)) H1) from cat_step h0 f0 ha len fin
theorem ret_cat {ta : TA} {D : Ends} {σ : L2.St} {H : Hp} {p0 : Addr} {xs zs : List V} {i : Nat} (h0 : σ[i]? = some (some (.ref p0))) (f0 : H p0 = some (.lst xs)) (ha : ItA ta σ H zs) (len : xs.length + zs.length ≤ 1000)
    (fin : ∀ p H', Same H H' → H' p = some (.lst (xs ++ zs)) → D.rt (.ref p) H') : tRet (tOp rCat (tVar i) (tLst ta)) D σ H := show tOp rCat (tVar i) (tLst ta) σ H D.rt from cat_step h0 f0 ha len fin
theorem ok_sorts (F : FnP K "_law_sorts" sSorts f fd) (T : Cls13 K mg cl ini sN) (mI : mg "isinstance" = none) : FnOk P w K mg base CX0 1 f fd ["error"] (spSorts cl) := by
  refine F.ok scSorts (fun vs H Q E h => ?_) (fun cdv A outer s H vs Q E hr h => ?_)
  · obtain ⟨lot, e, rfl, _⟩ := h
    rfl
  · obtain ⟨lot, e, rfl, hl, HH, q⟩ := h
    refine ⟨_, PSs.nox (pss_cons (ps_set (i := 1) scSorts.nd rfl (.inl rfl) (pe_lst (pa_cons (pe_callB call_isH (by rfl) mI bI (pa_cons (pv 0) (pa_cons (pe_glob (v := .ref (cl 0)) (by rfl) (T.gC 0 (by decide)) rfl) pa_nil))) (pa_cons (pe_callB call_isH (by rfl) mI bI (pa_cons (pv 0) (pa_cons (pe_glob (v := .ref (cl 1)) (by rfl) (T.gC 1 (by decide)) rfl) pa_nil))) (pa_cons (pe_callB call_isH (by rfl) mI bI (pa_cons (pv 0) (pa_cons (pe_glob (v := .ref (cl 2)) (by rfl) (T.gC 2 (by decide)) rfl) pa_nil))) pa_nil)))))
      (pss_cons (ps_set (i := 1) scSorts.nd rfl (.inl rfl) (pe_op op_cat (pv 1) (pe_lst (pa_cons (pe_callB call_isH (by rfl) mI bI (pa_cons (pv 0) (pa_cons (pe_glob (v := .ref (cl 3)) (by rfl) (T.gC 3 (by decide)) rfl) pa_nil))) (pa_cons (pe_callB call_isH (by rfl) mI bI (pa_cons (pv 0) (pa_cons (pe_glob (v := .ref (cl 4)) (by rfl) (T.gC 4 (by decide)) rfl) pa_nil))) pa_nil)))))
      (pss_cons (ps_set (i := 1) scSorts.nd rfl (.inl rfl) (pe_op op_cat (pv 1) (pe_lst (pa_cons (pe_callB call_isH (by rfl) mI bI (pa_cons (pv 0) (pa_cons (pe_glob (v := .ref (cl 5)) (by rfl) (T.gC 5 (by decide)) rfl) pa_nil))) (pa_cons (pe_callB call_isH (by rfl) mI bI (pa_cons (pv 0) (pa_cons (pe_glob (v := .ref (cl 6)) (by rfl) (T.gC 6 (by decide)) rfl) pa_nil))) pa_nil)))))
      (pss_cons (ps_set (i := 1) scSorts.nd rfl (.inl rfl) (pe_op op_cat (pv 1) (pe_lst (pa_cons (pe_callB call_isH (by rfl) mI bI (pa_cons (pv 0) (pa_cons (pe_glob (v := .ref (cl 7)) (by rfl) (T.gC 7 (by decide)) rfl) pa_nil))) (pa_cons (pe_callB call_isH (by rfl) mI bI (pa_cons (pv 0) (pa_cons (pe_glob (v := .ref (cl 8)) (by rfl) (T.gC 8 (by decide)) rfl) pa_nil))) (pa_cons (pe_callB call_isH (by rfl) mI bI (pa_cons (pv 0) (pa_cons (pe_glob (v := .ref (cl 9)) (by rfl) (T.gC 9 (by decide)) rfl) pa_nil))) pa_nil))))))
      (pss_one (ps_ret (pe_op op_cat (pv 1) (pe_lst (pa_cons (pe_callB call_isH (by rfl) mI bI (pa_cons (pv 0) (pa_cons (pe_glob (v := .ref (cl 10)) (by rfl) (T.gC 10 (by decide)) rfl) pa_nil))) (pa_cons (pe_callB call_isH (by rfl) mI bI (pa_cons (pv 0) (pa_cons (pe_glob (v := .ref (cl 11)) (by rfl) (T.gC 11 (by decide)) rfl) pa_nil))) (pa_cons (pe_callB call_isH (by rfl) mI bI (pa_cons (pv 0) (pa_cons (pe_glob (v := .ref (cl 12)) (by rfl) (T.gC 12 (by decide)) rfl) pa_nil))) pa_nil))))))))))), ?_⟩
    refine seq_lst (i := 1) (it_cons (it_isi (i := 0) rfl (T.exc lot hl) HH (.own _) (T.kit lot 0 hl (by decide))) (it_cons (it_isi (i := 0) rfl (T.exc lot hl) HH (.own _) (T.kit lot 1 hl (by decide))) (it_cons (it_isi (i := 0) rfl (T.exc lot hl) HH (.own _) (T.kit lot 2 hl (by decide))) it_nil))) (by show 3 ≤ 1000; decide) fun p0 H0 k0 f0 => ?_
    replace HH := Held.same HH k0
    refine seq_cat (j := 1) (i := 1) (p0 := p0) rfl f0 (it_cons (it_isi (i := 0) rfl (T.exc lot hl) HH (.own _) (T.kit lot 3 hl (by decide))) (it_cons (it_isi (i := 0) rfl (T.exc lot hl) HH (.own _) (T.kit lot 4 hl (by decide))) it_nil)) (by show 3 + 2 ≤ 1000; decide) fun p1 H1 k1 f1 => ?_
    replace HH := Held.same HH k1
    replace k1 := Same.then k0 k1
    refine seq_cat (j := 1) (i := 1) (p0 := p1) rfl f1 (it_cons (it_isi (i := 0) rfl (T.exc lot hl) HH (.own _) (T.kit lot 5 hl (by decide))) (it_cons (it_isi (i := 0) rfl (T.exc lot hl) HH (.own _) (T.kit lot 6 hl (by decide))) it_nil)) (by show 5 + 2 ≤ 1000; decide) fun p2 H2 k2 f2 => ?_
    replace HH := Held.same HH k2
    replace k2 := Same.then k1 k2
    refine seq_cat (j := 1) (i := 1) (p0 := p2) rfl f2 (it_cons (it_isi (i := 0) rfl (T.exc lot hl) HH (.own _) (T.kit lot 7 hl (by decide))) (it_cons (it_isi (i := 0) rfl (T.exc lot hl) HH (.own _) (T.kit lot 8 hl (by decide))) (it_cons (it_isi (i := 0) rfl (T.exc lot hl) HH (.own _) (T.kit lot 9 hl (by decide))) it_nil))) (by show 7 + 3 ≤ 1000; decide) fun p3 H3 k3 f3 => ?_
    replace HH := Held.same HH k3
    replace k3 := Same.then k2 k3
    refine ret_cat (i := 1) (p0 := p3) rfl f3 (it_cons (it_isi (i := 0) rfl (T.exc lot hl) HH (.own _) (T.kit lot 10 hl (by decide))) (it_cons (it_isi (i := 0) rfl (T.exc lot hl) HH (.own _) (T.kit lot 11 hl (by decide))) (it_cons (it_isi (i := 0) rfl (T.exc lot hl) HH (.own _) (T.kit lot 12 hl (by decide))) it_nil))) (by show 10 + 3 ≤ 1000; decide) fun p4 H4 k4 f4 => ?_
    replace HH := Held.same HH k4
    replace k4 := Same.then k3 k4
    exact q p4 H4 k4 f4
theorem ok_bases (F : FnP K "_law_bases" sBases f fd) (T : Cls13 K mg cl ini sN) (mI : mg "isinstance" = none) (mB : ∀ i, i < 7 → mg (Str.ofString (bn i)) = none) : FnOk P w K mg base CX0 1 f fd ["error"] (spBases cl) := by
  refine F.ok scBases (fun vs H Q E h => ?_) (fun cdv A outer s H vs Q E hr h => ?_)
  · obtain ⟨lot, e, rfl, _⟩ := h
    rfl
  · obtain ⟨lot, e, rfl, hl, HH, q⟩ := h
    refine ⟨_, PSs.nox (pss_cons (ps_set (i := 1) scBases.nd rfl (.inl rfl) (pe_lst (pa_cons (pe_callB call_isH (by rfl) mI bI (pa_cons (pv 0) (pa_cons (pe_bltn (v := .ty (bn 0)) (by rfl) (mB 0 (by decide)) (by decide +kernel) rfl) pa_nil))) (pa_cons (pe_callB call_isH (by rfl) mI bI (pa_cons (pv 0) (pa_cons (pe_bltn (v := .ty (bn 1)) (by rfl) (mB 1 (by decide)) (by decide +kernel) rfl) pa_nil))) (pa_cons (pe_callB call_isH (by rfl) mI bI (pa_cons (pv 0) (pa_cons (pe_bltn (v := .ty (bn 2)) (by rfl) (mB 2 (by decide)) (by decide +kernel) rfl) pa_nil))) pa_nil)))))
      (pss_cons (ps_set (i := 1) scBases.nd rfl (.inl rfl) (pe_op op_cat (pv 1) (pe_lst (pa_cons (pe_callB call_isH (by rfl) mI bI (pa_cons (pv 0) (pa_cons (pe_bltn (v := .ty (bn 3)) (by rfl) (mB 3 (by decide)) (by decide +kernel) rfl) pa_nil))) (pa_cons (pe_callB call_isH (by rfl) mI bI (pa_cons (pv 0) (pa_cons (pe_bltn (v := .ty (bn 4)) (by rfl) (mB 4 (by decide)) (by decide +kernel) rfl) pa_nil))) (pa_cons (pe_callB call_isH (by rfl) mI bI (pa_cons (pv 0) (pa_cons (pe_bltn (v := .ty (bn 5)) (by rfl) (mB 5 (by decide)) (by decide +kernel) rfl) pa_nil))) pa_nil))))))
      (pss_one (ps_ret (pe_op op_cat (pv 1) (pe_lst (pa_cons (pe_callB call_isH (by rfl) mI bI (pa_cons (pv 0) (pa_cons (pe_bltn (v := .ty (bn 6)) (by rfl) (mB 6 (by decide)) (by decide +kernel) rfl) pa_nil))) pa_nil))))))), ?_⟩
    refine seq_lst (i := 1) (it_cons (it_isi (i := 0) rfl (T.exc lot hl) HH (.ty _) (T.kib lot 0 hl (by decide))) (it_cons (it_isi (i := 0) rfl (T.exc lot hl) HH (.ty _) (T.kib lot 1 hl (by decide))) (it_cons (it_isi (i := 0) rfl (T.exc lot hl) HH (.ty _) (T.kib lot 2 hl (by decide))) it_nil))) (by show 3 ≤ 1000; decide) fun p0 H0 k0 f0 => ?_
    replace HH := Held.same HH k0
    refine seq_cat (j := 1) (i := 1) (p0 := p0) rfl f0 (it_cons (it_isi (i := 0) rfl (T.exc lot hl) HH (.ty _) (T.kib lot 3 hl (by decide))) (it_cons (it_isi (i := 0) rfl (T.exc lot hl) HH (.ty _) (T.kib lot 4 hl (by decide))) (it_cons (it_isi (i := 0) rfl (T.exc lot hl) HH (.ty _) (T.kib lot 5 hl (by decide))) it_nil))) (by show 3 + 3 ≤ 1000; decide) fun p1 H1 k1 f1 => ?_
    replace HH := Held.same HH k1
    replace k1 := Same.then k0 k1
    refine ret_cat (i := 1) (p0 := p1) rfl f1 (it_cons (it_isi (i := 0) rfl (T.exc lot hl) HH (.ty _) (T.kib lot 6 hl (by decide))) it_nil) (by show 6 + 1 ≤ 1000; decide) fun p2 H2 k2 f2 => ?_
    replace HH := Held.same HH k2
    replace k2 := Same.then k1 k2
    exact q p2 H2 k2 f2
end
end K1

namespace K1
open PySem PySem.Spec PyProof.Rows L2 XE
open PySem.W (Frag)
def tupOf : Nat → List V
  | 7 => [.int 1, .int 2]
  | 8 => [.int 4, .int 5]
  | 9 => [.int 1]
  | 10 => [.int 4]
  | 11 => [.int 4]
  | _ => [.int 0]
theorem eq_dec (k lot : Nat) : decide (V.int (k : Int) = V.int (lot : Int)) = (k == lot) := by
  by_cases h : k = lot
  · subst h
    simp
  · have h2 : ¬ (V.int (k : Int) = V.int (lot : Int)) := fun z => h (by have y := V.int.inj z; omega)
    rw [decide_eq_false h2]
    simpa using h
theorem sorts_is {lot : Nat} : ((List.range 12).map fun k : Nat => V.bl (decide (V.int (k : Int) = V.int (lot : Int)))) ++ [V.bl (decide ((lot : Int) < 7))] = sorts lot := by
  have e : (fun k : Nat => V.bl (decide (V.int (k : Int) = V.int (lot : Int)))) = fun k => V.bl (k == lot) := by
    funext k
    rw [eq_dec]
  have e2 : decide ((lot : Int) < 7) = decide (lot < 7) := by
    by_cases h : lot < 7
    · rw [decide_eq_true h, decide_eq_true (by omega)]
    · rw [decide_eq_false h, decide_eq_false (by omega)]
  rw [e, e2]
  rfl
theorem bases_is {lot : Nat} (h : lot < 12) : ((List.range 7).map fun k : Nat => V.bl (inV (.int (k : Int)) (tupOf lot))) = bases lot := by
  rcases (by omega : lot = 0 ∨ lot = 1 ∨ lot = 2 ∨ lot = 3 ∨ lot = 4 ∨ lot = 5 ∨ lot = 6 ∨ lot = 7 ∨ lot = 8 ∨ lot = 9 ∨ lot = 10 ∨ lot = 11) with rfl | rfl | rfl | rfl | rfl | rfl | rfl | rfl | rfl | rfl | rfl | rfl <;> decide +kernel
theorem tupOf_flat (lot : Nat) : (tupOf lot).all flatV = true := by
  unfold tupOf
  split <;> rfl
def spDue : Sp := fun vs H Q _ => ∃ lot : Nat, vs = [.int (lot : Int)] ∧ lot < 12 ∧ ∀ p a b H', Same H H' → H' p = some (.lst [.ref a, .ref b]) → H' a = some (.lst (sorts lot)) → H' b = some (.lst (bases lot)) → Q (.ref p) H'
section
variable {P : Program} {w : World} {K : Frag} {mg : Str → Option Value} {base : Heap} {f : Addr} {fd : FuncData}
theorem scDue : FnScope ["lot", "some", "at"] ["lot"] (defScope sDue) := ⟨rfl, rfl, rfl, by decide +kernel, rfl, by decide +kernel, by decide +kernel⟩
theorem ok_due (F : FnP K "_law_due" sDue f fd) (mR : mg "range" = none) : FnOk P w K mg base CX0 1 f fd ["lot"] spDue := by
  refine F.ok scDue (fun vs H Q E h => ?_) (fun cdv A outer s H vs Q E hr h => ?_)
  · obtain ⟨lot, rfl, _⟩ := h
    rfl
  · obtain ⟨lot, rfl, hl, q⟩ := h
    have room : (A.deeper (envOfC ("_law_due" : Str) (defScope sDue) s.heap.objs.size f cdv)).units + 1 < cLine := Nat.lt_of_le_of_lt (Nat.add_le_add_left (by decide) _) hr.units
    refine ⟨_, PSs.nox (pss_cons (ps_set (i := 1) scDue.nd rfl (.inr rfl) (pe_dget2 room
        (pe_disp (pps_cons pe_int (pe_tup (pa_cons pe_int (pa_cons pe_int pa_nil))) (pps_cons pe_int (pe_tup (pa_cons pe_int (pa_cons pe_int pa_nil))) (pps_cons pe_int (pe_tup (pa_cons pe_int pa_nil)) (pps_cons pe_int (pe_tup (pa_cons pe_int pa_nil)) (pps_cons pe_int (pe_tup (pa_cons pe_int pa_nil)) pps_nil))))) rfl rfl (by simp) (Nat.le_of_ble_eq_true rfl))
        (pv 0) (pe_tup (pa_cons pe_int pa_nil)) ⟨rfl, rfl, rfl, rfl⟩))
      (pss_one (ps_ret (pe_lst (pa_cons (pe_op op_cat
          (pe_lc (own := [("at", 2)]) (g := gName 2) (tt := tYes) (te := tOp rEq (tVar 2) (tVar 0)) rfl scDue.nd (pi_range1 (by rfl) mR (pa_cons pe_int pa_nil)) (blkOk_by (N := ["lot", "some", "at"]) (sc := defScope sDue) (by decide +kernel)) (fun _ _ _ _ _ => pg_name (i := 2) scDue.nd rfl (Or.inl rfl)) (fun _ _ _ _ _ => pts_nil) (fun _ _ _ _ _ => pe_cmpR op_eq (pv 2) (pv 0) (nomark _)))
          (pe_lst (pa_cons (pe_cmpR op_lt (pv 0) pe_int (nomark _)) pa_nil)))
        (pa_cons (pe_lc (own := [("at", 2)]) (g := gName 2) (tt := tYes) (te := tOp (rIn K false) (tVar 2) (tVar 1)) rfl scDue.nd (pi_range1 (by rfl) mR (pa_cons pe_int pa_nil)) (blkOk_by (N := ["lot", "some", "at"]) (sc := defScope sDue) (by decide +kernel)) (fun _ _ _ _ _ => pg_name (i := 2) scDue.nd rfl (Or.inl rfl)) (fun _ _ _ _ _ => pts_nil) (fun _ _ _ _ _ => pe_cmpR op_in_seq (pv 2) (pv 1) rfl)) pa_nil)))))), ?_⟩
    refine fun dd hd => ?_
    have k0 : Same H (upd H dd (.dK [])) := same_new hd
    have d0 : (upd H dd (.dK [])) dd = some (.dK []) := upd_same
    generalize upd H dd (.dK []) = G0 at k0 d0
    refine ⟨by show 2 ≤ sizeLine; decide, fun t7 h7 => ?_⟩
    have k1 := same_new (o := .tup [.int 1, .int 2]) h7
    have e7 : (upd G0 t7 (.tup [.int 1, .int 2])) t7 = some (.tup [.int 1, .int 2]) := upd_same
    generalize upd G0 t7 (.tup [.int 1, .int 2]) = G1 at k1 e7
    refine ⟨by show 2 ≤ sizeLine; decide, fun t8 h8 => ?_⟩
    have k2 := same_new (o := .tup [.int 4, .int 5]) h8
    have e8 : (upd G1 t8 (.tup [.int 4, .int 5])) t8 = some (.tup [.int 4, .int 5]) := upd_same
    generalize upd G1 t8 (.tup [.int 4, .int 5]) = G2 at k2 e8
    refine ⟨by show 1 ≤ sizeLine; decide, fun t9 h9 => ?_⟩
    have k3 := same_new (o := .tup [.int 1]) h9
    have e9 : (upd G2 t9 (.tup [.int 1])) t9 = some (.tup [.int 1]) := upd_same
    generalize upd G2 t9 (.tup [.int 1]) = G3 at k3 e9
    refine ⟨by show 1 ≤ sizeLine; decide, fun t10 h10 => ?_⟩
    have k4 := same_new (o := .tup [.int 4]) h10
    have e10 : (upd G3 t10 (.tup [.int 4])) t10 = some (.tup [.int 4]) := upd_same
    generalize upd G3 t10 (.tup [.int 4]) = G4 at k4 e10
    refine ⟨by show 1 ≤ sizeLine; decide, fun t11 h11 => ?_⟩
    have k5 := same_new (o := .tup [.int 4]) h11
    have e11 : (upd G4 t11 (.tup [.int 4])) t11 = some (.tup [.int 4]) := upd_same
    generalize upd G4 t11 (.tup [.int 4]) = G5 at k5 e11
    have dd5 := k5 _ _ (k4 _ _ (k3 _ _ (k2 _ _ (k1 _ _ d0))))
    refine ⟨dd5, [(.inl 7, .ref t7), (.inl 8, .ref t8), (.inl 9, .ref t9), (.inl 10, .ref t10), (.inl 11, .ref t11)], rfl, by show 5 ≤ 15; decide, ?_⟩
    have away : ∀ {b : Addr} {xs : List V}, G5 b = some (.tup xs) → b ≠ dd := fun z => ne_of z dd5 (fun y => by cases y)
    have c7 := k5 _ _ (k4 _ _ (k3 _ _ (k2 _ _ e7)))
    have c8 := k5 _ _ (k4 _ _ (k3 _ _ e8))
    have c9 := k5 _ _ (k4 _ _ e9)
    have c10 := k5 _ _ e10
    have kH : Same H G5 := Same.then k0 (Same.then k1 (Same.then k2 (Same.then k3 (Same.then k4 k5))))
    refine ⟨dd, rfl, .inl ⟨_, .inl upd_same⟩, _, rfl, by show 1 ≤ sizeLine; decide, fun t0 h0 => ?_⟩
    have nd0 : t0 ≠ dd := fun z => by rw [z, upd_same] at h0; cases h0
    have gd : (upd (upd G5 dd (.dK (mergeK [] [(.inl 7, .ref t7), (.inl 8, .ref t8), (.inl 9, .ref t9), (.inl 10, .ref t10), (.inl 11, .ref t11)]))) t0 (.tup [.int 0])) dd = some (.dK (mergeK [] [(.inl 7, .ref t7), (.inl 8, .ref t8), (.inl 9, .ref t9), (.inl 10, .ref t10), (.inl 11, .ref t11)])) := by
      rw [upd_ne (Ne.symm nd0)]
      exact upd_same
    have gg : ∀ {b : Addr} {xs : List V}, G5 b = some (.tup xs) → (upd (upd G5 dd (.dK (mergeK [] [(.inl 7, .ref t7), (.inl 8, .ref t8), (.inl 9, .ref t9), (.inl 10, .ref t10), (.inl 11, .ref t11)]))) t0 (.tup [.int 0])) b = some (.tup xs) := fun {b xs} z => by
      have y := away z
      have z2 : (upd G5 dd (.dK (mergeK [] [(.inl 7, .ref t7), (.inl 8, .ref t8), (.inl 9, .ref t9), (.inl 10, .ref t10), (.inl 11, .ref t11)]))) b = some (.tup xs) := by rw [upd_ne y]; exact z
      rw [upd_ne (ne_of_none z2 h0)]
      exact z2
    have pick : ∃ tx, (valV (mergeK [] [(.inl 7, .ref t7), (.inl 8, .ref t8), (.inl 9, .ref t9), (.inl 10, .ref t10), (.inl 11, .ref t11)]) (Sum.inl (lot : Int) : L2.Key)).getD (.ref t0) = .ref tx ∧
        (upd (upd G5 dd (.dK (mergeK [] [(.inl 7, .ref t7), (.inl 8, .ref t8), (.inl 9, .ref t9), (.inl 10, .ref t10), (.inl 11, .ref t11)]))) t0 (.tup [.int 0])) tx = some (.tup (tupOf lot)) := by
      rcases (by omega : lot = 0 ∨ lot = 1 ∨ lot = 2 ∨ lot = 3 ∨ lot = 4 ∨ lot = 5 ∨ lot = 6 ∨ lot = 7 ∨ lot = 8 ∨ lot = 9 ∨ lot = 10 ∨ lot = 11) with rfl | rfl | rfl | rfl | rfl | rfl | rfl | rfl | rfl | rfl | rfl | rfl
      · exact ⟨t0, rfl, upd_same⟩
      · exact ⟨t0, rfl, upd_same⟩
      · exact ⟨t0, rfl, upd_same⟩
      · exact ⟨t0, rfl, upd_same⟩
      · exact ⟨t0, rfl, upd_same⟩
      · exact ⟨t0, rfl, upd_same⟩
      · exact ⟨t0, rfl, upd_same⟩
      · exact ⟨t7, rfl, gg c7⟩
      · exact ⟨t8, rfl, gg c8⟩
      · exact ⟨t9, rfl, gg c9⟩
      · exact ⟨t10, rfl, gg c10⟩
      · exact ⟨t11, rfl, gg e11⟩
    have kG : Same H (upd (upd G5 dd (.dK (mergeK [] [(.inl 7, .ref t7), (.inl 8, .ref t8), (.inl 9, .ref t9), (.inl 10, .ref t10), (.inl 11, .ref t11)]))) t0 (.tup [.int 0])) := fun b o z => by
      have y := ne_of_none z hd
      have z2 : (upd G5 dd (.dK (mergeK [] [(.inl 7, .ref t7), (.inl 8, .ref t8), (.inl 9, .ref t9), (.inl 10, .ref t10), (.inl 11, .ref t11)]))) b = some o := by rw [upd_ne y]; exact kH b o z
      rw [upd_ne (ne_of_none z2 h0)]
      exact z2
    obtain ⟨tx, ex, gx⟩ := pick
    refine ⟨_, DGet.k (k := .inl (lot : Int)) gd, ?_⟩
    rw [ex]
    generalize upd (upd G5 dd (.dK (mergeK [] [(.inl 7, .ref t7), (.inl 8, .ref t8), (.inl 9, .ref t9), (.inl 10, .ref t10), (.inl 11, .ref t11)]))) t0 (.tup [.int 0]) = G at gx kG
    refine ⟨12, rfl, by decide, by decide, fun D hD => ?_⟩
    refine lc_range (n := 12) (fun i H' => H' D = some (.lst ((List.range i).map fun k : Nat => V.bl (decide (V.int (k : Int) = V.int (lot : Int))))) ∧ Same G H') ⟨upd_same, same_new hD⟩ (fun i H' hi ⟨g1, g2⟩ => ?_) (fun H' ⟨g1, g2⟩ => ?_)
    · refine ⟨rfl, _, rfl, _, rfl, rfl, _, g1, ?_, ?_, fun b o z => ?_⟩
      · rw [List.length_map, List.length_range]
        exact Nat.lt_of_lt_of_le hi (by decide)
      · rw [upd_same, List.range_succ, List.map_append]
        show some (HO.lst (_ ++ [V.bl (decide (V.int (0 + (i : Int)) = V.int (lot : Int)))])) = some (HO.lst (_ ++ [V.bl (decide (V.int (i : Int) = V.int (lot : Int)))]))
        rw [Int.zero_add]
      · rw [upd_ne (ne_of_none z hD)]
        exact g2 b o z
    · refine ⟨_, rfl, _, _, rfl, rfl, by show 1 ≤ sizeLine; decide, fun D2 hD2 => ?_⟩
      have g1' : (upd H' D2 (.lst [V.bl (decide ((lot : Int) < 7))])) D = some _ := (upd_ne (ne_of_none g1 hD2)).trans g1
      refine ⟨D, D2, _, _, rfl, rfl, g1', upd_same, by rw [List.length_map, List.length_range]; show 12 + 1 ≤ sizeLine; decide, fun D3 hD3 => ?_⟩
      rw [sorts_is]
      have kA : Same G (upd (upd H' D2 (.lst [V.bl (decide ((lot : Int) < 7))])) D3 (.lst (sorts lot))) := Same.then g2 (Same.then (same_new hD2) (same_new hD3))
      have gA : (upd (upd H' D2 (.lst [V.bl (decide ((lot : Int) < 7))])) D3 (.lst (sorts lot))) D3 = some (.lst (sorts lot)) := upd_same
      generalize upd (upd H' D2 (.lst [V.bl (decide ((lot : Int) < 7))])) D3 (.lst (sorts lot)) = GA at kA gA
      refine ⟨7, rfl, by decide, by decide, fun B hB => ?_⟩
      refine lc_range (n := 7) (fun i H' => H' B = some (.lst ((List.range i).map fun k : Nat => V.bl (inV (.int (k : Int)) (tupOf lot)))) ∧ Same GA H') ⟨upd_same, same_new hB⟩ (fun i H' hi ⟨g1, g2⟩ => ?_) (fun H' ⟨g1, g2⟩ => ?_)
      · refine ⟨rfl, _, rfl, _, rfl, tx, _, rfl, .inr (SqT.of (g2 _ _ (kA _ _ gx))), rfl, tupOf_flat lot, _, g1, ?_, ?_, fun b o z => ?_⟩
        · rw [List.length_map, List.length_range]
          exact Nat.lt_of_lt_of_le hi (by decide)
        · rw [upd_same, List.range_succ, List.map_append]
          show some (HO.lst (_ ++ [V.bl (inV (.int (0 + (i : Int))) (tupOf lot))])) = some (HO.lst (_ ++ [V.bl (inV (.int (i : Int)) (tupOf lot))]))
          rw [Int.zero_add]
        · rw [upd_ne (ne_of_none z hB)]
          exact g2 b o z
      · rw [bases_is hl] at g1
        refine ⟨by show 2 ≤ sizeLine; decide, fun p hp => ?_⟩
        have kp := same_new (o := .lst [V.ref D3, V.ref B]) hp
        exact q p D3 B _ (Same.then kG (Same.then kA (Same.then g2 kp))) upd_same (kp _ _ (g2 _ _ gA)) (kp _ _ g1)
end
end K1

/-! the drawn values -/
namespace K1
open PySem PySem.Spec PyProof.Rows L2 XE
open PySem.W (Frag)
abbrev sKept : Stmt := top 25
abbrev sWorth : Stmt := top 28
/-- what an error with a number may keep -/
inductive Odd (H : Hp) : V → Prop
  | int {n : Int} (h : n.natAbs < 10 ^ 20) : Odd H (.int n)
  | yes : Odd H (.bl true)
  | non : Odd H .non
  | txt : Odd H (.str "x")
  | t0 {a : Addr} (h : H a = some (.tup [])) : Odd H (.ref a)
  | t2 {a : Addr} (h : H a = some (.tup [.int 0, .str "a"])) : Odd H (.ref a)
  | l1 {a : Addr} (h : H a = some (.lst [.str "a"])) : Odd H (.ref a)
  | d0 {a : Addr} (h : H a = some (.dK [])) : Odd H (.ref a)
def words4 : List V := [.str "", .str "ab", .str "abba", .str "b"]
def Worth (H : Hp) (lot : Nat) (v : V) : Prop := if lot < 6 then True else if lot < 10 then Odd H v else v ∈ words4
theorem odd_shows {K : Frag} {H : Hp} {v : V} (h : Odd H v) : ∃ d, Shows K H v d := by
  cases h with
  | @int n h =>
    have hb : n.natAbs.log2 < 1920 := Nat.lt_of_lt_of_le (PySem.Flt.log2_lt_of (show 0 < 67 by decide) (Nat.lt_of_lt_of_le h (show 10 ^ 20 ≤ 2 ^ 67 by decide))) (show 67 ≤ 1920 by decide)
    exact ⟨.int n, .dat (.int n), decide_eq_true hb, by show 0 ≤ 60; decide, int_text_fits hb⟩
  | yes => exact ⟨.bool true, .dat (.bl true), rfl, by decide, by decide +kernel⟩
  | non => exact ⟨.none, .dat .non, rfl, by decide, by decide +kernel⟩
  | txt => exact ⟨.str "x", .dat (.str "x"), rfl, by decide, by decide +kernel⟩
  | t0 h => exact ⟨.tuple [], .dat (.tup (SqT.of h) .nil), rfl, by decide, by decide +kernel⟩
  | t2 h => exact ⟨.tuple [.int 0, .str "a"], .dat (.tup (SqT.of h) (.cons (.int 0) (.cons (.str "a") .nil))), by decide +kernel, by decide, by decide +kernel⟩
  | l1 h => exact ⟨.list [.str "a"], .dat (.lst (SqL.of h) (.cons (.str "a") .nil)), by decide +kernel, by decide, by decide +kernel⟩
  | d0 h => exact ⟨.dict [], .nul h, rfl, by decide, by decide +kernel⟩
/-- all that stands, but for the jug's list and the list that is filled -/
def Keep2 (j fo : Addr) (H H' : Hp) : Prop := ∀ b o, b ≠ j → b ≠ fo → H b = some o → H' b = some o
theorem Worth.keep {H H' : Hp} {lot : Nat} {v : V} (k : ∀ b o, (∀ x xs, o ≠ .lst (.int x :: xs)) → (∀ x xs, o ≠ .lst (.ref x :: xs)) → o ≠ .lst [] → H b = some o → H' b = some o) (h : Worth H lot v) : Worth H' lot v := by
  unfold Worth at h ⊢
  split
  · trivial
  · rename_i c
    rw [if_neg c] at h
    split
    · rename_i c2
      rw [if_pos c2] at h
      cases h with
      | int h => exact .int h
      | yes => exact .yes
      | non => exact .non
      | txt => exact .txt
      | t0 h => exact .t0 (k _ _ (fun _ _ z => by cases z) (fun _ _ z => by cases z) (fun z => by cases z) h)
      | t2 h => exact .t2 (k _ _ (fun _ _ z => by cases z) (fun _ _ z => by cases z) (fun z => by cases z) h)
      | l1 h => exact .l1 (k _ _ (fun _ _ z => by cases z) (fun _ _ z => by cases z) (fun z => by cases z) h)
      | d0 h => exact .d0 (k _ _ (fun _ _ z => by cases z) (fun _ _ z => by cases z) (fun z => by cases z) h)
    · rename_i c2
      rw [if_neg c2] at h
      exact h
def spWorth : Sp := fun vs H Q _ => ∃ (j : Addr) (lot : Nat), vs = [.ref j, .int (lot : Int)] ∧ JugAt H j ∧ lot < 12 ∧ ∀ v H', Kj j H H' → Worth H' lot v → Q v H'
section
variable {P : Program} {w : World} {K : Frag} {mg : Str → Option Value} {base : Heap} {f fB fP : Addr} {fd fdB fdP : FuncData}
theorem jug_ne {H : Hp} {j p : Addr} (hj : JugAt H j) (hp : H p = none) : p ≠ j := fun z => by
  obtain ⟨a, b, c, e, _⟩ := hj
  rw [z, e] at hp
  cases hp
theorem scWorth : FnScope ["jug", "lot", "number", "odd"] ["jug", "lot"] (defScope sWorth) := ⟨rfl, rfl, rfl, by decide +kernel, rfl, by decide +kernel, by decide +kernel⟩
theorem ok_worth (F : FnP K "_law_worth" sWorth f fd) (FB : FnOk P w K mg base CX0 1 fB fdB ["jug", "much"] spBit) (gB : mg "_law_bit" = some (.ref fB)) (kB : PySem.W.keepIn K (.ref fB) = true) (bB : Binds K fdB ["jug", "much"] [])
    (FP : FnOk P w K mg base CX0 2 fP fdP ["jug", "items"] (spPick K)) (gP : mg "_law_pick" = some (.ref fP)) (kP : PySem.W.keepIn K (.ref fP) = true) (bP : Binds K fdP ["jug", "items"] []) : FnOk P w K mg base CX0 3 f fd ["jug", "lot"] spWorth := by
  refine F.ok scWorth (fun vs H Q E h => ?_) (fun cdv A outer s H vs Q E hr h => ?_)
  · obtain ⟨j, lot, rfl, _⟩ := h
    rfl
  · obtain ⟨j, lot, rfl, hj, hl, q⟩ := h
    refine ⟨_, PSs.nox (pss_cons (ps_if (pt_cmpR op_lt (pv 1) pe_int (nomark _)) (pss_one (ps_ret (pe_call FP hr (by rfl) gP kP bP .nil pass0 (pa_cons (pv 0) (pa_cons (pe_lst (pa_cons pe_str (pa_cons pe_str (pa_cons pe_str (pa_cons pe_str pa_nil))))) pa_nil))))) pss_nil)
      (pss_cons (ps_if (pt_cmpR op_gt (pv 1) pe_int (nomark _)) (pss_one (ps_ret (pe_call FP hr (by rfl) gP kP bP .nil pass0 (pa_cons (pv 0) (pa_cons (pe_lst (pa_cons pe_str (pa_cons pe_str (pa_cons pe_str (pa_cons pe_str pa_nil))))) pa_nil))))) pss_nil)
      (pss_cons (ps_set (i := 2) scWorth.nd rfl (.inl rfl) (pe_call FB (hr.mono (by decide)) (by rfl) gB kB bB .nil pass0 (pa_cons (pv 0) (pa_cons (pe_op op_powX pe_int pe_int) pa_nil))))
      (pss_cons (ps_set (i := 3) scWorth.nd rfl (.inl rfl) (pe_lst (pa_cons (pv 2) (pa_cons (pe_op op_sub pe_int (pv 2)) (pa_cons pe_bl (pa_cons pe_non (pa_cons pe_str (pa_cons (pe_tup pa_nil) (pa_cons (pe_tup (pa_cons pe_int (pa_cons pe_str pa_nil))) (pa_cons (pe_lst (pa_cons pe_str pa_nil)) (pa_cons pe_dnewK pa_nil)))))))))))
      (pss_one (ps_ret (pe_ifExp (pt_cmpR op_eq (pv 1) pe_int (nomark _)) (pe_call FP hr (by rfl) gP kP bP .nil pass0 (pa_cons (pv 0) (pa_cons (pv 3) pa_nil))) (pv 2)))))))), ?_⟩
    refine ⟨_, rfl, _, _, rfl, rfl, _, rfl, ite2 (fun c => ?_) (fun c => ?_)⟩
    · have c' := of_decide_eq_true c
      refine ⟨_, rfl, by show 4 ≤ sizeLine; decide, fun p hp => ?_⟩
      have hpj := jug_ne hj hp
      refine ⟨j, p, _, rfl, ((Kj.refl hj).new hp hpj).2, SqL.of upd_same, hpj, by simp, by show 4 ≤ 1000; decide, fun x H' hx hk => q x H' ?_ (by unfold Worth; rw [if_pos (by omega)]; trivial)⟩
      exact ⟨fun b o n e => hk.1 b o n (by rw [upd_ne (ne_of_none e hp)]; exact e), hk.2⟩
    · have c' : ¬ ((lot : Int) < 6) := fun z => c (decide_eq_true z)
      refine ⟨_, rfl, _, _, rfl, rfl, _, rfl, ite2 (fun d => ?_) (fun d => ?_)⟩
      · have d' := of_decide_eq_true d
        refine ⟨_, rfl, by show 4 ≤ sizeLine; decide, fun p hp => ?_⟩
        have hpj := jug_ne hj hp
        refine ⟨j, p, _, rfl, ((Kj.refl hj).new hp hpj).2, SqL.of upd_same, hpj, by simp, by show 4 ≤ 1000; decide, fun x H' hx hk => q x H' ?_ (by unfold Worth; rw [if_neg (by omega), if_neg (by omega)]; exact hx)⟩
        exact ⟨fun b o n e => hk.1 b o n (by rw [upd_ne (ne_of_none e hp)]; exact e), hk.2⟩
      · have d' : ¬ ((9 : Int) < (lot : Int)) := fun z => d (decide_eq_true z)
        refine ⟨_, rfl, _, _, rfl, rfl, ⟨by decide, by decide +kernel⟩, j, _, rfl, hj, by decide, by decide, fun n H1 n0 n1 hk1 => ?_⟩
        have n1' : n < 10 ^ 20 := n1
        refine ⟨_, rfl, _, rfl, _, _, rfl, rfl, by show 0 ≤ sizeLine; decide, fun a1 h1 => ?_⟩
        have k1 := same_new (o := .tup []) h1
        have e1 : (upd H1 a1 (.tup [])) a1 = some (.tup []) := upd_same
        generalize upd H1 a1 (.tup []) = G1 at k1 e1
        refine ⟨by show 2 ≤ sizeLine; decide, fun a2 h2 => ?_⟩
        have k2 := same_new (o := .tup [.int 0, .str "a"]) h2
        have e2 : (upd G1 a2 (.tup [.int 0, .str "a"])) a2 = some (.tup [.int 0, .str "a"]) := upd_same
        generalize upd G1 a2 (.tup [.int 0, .str "a"]) = G2 at k2 e2
        refine ⟨by show 1 ≤ sizeLine; decide, fun a3 h3 => ?_⟩
        have k3 := same_new (o := .lst [.str "a"]) h3
        have e3 : (upd G2 a3 (.lst [.str "a"])) a3 = some (.lst [.str "a"]) := upd_same
        generalize upd G2 a3 (.lst [.str "a"]) = G3 at k3 e3
        refine fun a4 h4 => ?_
        have k4 := same_new (o := .dK []) h4
        have e4 : (upd G3 a4 (.dK [])) a4 = some (.dK []) := upd_same
        generalize upd G3 a4 (.dK []) = G4 at k4 e4
        refine ⟨by show 9 ≤ sizeLine; decide, fun o ho => ?_⟩
        have kk : Same H1 G4 := Same.then k1 (Same.then k2 (Same.then k3 k4))
        obtain ⟨ja, jb, jc, ej, j0⟩ := hk1.2
        have ej4 := kk _ _ ej
        have hoj : o ≠ j := fun z => by
          rw [z, ej4] at ho
          cases ho
        have k5 := same_new (o := .lst [.int n, .int (0 - n), .bl true, .non, .str "x", .ref a1, .ref a2, .ref a3, .ref a4]) ho
        have e5 : (upd G4 o (.lst [.int n, .int (0 - n), .bl true, .non, .str "x", .ref a1, .ref a2, .ref a3, .ref a4])) o = some (.lst [.int n, .int (0 - n), .bl true, .non, .str "x", .ref a1, .ref a2, .ref a3, .ref a4]) := upd_same
        have q1 := k5 _ _ (k4 _ _ (k3 _ _ (k2 _ _ e1)))
        have q2 := k5 _ _ (k4 _ _ (k3 _ _ e2))
        have q3 := k5 _ _ (k4 _ _ e3)
        have q4 := k5 _ _ e4
        have kj : Kj j H (upd G4 o (.lst [.int n, .int (0 - n), .bl true, .non, .str "x", .ref a1, .ref a2, .ref a3, .ref a4])) := ⟨fun b u nb e => k5 _ _ (kk _ _ (hk1.1 b u nb e)), ja, jb, jc, k5 _ _ ej4, j0⟩
        generalize upd G4 o (.lst [.int n, .int (0 - n), .bl true, .non, .str "x", .ref a1, .ref a2, .ref a3, .ref a4]) = G at e5 q1 q2 q3 q4 kj
        have ne : ∀ {b : Addr} {u : HO}, G b = some u → (∀ x xs, u ≠ .lst (.int x :: xs)) → b ≠ j := fun {b u} e d z => by
          obtain ⟨a', b', c', e', _⟩ := kj.2
          rw [z, e'] at e
          exact d _ _ (Option.some.inj e).symm
        have big : n.natAbs < 10 ^ 20 := by omega
        refine ⟨_, rfl, rfl, _, rfl, ite2 (fun c7 => ?_) (fun c7 => ?_)⟩
        · have l7 : lot = 7 := by
            have z := V.int.inj (of_decide_eq_true c7)
            omega
          refine ⟨_, rfl, _, rfl, j, o, _, rfl, kj.2, SqL.of e5, hoj, by simp, by show 9 ≤ 1000; decide, fun x H' hx hk => q x H' (kj.trans hk) ?_⟩
          unfold Worth
          rw [if_neg (by omega), if_pos (by omega)]
          have nl : ∀ {u : HO}, (∀ xs, u ≠ .lst xs) → ∀ x xs, u ≠ .lst (.int x :: xs) := fun h x xs => h _
          simp only [List.mem_cons, List.not_mem_nil, or_false] at hx
          rcases hx with rfl | rfl | rfl | rfl | rfl | rfl | rfl | rfl | rfl
          · exact .int big
          · exact .int (by omega)
          · exact .yes
          · exact .non
          · exact .txt
          · exact .t0 (hk.1 _ _ (ne q1 (nl fun xs z => by cases z)) q1)
          · exact .t2 (hk.1 _ _ (ne q2 (nl fun xs z => by cases z)) q2)
          · exact .l1 (hk.1 _ _ (ne q3 (fun x xs z => by cases z)) q3)
          · exact .d0 (hk.1 _ _ (ne q4 (nl fun xs z => by cases z)) q4)
        · refine ⟨_, rfl, q _ G kj ?_⟩
          unfold Worth
          rw [if_neg (by omega), if_pos (by omega)]
          exact .int big
end
end K1

/-! an error keeps its value -/
namespace K1
open PySem PySem.Spec PyProof.Rows L2 XE
open PySem.W (Frag)
def spKept (cl : Nat → Addr) : Sp := fun vs H Q _ => ∃ (lot : Nat) (e : Addr) (v : V), vs = [.int (lot : Int), .ref e, v] ∧ lot < 12 ∧ Worth H lot v ∧ ErrOk cl H lot v e ∧ ∀ H', Same H H' → Q (.bl true) H'
theorem bRepr : bootBuiltins "repr" = some (.builtin "repr") := by decide +kernel
theorem bStr : bootBuiltins "str" = some (.type "str") := by decide +kernel
theorem eq_true' {x : V} {Q : VK} {H : Hp} (hs : scal x x = true) (q : Q (.bl true) H) : rEq x x H Q := ⟨hs, by rw [decide_eq_true rfl]; exact q⟩
def two10 (x : Str) : PyData := .list [.str x, .tuple [.str x, .str "x"]]
theorem two10_deep (x : Str) : (two10 x).depth ≤ 60 := by
  simp [two10, PyData.depth, PyData.depthAll]
section
variable {P : Program} {w : World} {K : Frag} {mg : Str → Option Value} {base : Heap} {cl ini : Nat → Addr} {sN f : Addr} {fd fdS : FuncData}
theorem scKept : FnScope ["lot", "error", "value"] ["lot", "error", "value"] (defScope sKept) := ⟨rfl, rfl, rfl, by decide +kernel, rfl, by decide +kernel, by decide +kernel⟩
theorem ok_kept (F : FnP K "_law_is_kept" sKept f fd) (T : Cls13 K mg cl ini sN) (mR : mg "repr" = none) (mS : mg "str" = none) (FS : FnG P w K mg base CX0 1 sN fdS ["self"] (spStr K (cl 7))) (bS : Binds K fdS ["self"] []) : FnG P w K mg base CX0 4 f fd ["lot", "error", "value"] (spKept cl) := by
  refine fnG F scKept (fun vs H Q E h => ?_) (fun cdv A outer s H vs Q E hg hr h => ?_)
  · obtain ⟨lot, e, v, rfl, _⟩ := h
    rfl
  · obtain ⟨lot, e, v, rfl, hl, hw, he, q⟩ := h
    refine ⟨_, PSs.nox (pss_cons (ps_if (pt_cmpR op_eq (pv 0) pe_int (nomark _)) (pss_one (ps_ret (pe_cmpR op_eq (pe_callB (call_repr hg hr.units) (by rfl) mR bRepr (pa_cons (pe_held (pv 1)) pa_nil)) (pe_callB (call_repr hg hr.units) (by rfl) mR bRepr (pa_cons (pv 2) pa_nil)) (nomark _)))) pss_nil)
      (pss_cons (ps_if (pt_cmpR op_eq (pv 0) pe_int (nomark _)) (pss_one (ps_ret (pe_and (pe_cmpR op_eq (pe_callB (call_repr hg hr.units) (by rfl) mR bRepr (pa_cons (pe_held (pv 1)) pa_nil)) (pe_callB (call_repr hg hr.units) (by rfl) mR bRepr (pa_cons (pv 2) pa_nil)) (nomark _)) (pe_one (pe_cmpR op_eq (pe_callTy (call_strH FS hg hr T.str7.1 T.str7.2 bS) (by rfl) mS bStr (pa_cons (pv 1) pa_nil)) (pe_callB (call_repr hg hr.units) (by rfl) mR bRepr (pa_cons (pv 2) pa_nil)) (nomark _)))))) pss_nil)
      (pss_cons (ps_if (pt_cmpR op_eq (pv 0) pe_int (nomark _)) (pss_one (ps_ret (pe_cmpR op_eq (pe_callB (call_repr hg hr.units) (by rfl) mR bRepr (pa_cons (pe_held (pv 1)) pa_nil)) (pe_callB (call_repr hg hr.units) (by rfl) mR bRepr (pa_cons (pv 2) pa_nil)) (nomark _)))) pss_nil)
      (pss_cons (ps_if (pt_cmpR op_eq (pv 0) pe_int (nomark _)) (pss_one (ps_ret (pe_cmpR op_eq (pe_callB (call_repr hg hr.units) (by rfl) mR bRepr (pa_cons (pe_held (pv 1)) pa_nil)) (pe_callB (call_repr hg hr.units) (by rfl) mR bRepr (pa_cons (pv 2) pa_nil)) (nomark _)))) pss_nil)
      (pss_cons (ps_if (pt_cmpR op_eq (pv 0) pe_int (nomark _)) (pss_one (ps_ret (pe_cmpR op_eq (pe_callB (call_repr hg hr.units) (by rfl) mR bRepr (pa_cons (pe_lst (pa_cons (pe_held (pv 1)) (pa_cons (pe_held (pv 1)) pa_nil))) pa_nil)) (pe_callB (call_repr hg hr.units) (by rfl) mR bRepr (pa_cons (pe_lst (pa_cons (pv 2) (pa_cons (pe_tup (pa_cons (pv 2) (pa_cons pe_str pa_nil))) pa_nil))) pa_nil)) (nomark _)))) pss_nil)
      (pss_one (ps_ret (pe_or (pe_cmpR op_ne (pv 0) pe_int (nomark _)) (pe_one (pe_cmpR op_eq (pe_callB (call_repr hg hr.units) (by rfl) mR bRepr (pa_cons (pe_held (pv 1)) pa_nil)) (pe_callB (call_repr hg hr.units) (by rfl) mR bRepr (pa_cons (pv 2) pa_nil)) (nomark _))))))))))), ?_⟩
    have one : 6 ≤ lot → lot ≠ 10 → ∃ d, H e = some (exo e (cl lot) (some d)) ∧ H d = some (exd d [(fld lot, v)]) := fun h6 h10 => by
      unfold ErrOk at he
      rw [if_neg (by omega), if_neg h10] at he
      exact he
    have wv : 6 ≤ lot → ∃ d, Shows K H v d := fun h6 => by
      unfold Worth at hw
      rw [if_neg (by omega)] at hw
      by_cases c : lot < 10
      · rw [if_pos c] at hw
        exact odd_shows hw
      · rw [if_neg c] at hw
        unfold words4 at hw
        simp only [List.mem_cons, List.not_mem_nil, or_false] at hw
        rcases hw with rfl | rfl | rfl | rfl
        · exact ⟨.str "", .dat (.str ""), rfl, by decide, by decide +kernel⟩
        · exact ⟨.str "ab", .dat (.str "ab"), rfl, by decide, by decide +kernel⟩
        · exact ⟨.str "abba", .dat (.str "abba"), rfl, by decide, by decide +kernel⟩
        · exact ⟨.str "b", .dat (.str "b"), rfl, by decide, by decide +kernel⟩
    rcases (by omega : lot < 6 ∨ lot = 6 ∨ lot = 7 ∨ lot = 8 ∨ lot = 9 ∨ lot = 10 ∨ lot = 11) with hlt | rfl | rfl | rfl | rfl | rfl | rfl
    · refine ⟨_, rfl, rfl, _, rfl, eqN (fun z => by have y := V.int.inj z; omega) ⟨_, rfl, rfl, _, rfl, eqN (fun z => by have y := V.int.inj z; omega) ⟨_, rfl, rfl, _, rfl, eqN (fun z => by have y := V.int.inj z; omega) ⟨_, rfl, rfl, _, rfl, eqN (fun z => by have y := V.int.inj z; omega) ⟨_, rfl, rfl, _, rfl, eqN (fun z => by have y := V.int.inj z; omega) ⟨_, rfl, rfl, true, ?_, ?_⟩⟩⟩⟩⟩⟩
      · rw [decide_eq_false (fun z => by have y := V.int.inj z; omega)]
        rfl
      · exact iteT (q H fun _ _ z => z)
    · obtain ⟨d, h1, h2⟩ := one (by decide) (by decide)
      obtain ⟨z, s1, s2, s3, s4⟩ := wv (by decide)
      refine ⟨_, rfl, rfl, _, rfl, eqT rfl ⟨_, rfl, e, cl 6, d, _, v, rfl, T.exc 6 (by decide), (T.tk 6 (by decide) (by decide)).2, h1, h2, rfl, v, z, rfl, s1, s2, s3, s4, _, rfl, v, z, rfl, s1, s2, s3, s4, eq_true' rfl ?_⟩⟩
      exact q H fun _ _ z => z
    · obtain ⟨d, h1, h2⟩ := one (by decide) (by decide)
      obtain ⟨z, s1, s2, s3, s4⟩ := wv (by decide)
      refine ⟨_, rfl, rfl, _, rfl, eqN (by decide) ⟨_, rfl, rfl, _, rfl, eqT rfl ⟨_, rfl, e, cl 7, d, _, v, rfl, T.exc 7 (by decide), (T.tk 7 (by decide) (by decide)).2, h1, h2, rfl, v, z, rfl, s1, s2, s3, s4, _, rfl, v, z, rfl, s1, s2, s3, s4, eq_true' rfl ?_⟩⟩⟩
      refine ⟨true, rfl, iteT ?_⟩
      refine ⟨_, rfl, e, rfl, .dict h1 h2, ⟨e, d, v, z, rfl, T.exc 7 (by decide), (T.tk 7 (by decide) (by decide)).2, h1, h2, ⟨s1, s2, s3, s4⟩, _, rfl, _, rfl, v, z, rfl, s1, s2, s3, s4, eq_true' rfl ?_⟩⟩
      exact q H fun _ _ z => z
    · obtain ⟨d, h1, h2⟩ := one (by decide) (by decide)
      obtain ⟨z, s1, s2, s3, s4⟩ := wv (by decide)
      refine ⟨_, rfl, rfl, _, rfl, eqN (by decide) ⟨_, rfl, rfl, _, rfl, eqN (by decide) ⟨_, rfl, rfl, _, rfl, eqT rfl ⟨_, rfl, e, cl 8, d, _, v, rfl, T.exc 8 (by decide), (T.tk 8 (by decide) (by decide)).2, h1, h2, rfl, v, z, rfl, s1, s2, s3, s4, _, rfl, v, z, rfl, s1, s2, s3, s4, eq_true' rfl ?_⟩⟩⟩⟩
      exact q H fun _ _ z => z
    · obtain ⟨d, h1, h2⟩ := one (by decide) (by decide)
      obtain ⟨z, s1, s2, s3, s4⟩ := wv (by decide)
      refine ⟨_, rfl, rfl, _, rfl, eqN (by decide) ⟨_, rfl, rfl, _, rfl, eqN (by decide) ⟨_, rfl, rfl, _, rfl, eqN (by decide) ⟨_, rfl, rfl, _, rfl, eqT rfl ⟨_, rfl, e, cl 9, d, _, v, rfl, T.exc 9 (by decide), (T.tk 9 (by decide) (by decide)).2, h1, h2, rfl, v, z, rfl, s1, s2, s3, s4, _, rfl, v, z, rfl, s1, s2, s3, s4, eq_true' rfl ?_⟩⟩⟩⟩⟩
      exact q H fun _ _ z => z
    · obtain ⟨z, s1, s2, s3, s4⟩ := wv (by decide)
      refine ⟨_, rfl, rfl, _, rfl, eqN (by decide) ⟨_, rfl, rfl, _, rfl, eqN (by decide) ⟨_, rfl, rfl, _, rfl, eqN (by decide) ⟨_, rfl, rfl, _, rfl, eqN (by decide) ⟨_, rfl, rfl, _, rfl, eqT rfl ?_⟩⟩⟩⟩⟩
      have two : ∃ x : Str, v = .str x ∧ (two10 x).shown.length ≤ sizeLine := by
        unfold Worth at hw
        rw [if_neg (by decide), if_neg (by decide)] at hw
        unfold words4 at hw
        simp only [List.mem_cons, List.not_mem_nil, or_false] at hw
        rcases hw with rfl | rfl | rfl | rfl
        · exact ⟨_, rfl, by decide +kernel⟩
        · exact ⟨_, rfl, by decide +kernel⟩
        · exact ⟨_, rfl, by decide +kernel⟩
        · exact ⟨_, rfl, by decide +kernel⟩
      unfold ErrOk at he
      rw [if_neg (by decide), if_pos rfl] at he
      obtain ⟨d, t, h1, h2, h3⟩ := he
      obtain ⟨x, rfl, sx⟩ := two
      refine ⟨_, rfl, e, cl 10, d, _, .str x, rfl, T.exc 10 (by decide), (T.tk 10 (by decide) (by decide)).2, h1, h2, rfl, _, rfl, e, cl 10, d, _, .ref t, rfl, T.exc 10 (by decide), T.tk2.2, h1, h2, rfl, by show 2 ≤ sizeLine; decide, fun p hp => ?_⟩
      have k1 := same_new (o := .lst [.str x, .ref t]) hp
      have e1 : (upd H p (.lst [.str x, .ref t])) p = some (.lst [.str x, .ref t]) := upd_same
      generalize upd H p (.lst [.str x, .ref t]) = G at k1 e1
      refine ⟨_, two10 x, rfl, .dat (.lst (SqL.of e1) (.cons (.str x) (.cons (.tup (SqT.of (k1 _ _ h3)) (.cons (.str x) (.cons (.str "x") .nil))) .nil))), rfl, two10_deep x, sx, ?_⟩
      refine ⟨_, rfl, _, rfl, by show 2 ≤ sizeLine; decide, fun t2 ht2 => ?_⟩
      have k2 := same_new (o := .tup [.str x, .str "x"]) ht2
      have e2 : (upd G t2 (.tup [.str x, .str "x"])) t2 = some (.tup [.str x, .str "x"]) := upd_same
      generalize upd G t2 (.tup [.str x, .str "x"]) = G2 at k2 e2
      refine ⟨by show 2 ≤ sizeLine; decide, fun p2 hp2 => ?_⟩
      have k3 := same_new (o := .lst [.str x, .ref t2]) hp2
      have e3 : (upd G2 p2 (.lst [.str x, .ref t2])) p2 = some (.lst [.str x, .ref t2]) := upd_same
      generalize upd G2 p2 (.lst [.str x, .ref t2]) = G3 at k3 e3
      refine ⟨_, two10 x, rfl, .dat (.lst (SqL.of e3) (.cons (.str x) (.cons (.tup (SqT.of (k3 _ _ e2)) (.cons (.str x) (.cons (.str "x") .nil))) .nil))), rfl, two10_deep x, sx, eq_true' rfl ?_⟩
      exact q G3 (Same.then k1 (Same.then k2 k3))
    · obtain ⟨d, h1, h2⟩ := one (by decide) (by decide)
      obtain ⟨z, s1, s2, s3, s4⟩ := wv (by decide)
      refine ⟨_, rfl, rfl, _, rfl, eqN (by decide) ⟨_, rfl, rfl, _, rfl, eqN (by decide) ⟨_, rfl, rfl, _, rfl, eqN (by decide) ⟨_, rfl, rfl, _, rfl, eqN (by decide) ⟨_, rfl, rfl, _, rfl, eqN (by decide) ⟨_, rfl, rfl, false, rfl, iteF ⟨_, rfl, e, cl 11, d, _, v, rfl, T.exc 11 (by decide), (T.tk 11 (by decide) (by decide)).2, h1, h2, rfl, v, z, rfl, s1, s2, s3, s4, _, rfl, v, z, rfl, s1, s2, s3, s4, eq_true' rfl ?_⟩⟩⟩⟩⟩⟩⟩
      exact q H fun _ _ z => z
end
end K1

/-! an error is caught by its class, and by its base -/
namespace K1
open PySem PySem.Spec PyProof.Rows L2 XE
open PySem.W (Frag)
abbrev sCaught : Stmt := top 26
abbrev sByBase : Stmt := top 27
/-- isinstance(e, c), e what the suite holds -/
def rIsS (K : Frag) (a : Addr) (cls : Value) (d : Option Addr) : List V → Hp → VK → Prop := fun xs H Q => ∃ (D : Addr) (c : V) (cv : Value) (b : Bool), xs = [.ref a, c] ∧ cls = .ref D ∧ d = none ∧ ExcC K D ∧ ClsV c cv ∧ PySem.W.kitOne K (.ref D) cv = some b ∧ Q (.bl b) H
theorem call_isS {X : Cx} {a : Addr} {oe : Obj} {cls : Value} {d : Option Addr} {pn : List (Addr × Obj)} (hz : Zc cls d oe) (hf : ∃ vs, oe.data = .fields vs) : CallR (X.suite a ((a, oe) :: pn)) (.builtin "isinstance") (rIsS X.K a cls d) := by
  intro pins s σ H xs us Q I r h
  obtain ⟨D, c, cv, b, rfl, rfl, rfl, T, k, e, q⟩ := h
  obtain ⟨u1, u2, rfl, r1, r2⟩ := vals2 r
  obtain rfl : u1 = Value.ref a := r1
  obtain rfl := k.eq r2
  obtain ⟨at_, _⟩ := I.pin (a, oe) (List.mem_append_left _ List.mem_cons_self)
  obtain ⟨vs, hv⟩ := hf
  obtain ⟨cd, hcd, _⟩ := PySem.W.any_some T.hd
  have J : PySem.W.InstAt s.heap a oe D none := ⟨at_, hz.1, by unfold PySem.W.notCls; rw [hv], by rw [hz.2]; trivial⟩
  exact PySem.W.kia_one (PySem.W.kitx_exc (by rw [hcd]; rfl) T.hg T.hk T.hs T.ha T.hn T.ht T.hm) I.kIn J e (fun z => nomatch z) fun tk => ⟨.bl b, H, I.tok tk, rfl, q⟩
def spCaught : Sp := fun vs H Q _ => ∃ (lot : Nat) (v : V), vs = [.int (lot : Int), v] ∧ lot < 12 ∧ ∀ H', Same H H' → Q (.int (lot : Int)) H'
def spByBase : Sp := fun vs H Q _ => ∃ (lot : Nat) (v : V), vs = [.int (lot : Int), v] ∧ lot < 12 ∧ ∀ H', Same H H' → Q (.bl true) H'
section
variable {P : Program} {w : World} {K : Frag} {mg : Str → Option Value} {base : Heap} {cl ini : Nat → Addr} {sN f fT : Addr} {fd fdT : FuncData}
theorem not1 {m : Nat} {a b c z : V} {x : V} (hm : m < 1) (hz : [a, b, c][m]? = some z) (h : eqV a x = false) : eqV z x = false := by
  obtain rfl : m = 0 := by omega
  obtain rfl := Option.some.inj hz
  exact h
theorem not2 {m : Nat} {a b c z : V} {x : V} (hm : m < 2) (hz : [a, b, c][m]? = some z) (h : eqV a x = false) (h2 : eqV b x = false) : eqV z x = false := by
  rcases (by omega : m = 0 ∨ m = 1) with rfl | rfl
  · obtain rfl := Option.some.inj hz
    exact h
  · obtain rfl := Option.some.inj hz
    exact h2
theorem any_exm (T : Cls13 K mg cl ini sN) {lot : Nat} (hl : lot < 12) : ∀ js : List Nat, (∀ j ∈ js, j < 13) → PySem.W.exmAny K (.ref (cl lot)) (js.map fun j => Value.ref (cl j)) = some (js.any (isSub lot))
  | [], _ => rfl
  | j :: js, h => by
    have e1 := T.exm lot j hl (h j List.mem_cons_self)
    have e2 := any_exm T hl js fun i hi => h i (List.mem_cons_of_mem _ hi)
    show (match PySem.W.exmOne K (.ref (cl lot)) (.ref (cl j)), PySem.W.exmAny K (.ref (cl lot)) (js.map fun j => Value.ref (cl j)) with | some b, some d => some (b || d) | _, _ => none) = _
    rw [e1, e2]
    rfl
theorem scCaught : FnScope ["lot", "value", "error"] ["lot", "value"] (defScope sCaught) := ⟨rfl, rfl, rfl, by decide +kernel, rfl, by decide +kernel, by decide +kernel⟩
theorem scByBase : FnScope ["lot", "value"] ["lot", "value"] (defScope sByBase) := ⟨rfl, rfl, rfl, by decide +kernel, rfl, by decide +kernel, by decide +kernel⟩
theorem ok_caught (F : FnP K "_law_caught" sCaught f fd) (T : Cls13 K mg cl ini sN) (mI : mg "isinstance" = none) (FT : FnOk P w K mg base (L2.CX P w) 4 fT fdT ["lot", "value"] (spThrown cl)) (gT : mg "_law_thrown" = some (.ref fT)) (kT : PySem.W.keepIn K (.ref fT) = true) (bT : Binds K fdT ["lot", "value"] []) :
    FnOk P w K mg base CX0 5 f fd ["lot", "value"] spCaught := by
  refine F.ok scCaught (fun vs H Q E h => ?_) (fun cdv A outer s H vs Q E hr h => ?_)
  · obtain ⟨lot, v, rfl, _⟩ := h
    rfl
  · obtain ⟨lot, v, rfl, hl, q⟩ := h
    refine ⟨_, PSs.nox (pss_cons (ps_try_all (tb := fun W => tDrop (tCallS (spThrown cl) (WE W) (tCons (tVar 0) (tCons (tVar 1) tNil)))) (l := [⟨([0, 1, 2] : List Nat).map fun j => Value.ref (cl j), some 2, fun a cls d => tRet (tBM K "list" (rIndex K) (tLst (tCons (tCB (rIsS K a cls d) (tCons (tVar 2) (tCons (tC (.ref (cl 0))) tNil))) (tCons (tCB (rIsS K a cls d) (tCons (tVar 2) (tCons (tC (.ref (cl 1))) tNil))) (tCons (tC (.bl true)) tNil)))) (tCons (tC (.bl true)) tNil))⟩, ⟨([3, 4, 5] : List Nat).map fun j => Value.ref (cl j), some 2, fun a cls d => tRet (tOp (rI0 fun i j => .int (i + j)) (tC (.int 3)) (tBM K "list" (rIndex K) (tLst (tCons (tCB (rIsS K a cls d) (tCons (tVar 2) (tCons (tC (.ref (cl 3))) tNil))) (tCons (tCB (rIsS K a cls d) (tCons (tVar 2) (tCons (tC (.ref (cl 4))) tNil))) (tCons (tC (.bl true)) tNil)))) (tCons (tC (.bl true)) tNil)))⟩, ⟨([6] : List Nat).map fun j => Value.ref (cl j), none, fun _ _ _ => tRet (tC (.int 6))⟩, ⟨([7] : List Nat).map fun j => Value.ref (cl j), none, fun _ _ _ => tRet (tC (.int 7))⟩, ⟨([8] : List Nat).map fun j => Value.ref (cl j), none, fun _ _ _ => tRet (tC (.int 8))⟩, ⟨([9] : List Nat).map fun j => Value.ref (cl j), none, fun _ _ _ => tRet (tC (.int 9))⟩, ⟨([10] : List Nat).map fun j => Value.ref (cl j), none, fun _ _ _ => tRet (tC (.int 10))⟩, ⟨([11] : List Nat).map fun j => Value.ref (cl j), none, fun _ _ _ => tRet (tC (.int 11))⟩]) (Wout := fun _ _ _ _ => False) rfl rfl scCaught.nd takes0
        (fun W pn xe tk _ => pss_one (ps_expr (by exact (pe_callS FT hr rfl gT kT bT (fun σ => passAt tk σ) (by exact (pa_cons (pv 0) (pa_cons (pv 1) pa_nil)))))))
        (.named (i := 2) (tests_tuple (.cons ⟨rfl, by decide, .inl (T.gC 0 (by decide))⟩ (.cons ⟨rfl, by decide, .inl (T.gC 1 (by decide))⟩ (.cons ⟨rfl, by decide, .inl (T.gC 2 (by decide))⟩ .nil))) (by show 3 ≤ 100; decide)) rfl rfl (fun a oe cls d pn hz hf => by exact pss_one (ps_ret (pe_bm PySem.F.plainAttrs_list PySem.F.slot_list_index PySem.F.type_list_index mt_index (pe_lst (pa_cons (pe_callB (call_isS hz hf) (by rfl) mI bI (pa_cons (pv 2) (pa_cons (pe_glob (v := .ref (cl 0)) (by rfl) (T.gC 0 (by decide)) rfl) pa_nil))) (pa_cons (pe_callB (call_isS hz hf) (by rfl) mI bI (pa_cons (pv 2) (pa_cons (pe_glob (v := .ref (cl 1)) (by rfl) (T.gC 1 (by decide)) rfl) pa_nil))) (pa_cons pe_bl pa_nil)))) (pa_cons pe_bl pa_nil)))) (.named (i := 2) (tests_tuple (.cons ⟨rfl, by decide, .inl (T.gC 3 (by decide))⟩ (.cons ⟨rfl, by decide, .inl (T.gC 4 (by decide))⟩ (.cons ⟨rfl, by decide, .inl (T.gC 5 (by decide))⟩ .nil))) (by show 3 ≤ 100; decide)) rfl rfl (fun a oe cls d pn hz hf => by exact pss_one (ps_ret (pe_op op_add pe_int (pe_bm PySem.F.plainAttrs_list PySem.F.slot_list_index PySem.F.type_list_index mt_index (pe_lst (pa_cons (pe_callB (call_isS hz hf) (by rfl) mI bI (pa_cons (pv 2) (pa_cons (pe_glob (v := .ref (cl 3)) (by rfl) (T.gC 3 (by decide)) rfl) pa_nil))) (pa_cons (pe_callB (call_isS hz hf) (by rfl) mI bI (pa_cons (pv 2) (pa_cons (pe_glob (v := .ref (cl 4)) (by rfl) (T.gC 4 (by decide)) rfl) pa_nil))) (pa_cons pe_bl pa_nil)))) (pa_cons pe_bl pa_nil))))) (.plain (tests_name ⟨rfl, by decide, .inl (T.gC 6 (by decide))⟩) (fun a oe cls d pn hz hf => pss_one (ps_ret pe_int)) (.plain (tests_name ⟨rfl, by decide, .inl (T.gC 7 (by decide))⟩) (fun a oe cls d pn hz hf => pss_one (ps_ret pe_int)) (.plain (tests_name ⟨rfl, by decide, .inl (T.gC 8 (by decide))⟩) (fun a oe cls d pn hz hf => pss_one (ps_ret pe_int)) (.plain (tests_name ⟨rfl, by decide, .inl (T.gC 9 (by decide))⟩) (fun a oe cls d pn hz hf => pss_one (ps_ret pe_int)) (.plain (tests_name ⟨rfl, by decide, .inl (T.gC 10 (by decide))⟩) (fun a oe cls d pn hz hf => pss_one (ps_ret pe_int)) (.plain (tests_name ⟨rfl, by decide, .inl (T.gC 11 (by decide))⟩) (fun a oe cls d pn hz hf => pss_one (ps_ret pe_int)) Hds.nil))))))))) (pss_one (ps_ret pe_int))), ?_⟩
    refine ⟨_, rfl, _, rfl, lot, v, rfl, hl, fun d H1 hd k1 => ?_⟩
    have ex := any_exm T hl
    rcases (by omega : lot = 0 ∨ lot = 1 ∨ lot = 2 ∨ lot = 3 ∨ lot = 4 ∨ lot = 5 ∨ lot = 6 ∨ lot = 7 ∨ lot = 8 ∨ lot = 9 ∨ lot = 10 ∨ lot = 11) with rfl | rfl | rfl | rfl | rfl | rfl | rfl | rfl | rfl | rfl | rfl | rfl
    · refine ⟨true, ex [0, 1, 2] (by decide), fun _ a ha => ?_, nofun⟩
      refine ⟨_, rfl, cl 0, _, _, isSub 0 0, rfl, rfl, hd (by decide), T.exc 0 hl, .own (cl 0), T.kit 0 0 hl (by decide), _, rfl, cl 0, _, _, isSub 0 1, rfl, rfl, hd (by decide), T.exc 0 hl, .own (cl 1), T.kit 0 1 hl (by decide), by show 3 ≤ sizeLine; decide, fun p hp => ⟨.inl ⟨rfl, _, .inl (.inl upd_same)⟩, ?_⟩⟩
      refine ⟨p, [.bl (isSub 0 0), .bl (isSub 0 1), .bl true], .bl true, 0, .bl true, rfl, rfl, SqL.of upd_same, rfl, rfl, rfl, rfl, (fun m z' hm => absurd hm (Nat.not_lt_zero m)), ?_⟩
      exact q _ (Same.then k1 (same_new hp))
    · refine ⟨true, ex [0, 1, 2] (by decide), fun _ a ha => ?_, nofun⟩
      refine ⟨_, rfl, cl 1, _, _, isSub 1 0, rfl, rfl, hd (by decide), T.exc 1 hl, .own (cl 0), T.kit 1 0 hl (by decide), _, rfl, cl 1, _, _, isSub 1 1, rfl, rfl, hd (by decide), T.exc 1 hl, .own (cl 1), T.kit 1 1 hl (by decide), by show 3 ≤ sizeLine; decide, fun p hp => ⟨.inl ⟨rfl, _, .inl (.inl upd_same)⟩, ?_⟩⟩
      refine ⟨p, [.bl (isSub 1 0), .bl (isSub 1 1), .bl true], .bl true, 1, .bl true, rfl, rfl, SqL.of upd_same, rfl, rfl, rfl, rfl, (fun m z' hm hz => not1 hm hz rfl), ?_⟩
      exact q _ (Same.then k1 (same_new hp))
    · refine ⟨true, ex [0, 1, 2] (by decide), fun _ a ha => ?_, nofun⟩
      refine ⟨_, rfl, cl 2, _, _, isSub 2 0, rfl, rfl, hd (by decide), T.exc 2 hl, .own (cl 0), T.kit 2 0 hl (by decide), _, rfl, cl 2, _, _, isSub 2 1, rfl, rfl, hd (by decide), T.exc 2 hl, .own (cl 1), T.kit 2 1 hl (by decide), by show 3 ≤ sizeLine; decide, fun p hp => ⟨.inl ⟨rfl, _, .inl (.inl upd_same)⟩, ?_⟩⟩
      refine ⟨p, [.bl (isSub 2 0), .bl (isSub 2 1), .bl true], .bl true, 2, .bl true, rfl, rfl, SqL.of upd_same, rfl, rfl, rfl, rfl, (fun m z' hm hz => not2 hm hz rfl rfl), ?_⟩
      exact q _ (Same.then k1 (same_new hp))
    · refine ⟨false, ex [0, 1, 2] (by decide), nofun, fun _ => ⟨true, ex [3, 4, 5] (by decide), fun _ a ha => ?_, nofun⟩⟩
      refine ⟨_, rfl, cl 3, _, _, isSub 3 3, rfl, rfl, hd (by decide), T.exc 3 hl, .own (cl 3), T.kit 3 3 hl (by decide), _, rfl, cl 3, _, _, isSub 3 4, rfl, rfl, hd (by decide), T.exc 3 hl, .own (cl 4), T.kit 3 4 hl (by decide), by show 3 ≤ sizeLine; decide, fun p hp => ⟨.inl ⟨rfl, _, .inl (.inl upd_same)⟩, ?_⟩⟩
      refine ⟨p, [.bl (isSub 3 3), .bl (isSub 3 4), .bl true], .bl true, 0, .bl true, rfl, rfl, SqL.of upd_same, rfl, rfl, rfl, rfl, (fun m z' hm => absurd hm (Nat.not_lt_zero m)), ?_⟩
      exact ⟨_, _, rfl, rfl, q _ (Same.then k1 (same_new hp))⟩
    · refine ⟨false, ex [0, 1, 2] (by decide), nofun, fun _ => ⟨true, ex [3, 4, 5] (by decide), fun _ a ha => ?_, nofun⟩⟩
      refine ⟨_, rfl, cl 4, _, _, isSub 4 3, rfl, rfl, hd (by decide), T.exc 4 hl, .own (cl 3), T.kit 4 3 hl (by decide), _, rfl, cl 4, _, _, isSub 4 4, rfl, rfl, hd (by decide), T.exc 4 hl, .own (cl 4), T.kit 4 4 hl (by decide), by show 3 ≤ sizeLine; decide, fun p hp => ⟨.inl ⟨rfl, _, .inl (.inl upd_same)⟩, ?_⟩⟩
      refine ⟨p, [.bl (isSub 4 3), .bl (isSub 4 4), .bl true], .bl true, 1, .bl true, rfl, rfl, SqL.of upd_same, rfl, rfl, rfl, rfl, (fun m z' hm hz => not1 hm hz rfl), ?_⟩
      exact ⟨_, _, rfl, rfl, q _ (Same.then k1 (same_new hp))⟩
    · refine ⟨false, ex [0, 1, 2] (by decide), nofun, fun _ => ⟨true, ex [3, 4, 5] (by decide), fun _ a ha => ?_, nofun⟩⟩
      refine ⟨_, rfl, cl 5, _, _, isSub 5 3, rfl, rfl, hd (by decide), T.exc 5 hl, .own (cl 3), T.kit 5 3 hl (by decide), _, rfl, cl 5, _, _, isSub 5 4, rfl, rfl, hd (by decide), T.exc 5 hl, .own (cl 4), T.kit 5 4 hl (by decide), by show 3 ≤ sizeLine; decide, fun p hp => ⟨.inl ⟨rfl, _, .inl (.inl upd_same)⟩, ?_⟩⟩
      refine ⟨p, [.bl (isSub 5 3), .bl (isSub 5 4), .bl true], .bl true, 2, .bl true, rfl, rfl, SqL.of upd_same, rfl, rfl, rfl, rfl, (fun m z' hm hz => not2 hm hz rfl rfl), ?_⟩
      exact ⟨_, _, rfl, rfl, q _ (Same.then k1 (same_new hp))⟩
    · exact ⟨false, ex [0, 1, 2] (by decide), nofun, fun _ => ⟨false, ex [3, 4, 5] (by decide), nofun, fun _ => ⟨true, ex [6] (by decide), fun _ a ha => q H1 k1, nofun⟩⟩⟩
    · exact ⟨false, ex [0, 1, 2] (by decide), nofun, fun _ => ⟨false, ex [3, 4, 5] (by decide), nofun, fun _ => ⟨false, ex [6] (by decide), nofun, fun _ => ⟨true, ex [7] (by decide), fun _ a ha => q H1 k1, nofun⟩⟩⟩⟩
    · exact ⟨false, ex [0, 1, 2] (by decide), nofun, fun _ => ⟨false, ex [3, 4, 5] (by decide), nofun, fun _ => ⟨false, ex [6] (by decide), nofun, fun _ => ⟨false, ex [7] (by decide), nofun, fun _ => ⟨true, ex [8] (by decide), fun _ a ha => q H1 k1, nofun⟩⟩⟩⟩⟩
    · exact ⟨false, ex [0, 1, 2] (by decide), nofun, fun _ => ⟨false, ex [3, 4, 5] (by decide), nofun, fun _ => ⟨false, ex [6] (by decide), nofun, fun _ => ⟨false, ex [7] (by decide), nofun, fun _ => ⟨false, ex [8] (by decide), nofun, fun _ => ⟨true, ex [9] (by decide), fun _ a ha => q H1 k1, nofun⟩⟩⟩⟩⟩⟩
    · exact ⟨false, ex [0, 1, 2] (by decide), nofun, fun _ => ⟨false, ex [3, 4, 5] (by decide), nofun, fun _ => ⟨false, ex [6] (by decide), nofun, fun _ => ⟨false, ex [7] (by decide), nofun, fun _ => ⟨false, ex [8] (by decide), nofun, fun _ => ⟨false, ex [9] (by decide), nofun, fun _ => ⟨true, ex [10] (by decide), fun _ a ha => q H1 k1, nofun⟩⟩⟩⟩⟩⟩⟩
    · exact ⟨false, ex [0, 1, 2] (by decide), nofun, fun _ => ⟨false, ex [3, 4, 5] (by decide), nofun, fun _ => ⟨false, ex [6] (by decide), nofun, fun _ => ⟨false, ex [7] (by decide), nofun, fun _ => ⟨false, ex [8] (by decide), nofun, fun _ => ⟨false, ex [9] (by decide), nofun, fun _ => ⟨false, ex [10] (by decide), nofun, fun _ => ⟨true, ex [11] (by decide), fun _ a ha => q H1 k1, nofun⟩⟩⟩⟩⟩⟩⟩⟩
theorem ok_bybase (F : FnP K "_law_is_caught_by_base" sByBase f fd) (T : Cls13 K mg cl ini sN) (FT : FnOk P w K mg base (L2.CX P w) 4 fT fdT ["lot", "value"] (spThrown cl)) (gT : mg "_law_thrown" = some (.ref fT)) (kT : PySem.W.keepIn K (.ref fT) = true) (bT : Binds K fdT ["lot", "value"] []) :
    FnOk P w K mg base CX0 5 f fd ["lot", "value"] spByBase := by
  refine F.ok scByBase (fun vs H Q E h => ?_) (fun cdv A outer s H vs Q E hr h => ?_)
  · obtain ⟨lot, v, rfl, _⟩ := h
    rfl
  · obtain ⟨lot, v, rfl, hl, q⟩ := h
    refine ⟨_, PSs.nox (pss_cons (ps_try_all (tb := fun W => tDrop (tCallS (spThrown cl) (WE W) (tCons (tVar 0) (tCons (tVar 1) tNil)))) (l := [⟨([12] : List Nat).map fun j => Value.ref (cl j), none, fun _ _ _ => tRet (tOp (rI0 fun i j => .bl (decide (i < j))) (tVar 0) (tC (.int 7)))⟩, ⟨([7, 8, 9, 10, 11] : List Nat).map fun j => Value.ref (cl j), none, fun _ _ _ => tRet (tOp (rI0 fun i j => .bl (decide (j < i))) (tVar 0) (tC (.int 6)))⟩]) (Wout := fun _ _ _ _ => False) rfl rfl scByBase.nd takes0
        (fun W pn xe tk _ => pss_one (ps_expr (by exact (pe_callS FT hr rfl gT kT bT (fun σ => passAt tk σ) (by exact (pa_cons (pv 0) (pa_cons (pv 1) pa_nil)))))))
        (.plain (tests_name ⟨rfl, by decide, .inl (T.gC 12 (by decide))⟩) (fun a oe cls d pn hz hf => by exact pss_one (ps_ret (pe_cmpR op_lt (pv 0) pe_int (nomark _)))) (.plain (tests_tuple (.cons ⟨rfl, by decide, .inl (T.gC 7 (by decide))⟩ (.cons ⟨rfl, by decide, .inl (T.gC 8 (by decide))⟩ (.cons ⟨rfl, by decide, .inl (T.gC 9 (by decide))⟩ (.cons ⟨rfl, by decide, .inl (T.gC 10 (by decide))⟩ (.cons ⟨rfl, by decide, .inl (T.gC 11 (by decide))⟩ .nil))))) (by show 5 ≤ 100; decide)) (fun a oe cls d pn hz hf => by exact pss_one (ps_ret (pe_cmpR op_gt (pv 0) pe_int (nomark _)))) Hds.nil))) (pss_one (ps_ret pe_bl))), ?_⟩
    refine ⟨_, rfl, _, rfl, lot, v, rfl, hl, fun d H1 hd k1 => ?_⟩
    have ex := any_exm T hl
    by_cases c : lot < 7
    · have e1 : ([12] : List Nat).any (isSub lot) = true := by simp [isSub, c]
      refine ⟨true, (ex [12] (by decide)).trans (congrArg some e1), fun _ a ha => ?_, nofun⟩
      refine ⟨_, rfl, _, _, rfl, rfl, ?_⟩
      show Q (.bl (decide ((lot : Int) < 7))) H1
      rw [decide_eq_true (show (lot : Int) < 7 by omega)]
      exact q H1 k1
    · have e1 : ([12] : List Nat).any (isSub lot) = false := by simp [isSub, c]
      refine ⟨false, (ex [12] (by decide)).trans (congrArg some e1), nofun, fun _ => ?_⟩
      have e2 : ([7, 8, 9, 10, 11] : List Nat).any (isSub lot) = true := by
        rcases (by omega : lot = 7 ∨ lot = 8 ∨ lot = 9 ∨ lot = 10 ∨ lot = 11) with rfl | rfl | rfl | rfl | rfl <;> rfl
      refine ⟨true, (ex [7, 8, 9, 10, 11] (by decide)).trans (congrArg some e2), fun _ a ha => ?_, nofun⟩
      refine ⟨_, rfl, _, _, rfl, rfl, ?_⟩
      show Q (.bl (decide ((6 : Int) < (lot : Int)))) H1
      rw [decide_eq_true (show (6 : Int) < lot by omega)]
      exact q H1 k1
end
end K1

/-! the law -/
namespace K1
open PySem PySem.Spec PyProof.Rows L2 XE
open PySem.W (Frag)
abbrev sLaw : Stmt := top 29
def spLaw (K : Frag) : Sp := fun vs H Q _ => ∃ (a : Addr) (ns : List Int), vs = [.ref a] ∧ SqL K H a (ns.map V.int) ∧ ns.length ≤ 63 ∧ Only H ∧ ∀ H', Q (.bl true) H'
/-- one that was made: its number, its value, the error -/
def Item (cl : Nat → Addr) (H : Hp) (t : Addr) : Prop := ∃ (lot : Nat) (v : V) (e : Addr), lot < 12 ∧ H t = some (.tup [.int (lot : Int), v, .ref e]) ∧ Worth H lot v ∧ ErrOk cl H lot v e
theorem Item.keep {cl : Nat → Addr} {H H' : Hp} {t : Addr} (k : ∀ b o, (∀ x xs, o ≠ .lst (.int x :: xs)) → (∀ x xs, o ≠ .lst (.ref x :: xs)) → o ≠ .lst [] → H b = some o → H' b = some o) (h : Item cl H t) : Item cl H' t := by
  obtain ⟨lot, v, e, h1, h2, h3, h4⟩ := h
  exact ⟨lot, v, e, h1, k _ _ (fun _ _ z => by cases z) (fun _ _ z => by cases z) (fun z => by cases z) h2, h3.keep k, h4.keep fun b o n => k b o (fun x xs => n _) (fun x xs => n _) (n _)⟩
theorem Item.same {cl : Nat → Addr} {H H' : Hp} {t : Addr} (h : Item cl H t) (k : Same H H') : Item cl H' t := h.keep fun b o _ _ _ => k b o
theorem Item.kj {cl : Nat → Addr} {H H' : Hp} {t j : Addr} (h : Item cl H t) (hj : JugAt H j) (k : Kj j H H') : Item cl H' t := h.keep fun b o n _ _ e => k.1 b o (fun z => by
  obtain ⟨x, y, w, ej, _⟩ := hj
  rw [z, ej] at e
  exact n _ _ (Option.some.inj e).symm) e
/-- the list that is filled is filled further -/
theorem Item.fill {cl : Nat → Addr} {H : Hp} {t f : Addr} {ts : List Addr} {o : HO} (h : Item cl H t) (hf : H f = some (.lst (ts.map V.ref))) : Item cl (upd H f o) t := h.keep fun b u n1 n2 n3 e => by
  have nb : b ≠ f := fun z => by
    rw [z, hf] at e
    have y := (Option.some.inj e).symm
    cases ts with
    | nil => exact n3 y
    | cons a as => exact n2 _ _ y
  rw [upd_ne nb]
  exact e
def both (lot : Nat) : PyData := .list [.list ((List.range 13).map fun i => .bool (isSub lot i)), .list ((List.range 7).map fun i => .bool (isBase lot i))]
theorem dp_bools {K : Frag} {H : Hp} (f : Nat → Bool) : ∀ l : List Nat, DpAll K H (l.map fun i => V.bl (f i)) (l.map fun i => PyData.bool (f i))
  | [] => .nil
  | i :: l => .cons (.bl (f i)) (dp_bools f l)
theorem both_ok : ∀ lot, lot < 12 → (both lot).showable = true ∧ (both lot).depth ≤ 60 ∧ (both lot).shown.length ≤ sizeLine := by decide +kernel
section
variable {P : Program} {w : World} {K : Frag} {mg : Str → Option Value} {base : Heap} {cl ini : Nat → Addr} {sN f : Addr} {fd : FuncData}
/-- the defs that the law calls -/
structure Calls (P : Program) (w : World) (K : Frag) (mg : Str → Option Value) (base : Heap) (cl : Nat → Addr) : Prop where
  jug : ∃ a d, mg "_law_jug" = some (.ref a) ∧ PySem.W.keepIn K (.ref a) = true ∧ Binds K d ["script", "at"] [] ∧ FnOk P w K mg base CX0 1 a d ["script", "at"] (spJug K)
  dealt : ∃ a d, mg "_law_dealt" = some (.ref a) ∧ PySem.W.keepIn K (.ref a) = true ∧ Binds K d ["jug", "items"] [] ∧ FnOk P w K mg base CX0 2 a d ["jug", "items"] (spDealt K)
  worth : ∃ a d, mg "_law_worth" = some (.ref a) ∧ PySem.W.keepIn K (.ref a) = true ∧ Binds K d ["jug", "lot"] [] ∧ FnOk P w K mg base CX0 3 a d ["jug", "lot"] spWorth
  made : ∃ a d, mg "_law_made_one" = some (.ref a) ∧ PySem.W.keepIn K (.ref a) = true ∧ Binds K d ["lot", "value"] [] ∧ FnOk P w K mg base CX0 3 a d ["lot", "value"] (spMade cl 12)
  caught : ∃ a d, mg "_law_caught" = some (.ref a) ∧ PySem.W.keepIn K (.ref a) = true ∧ Binds K d ["lot", "value"] [] ∧ FnOk P w K mg base CX0 5 a d ["lot", "value"] spCaught
  bybase : ∃ a d, mg "_law_is_caught_by_base" = some (.ref a) ∧ PySem.W.keepIn K (.ref a) = true ∧ Binds K d ["lot", "value"] [] ∧ FnOk P w K mg base CX0 5 a d ["lot", "value"] spByBase
  sorts : ∃ a d, mg "_law_sorts" = some (.ref a) ∧ PySem.W.keepIn K (.ref a) = true ∧ Binds K d ["error"] [] ∧ FnOk P w K mg base CX0 1 a d ["error"] (spSorts cl)
  bases : ∃ a d, mg "_law_bases" = some (.ref a) ∧ PySem.W.keepIn K (.ref a) = true ∧ Binds K d ["error"] [] ∧ FnOk P w K mg base CX0 1 a d ["error"] (spBases cl)
  due : ∃ a d, mg "_law_due" = some (.ref a) ∧ PySem.W.keepIn K (.ref a) = true ∧ Binds K d ["lot"] [] ∧ FnOk P w K mg base CX0 1 a d ["lot"] spDue
  kept : ∃ a d, mg "_law_is_kept" = some (.ref a) ∧ PySem.W.keepIn K (.ref a) = true ∧ Binds K d ["lot", "error", "value"] [] ∧ FnG P w K mg base CX0 4 a d ["lot", "error", "value"] (spKept cl)
theorem scLaw : FnScope ["script", "at", "jug", "found", "lot", "value", "error"] ["script"] (defScope sLaw) := ⟨rfl, rfl, rfl, by decide +kernel, rfl, by decide +kernel, by decide +kernel⟩
theorem ok_law (F : FnP K "law" sLaw f fd) (T : Cls13 K mg cl ini sN) (C : Calls P w K mg base cl) (mR : mg "range" = none) (mT : mg "list" = none) (mM : mg "max" = none) (mN : mg "min" = none) (mL : mg "len" = none) (mP : mg "repr" = none) : FnG P w K mg base CX0 6 f fd ["script"] (spLaw K) := by
  obtain ⟨ajug, djug, gjug, kjug, bjug, Fjug⟩ := C.jug
  obtain ⟨adealt, ddealt, gdealt, kdealt, bdealt, Fdealt⟩ := C.dealt
  obtain ⟨aworth, dworth, gworth, kworth, bworth, Fworth⟩ := C.worth
  obtain ⟨amade, dmade, gmade, kmade, bmade, Fmade⟩ := C.made
  obtain ⟨acaught, dcaught, gcaught, kcaught, bcaught, Fcaught⟩ := C.caught
  obtain ⟨abybase, dbybase, gbybase, kbybase, bbybase, Fbybase⟩ := C.bybase
  obtain ⟨asorts, dsorts, gsorts, ksorts, bsorts, Fsorts⟩ := C.sorts
  obtain ⟨abases, dbases, gbases, kbases, bbases, Fbases⟩ := C.bases
  obtain ⟨adue, ddue, gdue, kdue, bdue, Fdue⟩ := C.due
  obtain ⟨akept, dkept, gkept, kkept, bkept, Fkept⟩ := C.kept
  refine fnG F scLaw (fun vs H Q E h => ?_) (fun cdv A outer s H vs Q E hg hr h => ?_)
  · obtain ⟨a, ns, rfl, _⟩ := h
    rfl
  · obtain ⟨a, ns, rfl, hS, hlen, hO, q⟩ := h
    refine ⟨_, PSs.nox (pss_cons (ps_for PassesOwn.never rfl (pi_range1 (by rfl) mR (pa_cons (pe_callB (call_max2 rfl) (by rfl) mM (by decide +kernel) (pa_cons pe_int (pa_cons (pe_callB (call_min2 rfl) (by rfl) mN (by decide +kernel) (pa_cons pe_int (pa_cons (pe_callB call_len_seq (by rfl) mL PySem.boot_len (pa_cons (pv 0) pa_nil)) pa_nil))) pa_nil))) pa_nil)) (pg_name (i := 1) scLaw.nd rfl (.inl rfl)) (pss_cons (ps_par (i := 2) (j := 3) rfl scLaw.nd rfl rfl (by decide) rfl rfl (pa_cons (pe_call Fjug (hr.mono (by decide)) (by rfl) gjug kjug bjug .nil pass0 (pa_cons (pv 0) (pa_cons (pv 1) pa_nil))) (pa_cons (pe_lst pa_nil) pa_nil)) (by rfl))
      (pss_cons (ps_for PassesOwn.never rfl (pi_list (pe_call Fdealt (hr.mono (by decide)) (by rfl) gdealt kdealt bdealt .nil pass0 (pa_cons (pv 2) (pa_cons (pe_op op_rep (pe_listRg rfl (by rfl) mT (prg_1 (by rfl) mR pe_int)) pe_int) pa_nil)))) (pg_name (i := 4) scLaw.nd rfl (.inl rfl)) (pss_cons (ps_set (i := 5) scLaw.nd rfl (.inl rfl) (pe_call Fworth (hr.mono (by decide)) (by rfl) gworth kworth bworth .nil pass0 (pa_cons (pv 2) (pa_cons (pv 4) pa_nil))))
        (pss_cons (ps_expr (pe_bm PySem.F.plainAttrs_list PySem.F.slot_list_append PySem.F.type_list_append mt_append (pv 3) (pa_cons (pe_tup (pa_cons (pv 4) (pa_cons (pv 5) (pa_cons (pe_call Fmade (hr.mono (by decide)) (by rfl) gmade kmade bmade .nil pass0 (pa_cons (pv 4) (pa_cons (pv 5) pa_nil))) pa_nil)))) pa_nil)))
        (pss_one (ps_if (PW.pt (pw_or (pt_cmpR op_ne (pe_call Fcaught (hr.mono (by decide)) (by rfl) gcaught kcaught bcaught .nil pass0 (pa_cons (pv 4) (pa_cons (pv 5) pa_nil))) (pv 4) (nomark _)) (pw_or1 (pt_not (pt_val (pe_call Fbybase (hr.mono (by decide)) (by rfl) gbybase kbybase bbybase .nil pass0 (pa_cons (pv 4) (pa_cons (pv 5) pa_nil)))))))) (pss_one (ps_ret pe_bl)) pss_nil)))))
      (pss_one (ps_for PassesOwn.never rfl (pi_list (pv 3)) (pg_tup rfl (pgs_cons (pg_name (i := 4) scLaw.nd rfl (.inl rfl)) (pgs_cons (pg_name (i := 5) scLaw.nd rfl (.inl rfl)) (pgs_cons (pg_name (i := 6) scLaw.nd rfl (.inl rfl)) pgs_nil)))) (pss_cons (ps_if (pt_cmpR op_ne (pe_callB (call_repr hg hr.units) (by rfl) mP bRepr (pa_cons (pe_lst (pa_cons (pe_call Fsorts (hr.mono (by decide)) (by rfl) gsorts ksorts bsorts .nil pass0 (pa_cons (pv 6) pa_nil)) (pa_cons (pe_call Fbases (hr.mono (by decide)) (by rfl) gbases kbases bbases .nil pass0 (pa_cons (pv 6) pa_nil)) pa_nil))) pa_nil)) (pe_callB (call_repr hg hr.units) (by rfl) mP bRepr (pa_cons (pe_call Fdue (hr.mono (by decide)) (by rfl) gdue kdue bdue .nil pass0 (pa_cons (pv 4) pa_nil)) pa_nil)) (nomark _)) (pss_one (ps_ret pe_bl)) pss_nil)
        (pss_one (ps_if (pt_not (pt_val (pe_callG Fkept hg (hr.mono (by decide)) (by rfl) gkept kkept bkept pass0 (pa_cons (pv 4) (pa_cons (pv 6) (pa_cons (pv 5) pa_nil)))))) (pss_one (ps_ret pe_bl)) pss_nil)))))))) (pss_one (ps_ret pe_bl))), ?_⟩
    have lim : ∃ N : Int, (if (if ((ns.map V.int).length : Int) < 6 then ((ns.map V.int).length : Int) else 6) > 1 then (if ((ns.map V.int).length : Int) < 6 then ((ns.map V.int).length : Int) else 6) else 1) = N ∧ 0 ≤ N ∧ N ≤ 6 := ⟨_, rfl, by split <;> (try split) <;> omega, by split <;> (try split) <;> omega⟩
    obtain ⟨N, eN, N0, N6⟩ := lim
    refine ⟨_, rfl, _, _, rfl, .inl hS, _, _, rfl, _, _, rfl, N, ?_, by omega, by omega, ?_⟩
    · rw [← eN]
    refine for_range (n := N.toNat) (fun i σ H' => (∃ x1 x2 x3 x4 x5 x6 : Option V, σ = [some (.ref a), x1, x2, x3, x4, x5, x6]) ∧ Same H H') ⟨⟨_, _, _, _, _, _, rfl⟩, fun _ _ z => z⟩ ?_ (fun σ H' ⟨_, k⟩ => q H')
    rintro i σ H0 hi ⟨⟨x1, x2, x3, x4, x5, x6, rfl⟩, k0⟩
    have hS0 : SqL K H0 a (ns.map V.int) := k0.seq hS
    refine ⟨_, rfl, _, rfl, a, ns, i, by show [V.ref a, V.int (0 + (i : Int))] = [V.ref a, V.int (i : Int)]; rw [Int.zero_add], hS0, fun j H1 hj k1 jug1 => ?_⟩
    refine ⟨by show 0 ≤ sizeLine; decide, fun fo hfo => ⟨_, _, rfl, ?_⟩⟩
    have kf := same_new (o := .lst []) hfo
    have fof : (upd H1 fo (.lst [])) fo = some (.lst []) := upd_same
    have jug2 : JugAt (upd H1 fo (.lst [])) j := by
      obtain ⟨u, v, w', e, z⟩ := jug1
      exact ⟨u, v, w', kf _ _ e, z⟩
    have k2 : Same H (upd H1 fo (.lst [])) := Same.then k0 (Same.then k1 kf)
    have hfj : fo ≠ j := jug_ne jug1 hfo
    have fresh : H j = none ∧ H fo = none := by
      refine ⟨?_, ?_⟩
      · cases e : H j with
        | none => rfl
        | some o => rw [k0 _ _ e] at hj; cases hj
      · cases e : H fo with
        | none => rfl
        | some o => rw [k1 _ _ (k0 _ _ e)] at hfo; cases hfo
    generalize upd H1 fo (.lst []) = H2 at fof jug2 k2
    -- the dealt numbers
    refine ⟨_, rfl, _, rfl, ⟨by decide, by decide, by decide, by decide, by decide⟩, fun r0 hr0 => ?_⟩
    have kr0 := same_new (o := .lst (rgV 0 12)) hr0
    have er0 : (upd H2 r0 (.lst (rgV 0 12))) r0 = some (.lst (rgV 0 12)) := upd_same
    generalize upd H2 r0 (.lst (rgV 0 12)) = H3 at kr0 er0
    refine ⟨r0, 2, _, rfl, rfl, er0, by decide, by decide, by decide, fun r1 hr1 => ?_⟩
    have kr1 := same_new (o := .lst (List.replicate (2 : Int).toNat (rgV 0 12)).flatten) hr1
    have er1 : (upd H3 r1 (.lst (List.replicate (2 : Int).toNat (rgV 0 12)).flatten)) r1 = some (.lst (List.replicate (2 : Int).toNat (rgV 0 12)).flatten) := upd_same
    generalize upd H3 r1 (.lst (List.replicate (2 : Int).toNat (rgV 0 12)).flatten) = H4 at kr1 er1
    have k24 : Same H2 H4 := Same.then kr0 kr1
    have jug4 : JugAt H4 j := by
      obtain ⟨u, v, w', e, z⟩ := jug2
      exact ⟨u, v, w', k24 _ _ e, z⟩
    have jug3 : JugAt H3 j := by
      obtain ⟨u, v, w', e, z⟩ := jug2
      exact ⟨u, v, w', kr0 _ _ e, z⟩
    refine ⟨j, r1, _, rfl, jug4, SqL.of er1, jug_ne jug3 hr1, by decide, fun dl ys H5 hdl eys lys mys hk5 => ?_⟩
    have dlj := jug_ne jug4 hdl
    have dlf : dl ≠ fo := fun z => by
      rw [z, k24 _ _ fof] at hdl
      cases hdl
    have nums : ∀ y ∈ ys, ∃ lot : Nat, lot < 12 ∧ y = .int (lot : Int) := fun y hy => by
      have z := mys y hy
      have z2 : y ∈ rgV 0 12 := by
        have z3 : y ∈ ([rgV 0 12, rgV 0 12] : List (List V)).flatten := z
        simpa using z3
      unfold rgV at z2
      obtain ⟨m, hm, rfl⟩ := List.mem_map.mp z2
      exact ⟨m, List.mem_range.mp hm, by rw [Int.zero_add]⟩
    have k5 : Same H H5 := fun b o z => hk5.1 b o (fun y => by rw [y, fresh.1] at z; cases z) (k24 _ _ (k2 _ _ z))
    have fo5 : H5 fo = some (.lst []) := hk5.1 _ _ hfj (k24 _ _ fof)
    refine ⟨dl, rfl, ⟨_, SqL.of eys⟩, for_list (xs := ys) (fun i' σ H' => ∃ ts : List Addr, (∃ y4 y5 y6 : Option V, σ = [some (.ref a), some (.int (0 + (i : Int))), some (.ref j), some (.ref fo), y4, y5, y6]) ∧ Same H H' ∧ JugAt H' j ∧ H' fo = some (.lst (ts.map V.ref)) ∧ ts.length = i' ∧ (∀ t ∈ ts, Item cl H' t) ∧ H' dl = some (.lst ys))
      ⟨[], ⟨_, _, _, rfl⟩, k5, hk5.2, fo5, rfl, fun _ z => (nomatch z), eys⟩ (fun i' σ H' _ ⟨_, _, _, _, _, _, _, z⟩ => SqL.of z) ?_ ?_⟩
    · rintro i' x σ G0 hx ⟨ts, ⟨y4, y5, y6, rfl⟩, s0, ju, hf, lt, its, hd⟩
      obtain ⟨lot, hl, rfl⟩ := nums x (List.mem_of_getElem? hx)
      have small : i' < ys.length := (List.getElem?_eq_some_iff.mp hx).1
      have lys2 : ys.length = 24 := lys
      refine ⟨_, rfl, _, rfl, j, lot, rfl, ju, hl, fun v G1 kj1 hw => ?_⟩
      have f1 := kj1.1 _ _ hfj hf
      have d1 := kj1.1 _ _ dlj hd
      have s1 : Same H G1 := fun b o z => kj1.1 b o (fun y => by rw [y, fresh.1] at z; cases z) (s0 _ _ z)
      have i1 : ∀ t ∈ ts, Item cl G1 t := fun t ht => (its t ht).kj ju kj1
      refine ⟨_, rfl, .inl ⟨rfl, _, .inl (.inl f1)⟩, _, rfl, _, rfl, _, rfl, _, rfl, lot, v, rfl, hl, fun e G2 he2 k2' hE => ⟨by show 3 ≤ sizeLine; decide, fun t ht => ?_⟩⟩
      have kt := same_new (o := .tup [.int (lot : Int), v, .ref e]) ht
      have et : (upd G2 t (.tup [.int (lot : Int), v, .ref e])) t = some (.tup [.int (lot : Int), v, .ref e]) := upd_same
      generalize upd G2 t (.tup [.int (lot : Int), v, .ref e]) = G3 at kt et
      have k13 : Same G1 G3 := Same.then k2' kt
      have f3 := k13 _ _ f1
      have here : Item cl G3 t := ⟨lot, v, e, hl, et, hw.keep fun b o _ _ _ => k13 b o, hE.keep fun b o _ => kt b o⟩
      refine ⟨fo, ts.map V.ref, .ref t, rfl, rfl, f3, by rw [List.length_map, lt]; exact Nat.lt_of_lt_of_le (show i' < 100 by omega) (by decide), ?_⟩
      have i4 : ∀ t' ∈ ts ++ [t], Item cl (upd G3 fo (.lst (ts.map V.ref ++ [.ref t]))) t' := fun t' ht' => by
        rcases List.mem_append.mp ht' with z | z
        · exact ((i1 t' z).same k13).fill f3
        · rw [List.mem_singleton.mp z]
          exact here.fill f3
      have f4 : (upd G3 fo (.lst (ts.map V.ref ++ [.ref t]))) fo = some (.lst ((ts ++ [t]).map V.ref)) := by
        rw [List.map_append]
        exact upd_same
      have d4 : (upd G3 fo (.lst (ts.map V.ref ++ [.ref t]))) dl = some (.lst ys) := by
        rw [upd_ne dlf]
        exact k13 _ _ d1
      have j4 : JugAt (upd G3 fo (.lst (ts.map V.ref ++ [.ref t]))) j := by
        obtain ⟨u, v', w', e', z⟩ := kj1.2
        exact ⟨u, v', w', by rw [upd_ne (Ne.symm hfj)]; exact k13 _ _ e', z⟩
      have s4 : Same H (upd G3 fo (.lst (ts.map V.ref ++ [.ref t]))) := fun b o z => by
        rw [upd_ne (fun y => by rw [y, fresh.2] at z; cases z)]
        exact k13 _ _ (s1 _ _ z)
      generalize upd G3 fo (.lst (ts.map V.ref ++ [.ref t])) = G4 at i4 f4 d4 j4 s4
      refine ⟨_, rfl, _, rfl, lot, v, rfl, hl, fun G5 k5' => ⟨_, rfl, rfl, _, rfl, iteNS rfl ?_⟩⟩
      refine ⟨_, rfl, _, rfl, lot, v, rfl, hl, fun G6 k6' => ⟨true, rfl, iteF ?_⟩⟩
      have k46 : Same G4 G6 := Same.then k5' k6'
      refine ⟨ts ++ [t], ⟨_, _, _, rfl⟩, Same.then s4 k46, ?_, k46 _ _ f4, by rw [List.length_append, lt]; rfl, fun t' ht' => (i4 t' ht').same k46, k46 _ _ d4⟩
      obtain ⟨u, v', w', e', z⟩ := j4
      exact ⟨u, v', w', k46 _ _ e', z⟩
    · rintro σ G0 ⟨ts, ⟨y4, y5, y6, rfl⟩, s0, ju, hf, lt, its, hd⟩
      refine ⟨_, rfl, fo, rfl, ⟨_, SqL.of hf⟩, for_list (xs := ts.map V.ref) (fun i' σ H' => (∃ y4 y5 y6 : Option V, σ = [some (.ref a), some (.int (0 + (i : Int))), some (.ref j), some (.ref fo), y4, y5, y6]) ∧ Same H H' ∧ H' fo = some (.lst (ts.map V.ref)) ∧ ∀ t ∈ ts, Item cl H' t)
        ⟨⟨_, _, _, rfl⟩, s0, hf, its⟩ (fun i' σ H' _ ⟨_, _, z, _⟩ => SqL.of z) ?_ (fun σ H' ⟨⟨_, _, _, z⟩, s, _⟩ => ⟨⟨_, _, _, _, _, _, z⟩, s⟩)⟩
      rintro i' x σ G1 hx ⟨⟨y4, y5, y6, rfl⟩, s1, f1, i1⟩
      obtain ⟨t, ht, rfl⟩ := List.mem_map.mp (List.mem_of_getElem? hx)
      obtain ⟨lot, v, e, hl, h2, hw, hE⟩ := i1 t ht
      refine ⟨t, _, rfl, SqT.of h2, rfl, _, _, rfl, _, _, rfl, _, _, rfl, rfl, ?_⟩
      refine ⟨_, rfl, lot, e, rfl, hl, hE.held, fun p1 G2 k2' g1 => ⟨_, rfl, lot, e, rfl, hl, Held.same hE.held k2', fun p2 G3 k3' g2 => ⟨by show 2 ≤ sizeLine; decide, fun p3 hp3 => ?_⟩⟩⟩
      have k4' := same_new (o := .lst [.ref p1, .ref p2]) hp3
      have e3 : (upd G3 p3 (.lst [.ref p1, .ref p2])) p3 = some (.lst [.ref p1, .ref p2]) := upd_same
      generalize upd G3 p3 (.lst [.ref p1, .ref p2]) = G4 at k4' e3
      obtain ⟨sh, dp, sz⟩ := both_ok lot hl
      refine ⟨_, both lot, rfl, .dat (.lst (SqL.of e3) (.cons (.lst (SqL.of (k4' _ _ (k3' _ _ g1))) (dp_bools _ _)) (.cons (.lst (SqL.of (k4' _ _ g2)) (dp_bools _ _)) .nil))), sh, dp, sz, ?_⟩
      refine ⟨_, rfl, lot, rfl, hl, fun p a' b' G5 k5' g5 g6 g7 => ?_⟩
      refine ⟨_, both lot, rfl, .dat (.lst (SqL.of g5) (.cons (.lst (SqL.of g6) (dp_bools _ _)) (.cons (.lst (SqL.of g7) (dp_bools _ _)) .nil))), sh, dp, sz, rfl, _, rfl, iteNS rfl ?_⟩
      have k15 : Same G1 G5 := Same.then k2' (Same.then k3' (Same.then k4' k5'))
      refine ⟨_, rfl, _, rfl, _, rfl, lot, e, v, rfl, hl, hw.keep fun b o _ _ _ => k15 b o, hE.keep fun b o _ => k15 b o, fun G6 k6' => ⟨true, rfl, iteF ?_⟩⟩
      have k16 := Same.then k15 k6'
      exact ⟨⟨_, _, _, rfl⟩, Same.then s1 k16, k16 _ _ f1, fun t' ht' => (i1 t' ht').same k16⟩
end
end K1

/-! the head's facts -/
namespace K1
open PySem PySem.Spec PyProof.Rows L2 XE
open PySem.W (Frag)
def dG (x : Str) (st : Stmt) : He.DefD := ⟨(x, none), x, x, defArgs st, defBody st, defScope st, [], []⟩
def dM (C m q : Str) (st : Stmt) : He.DefD := ⟨(C, some m), m, q, defArgs st, defBody st, defScope st, [], []⟩
def fn : List He.DefD := [dG "_law_jug" sJug, dG "_law_bit" sBit, dG "_law_pick" sPick, dG "_law_dealt" sDealt, dG "_law_first_ones" sFirst, dG "_law_made_one" sMade, dG "_law_thrown" sThrown, dG "_law_sorts" sSorts, dG "_law_bases" sBases, dG "_law_due" sDue,
  dG "_law_is_kept" sKept, dG "_law_caught" sCaught, dG "_law_is_caught_by_base" sByBase, dG "_law_worth" sWorth, dG "law" sLaw,
  dM "ParseError" "__init__" "ParseError.__init__" (sInit 8), dM "InvalidNumber" "__init__" "InvalidNumber.__init__" (sInit 9), dM "TooMany" "__init__" "TooMany.__init__" (sInit 10), dM "NothingToUndo" "__init__" "NothingToUndo.__init__" (sInit 11), dM "Clash" "__init__" "Clash.__init__" (sInit 12), dM "NotFull" "__init__" "NotFull.__init__" (sInit 13),
  dM "InvalidNumber" "__str__" "InvalidNumber.__str__" sStr]
def fa : List He.Fa := (List.range 13).map (fun i => He.Fa.glo (nm i)) ++ ([ "_law_jug", "_law_bit", "_law_pick", "_law_dealt", "_law_first_ones", "_law_made_one", "_law_thrown", "_law_sorts", "_law_bases", "_law_due", "_law_is_kept", "_law_caught", "_law_is_caught_by_base", "_law_worth", "law" ] : List Str).map He.Fa.glo ++
  ([ "int", "len", "abs", "max", "min", "range", "list", "isinstance", "repr", "str" ] : List Str).map He.Fa.free ++ (List.range 7).map fun i => He.Fa.free (Str.ofString (bn i))
def clA (K : Frag) (i : Nat) : Addr := He.ga K (nm i)
def inA (K : Frag) (i : Nat) : Addr := He.ma K (clA K i) "__init__"
def stA (K : Frag) : Addr := He.ma K (clA K 7) "__str__"
def excB (K : Frag) (C : Addr) : Bool := He.eqO (PySem.W.findIn K (.ref C) "__getattribute__") (some (some (.builtin "BaseException.__getattribute__"))) && (He.eqO (PySem.W.findIn K (.ref C) "__getattr__") (some none) && (decide (PySem.W.subIn K (.ref C) (.type "BaseException") = some true) &&
  (PySem.W.hasDictIn K C && (He.eqO (PySem.W.findIn K (.ref C) "__class__") (some (some (.builtin "object.__class__"))) && (He.eqO (PySem.W.specialIn K (.builtin "object.__class__") "__get__") (some (some (.builtin "getset_descriptor.__get__"))) &&
  (decide (PySem.W.takesIn K (.builtin "object.__class__") = some true) && decide (PySem.W.mroIn K C (.type "object") = some true)))))))
def initB (K : Frag) (i : Nat) : Bool := PySem.W.excInitIn K (clA K i) (bsM i) (bsN i ++ ".__new__") && (PySem.W.excOver K (clA K i) (bsM i) && (He.eqO (PySem.W.findIn K (.ref (clA K i)) "__setattr__") (some (some (.builtin "object.__setattr__"))) &&
  (He.eqO (PySem.W.findIn K (.ref (clA K i)) "__init__") (some (some (.ref (inA K i)))) && PySem.W.isFn K (.ref (inA K i)))))
def tkB (K : Frag) (C : Addr) (f : Str) : Bool := He.eqO (PySem.W.takerIn K C f) (some none) && He.eqO (PySem.W.findIn K (.ref C) f) (some none)
def chk (K : Frag) : Bool :=
  (List.range 12).all (fun i => PySem.W.keepIn K (.ref (clA K i))) && ((List.range 6).all (fun i => PySem.W.excIn K (clA K i) (bsM i) "ValueError.__new__") && (([6, 7, 8, 9, 10, 11] : List Nat).all (fun i => initB K i) &&
  (([6, 7, 8, 9, 10, 11] : List Nat).all (fun i => tkB K (clA K i) (fld i)) && (tkB K (clA K 10) "other" && ((List.range 12).all (fun i => excB K (clA K i)) && ((List.range 12).all (fun i => decide (PySem.W.typeIn K (.ref (clA K i)) = some (.type "type"))) &&
  ((List.range 12).all (fun i => (List.range 13).all fun j => decide (PySem.W.kitOne K (.ref (clA K i)) (.ref (clA K j)) = some (isSub i j))) && ((List.range 12).all (fun i => (List.range 7).all fun j => decide (PySem.W.kitOne K (.ref (clA K i)) (.type (bn j)) = some (isBase i j))) &&
  ((List.range 12).all (fun i => (List.range 13).all fun j => decide (PySem.W.exmOne K (.ref (clA K i)) (.ref (clA K j)) = some (isSub i j))) &&
  (He.eqO (PySem.W.findIn K (.ref (clA K 7)) "__str__") (some (some (.ref (stA K)))) && PySem.W.isFn K (.ref (stA K))))))))))))
abbrev R : PySem.W.OpenRow := PySem.W.OpenLaw.row PySem.Challenge.rw_twowaycuts_k01_whole_errors
abbrev hk : PySem.W.Hook := He.hookX 6 fa fn [] [] chk
def ob (s : PySem.W.SharedT) : He.AlX := He.obsX 6 fa fn [] [] chk (HandSHeadRun.getT s)
theorem ob_eq (s : PySem.W.SharedT) : ob s = hk.obs s.abs := He.obsX_eq (HandSHeadRun.getT_eq s)
def loose : List Str := ["BookError", "InvalidLetters", "InvalidText", "InvalidWord", "InvalidBook", "InvalidPlan", "InvalidOperation", "ParseError", "InvalidNumber", "TooMany", "NothingToUndo", "Clash", "NotFull", "_law_jug", "_law_bit", "_law_pick", "_law_dealt", "_law_first_ones", "_law_made_one", "_law_thrown", "_law_sorts", "_law_bases", "_law_due", "_law_is_kept", "_law_caught", "_law_is_caught_by_base", "_law_worth"]
set_option maxHeartbeats 0 in
theorem run (w : World) : HandSHeadRun.RunEq R (PySem.W.view R.prog [29]) hk ob 4000 loose w := by
  intro os
  kernel_rfl
end K1

namespace K1
open PySem PySem.Spec PyProof.Rows L2 XE
open PySem.W (Frag)
theorem ab {a b : Bool} (h : (a && b) = true) : a = true ∧ b = true := Bool.and_eq_true_iff.mp h
theorem allR {n : Nat} {p : Nat → Bool} (h : (List.range n).all p = true) : ∀ i, i < n → p i = true := fun i hi => List.all_eq_true.mp h i (List.mem_range.mpr hi)
theorem all6 {p : Nat → Bool} (h : ([6, 7, 8, 9, 10, 11] : List Nat).all p = true) : ∀ i, 6 ≤ i → i < 12 → p i = true := fun i h1 h2 => List.all_eq_true.mp h i (by
  rcases (by omega : i = 6 ∨ i = 7 ∨ i = 8 ∨ i = 9 ∨ i = 10 ∨ i = 11) with rfl | rfl | rfl | rfl | rfl | rfl <;> decide)
theorem excB_ok {K : Frag} {C : Addr} (h : excB K C = true) : ExcC K C := by
  obtain ⟨h1, h⟩ := ab h
  obtain ⟨h2, h⟩ := ab h
  obtain ⟨h3, h⟩ := ab h
  obtain ⟨h4, h⟩ := ab h
  obtain ⟨h5, h⟩ := ab h
  obtain ⟨h6, h⟩ := ab h
  obtain ⟨h7, h8⟩ := ab h
  exact ⟨He.eqO_ok h1, He.eqO_ok h2, of_decide_eq_true h3, h4, He.eqO_ok h5, He.eqO_ok h6, of_decide_eq_true h7, of_decide_eq_true h8⟩
theorem tkB_ok {K : Frag} {C : Addr} {f : Str} (h : tkB K C f = true) : PySem.W.takerIn K C f = some none ∧ PySem.W.findIn K (.ref C) f = some none := by
  obtain ⟨h1, h2⟩ := ab h
  exact ⟨He.eqO_ok h1, He.eqO_ok h2⟩
theorem how13 {K : Frag} {i : Nat} (h6 : 6 ≤ i) (h12 : i < 12) (h1 : PySem.W.excInitIn K (clA K i) (bsM i) (bsN i ++ ".__new__") = true) (h2 : PySem.W.excOver K (clA K i) (bsM i) = true) :
    ∃ B newId initId bmB, ExcBaseFacts B newId initId bmB ∧ StoreFacts B bmB "object.__setattr__" "object" ∧ PySem.W.excInitIn K (clA K i) bmB newId = true ∧ PySem.W.excOver K (clA K i) bmB = true := by
  rcases (by omega : i = 6 ∨ i = 7 ∨ i = 8 ∨ i = 9 ∨ i = 10 ∨ i = 11) with rfl | rfl | rfl | rfl | rfl | rfl
  · exact ⟨_, _, _, _, PySem.F.excBase_ValueError, PySem.F.store_ValueError, h1, h2⟩
  · exact ⟨_, _, _, _, PySem.F.excBase_IndexError, PySem.F.store_IndexError, h1, h2⟩
  · exact ⟨_, _, _, _, PySem.F.excBase_OverflowError, PySem.F.store_OverflowError, h1, h2⟩
  · exact ⟨_, _, _, _, PySem.F.excBase_LookupError, PySem.F.store_LookupError, h1, h2⟩
  · exact ⟨_, _, _, _, PySem.F.excBase_ArithmeticError, PySem.F.store_ArithmeticError, h1, h2⟩
  · exact ⟨_, _, _, _, PySem.F.excBase_ArithmeticError, PySem.F.store_ArithmeticError, h1, h2⟩
theorem cls13 {K : Frag} {mg : Str → Option Value} (h : chk K = true) (g : ∀ i, i < 13 → mg (nm i) = some (.ref (clA K i))) : Cls13 K mg (clA K) (inA K) (stA K) := by
  obtain ⟨c1, h⟩ := ab h
  obtain ⟨c2, h⟩ := ab h
  obtain ⟨c3, h⟩ := ab h
  obtain ⟨c4, h⟩ := ab h
  obtain ⟨c5, h⟩ := ab h
  obtain ⟨c6, h⟩ := ab h
  obtain ⟨c7, h⟩ := ab h
  obtain ⟨c8, h⟩ := ab h
  obtain ⟨c9, h⟩ := ab h
  obtain ⟨c10, h⟩ := ab h
  obtain ⟨c11, c12⟩ := ab h
  refine ⟨g, allR c1, fun i hi => allR c2 i hi, fun i h6 h12 => ?_, fun i h6 h12 => tkB_ok (all6 c4 i h6 h12), tkB_ok c5, fun i hi => excB_ok (allR c6 i hi), fun i hi => of_decide_eq_true (allR c7 i hi), fun i j hi hj => of_decide_eq_true (allR (allR c8 i hi) j hj),
    fun i j hi hj => of_decide_eq_true (allR (allR c9 i hi) j hj), fun i j hi hj => of_decide_eq_true (allR (allR c10 i hi) j hj), He.eqO_ok c11, c12⟩
  have z := all6 c3 i h6 h12
  obtain ⟨z1, z⟩ := ab z
  obtain ⟨z2, z⟩ := ab z
  obtain ⟨z3, z⟩ := ab z
  obtain ⟨z4, z5⟩ := ab z
  exact ⟨how13 h6 h12 z1 z2, He.eqO_ok z3, (excB_ok (allR c6 i h12)).hd, He.eqO_ok z4, z5, allR c1 i h12⟩
theorem all_facts {P : Program} {w : World} {K : Frag} {h : Heap} {mg : Str → Option Value} {f : Addr} (X : K.In h) (G : h.Ns mainGlobals mg) (hfa : mg ("law" : Str) = some (.ref f)) (c : He.SaysX fa fn [] [] chk w h K) :
    ∃ fd : FuncData, (∀ (s : Shared) (v : Value), BindsTo s fd ⟨[v], []⟩ [("script", v)]) ∧ ∀ base : Heap, K.In base → base.Ns mainGlobals mg → FnG P w K mg base CX0 6 f fd ["script"] (spLaw K) := by
  have cd := c.t.d
  obtain ⟨fdJug, FJug⟩ := cd.def_ 0 (d := dG "_law_jug" sJug) rfl
  have bJug : Binds K fdJug ["script", "at"] [] := FunD.bindsN FJug fun _ _ _ _ _ _ us hl => match us, hl with | [_, _], _ => rfl
  obtain ⟨fdBit, FBit⟩ := cd.def_ 1 (d := dG "_law_bit" sBit) rfl
  have bBit : Binds K fdBit ["jug", "much"] [] := FunD.bindsN FBit fun _ _ _ _ _ _ us hl => match us, hl with | [_, _], _ => rfl
  obtain ⟨fdPick, FPick⟩ := cd.def_ 2 (d := dG "_law_pick" sPick) rfl
  have bPick : Binds K fdPick ["jug", "items"] [] := FunD.bindsN FPick fun _ _ _ _ _ _ us hl => match us, hl with | [_, _], _ => rfl
  obtain ⟨fdDealt, FDealt⟩ := cd.def_ 3 (d := dG "_law_dealt" sDealt) rfl
  have bDealt : Binds K fdDealt ["jug", "items"] [] := FunD.bindsN FDealt fun _ _ _ _ _ _ us hl => match us, hl with | [_, _], _ => rfl
  obtain ⟨fdFirst, FFirst⟩ := cd.def_ 4 (d := dG "_law_first_ones" sFirst) rfl
  have bFirst : Binds K fdFirst ["lot", "value"] [] := FunD.bindsN FFirst fun _ _ _ _ _ _ us hl => match us, hl with | [_, _], _ => rfl
  obtain ⟨fdMade, FMade⟩ := cd.def_ 5 (d := dG "_law_made_one" sMade) rfl
  have bMade : Binds K fdMade ["lot", "value"] [] := FunD.bindsN FMade fun _ _ _ _ _ _ us hl => match us, hl with | [_, _], _ => rfl
  obtain ⟨fdThrown, FThrown⟩ := cd.def_ 6 (d := dG "_law_thrown" sThrown) rfl
  have bThrown : Binds K fdThrown ["lot", "value"] [] := FunD.bindsN FThrown fun _ _ _ _ _ _ us hl => match us, hl with | [_, _], _ => rfl
  obtain ⟨fdSorts, FSorts⟩ := cd.def_ 7 (d := dG "_law_sorts" sSorts) rfl
  have bSorts : Binds K fdSorts ["error"] [] := FunD.bindsN FSorts fun _ _ _ _ _ _ us hl => match us, hl with | [_], _ => rfl
  obtain ⟨fdBases, FBases⟩ := cd.def_ 8 (d := dG "_law_bases" sBases) rfl
  have bBases : Binds K fdBases ["error"] [] := FunD.bindsN FBases fun _ _ _ _ _ _ us hl => match us, hl with | [_], _ => rfl
  obtain ⟨fdDue, FDue⟩ := cd.def_ 9 (d := dG "_law_due" sDue) rfl
  have bDue : Binds K fdDue ["lot"] [] := FunD.bindsN FDue fun _ _ _ _ _ _ us hl => match us, hl with | [_], _ => rfl
  obtain ⟨fdKept, FKept⟩ := cd.def_ 10 (d := dG "_law_is_kept" sKept) rfl
  have bKept : Binds K fdKept ["lot", "error", "value"] [] := FunD.bindsN FKept fun _ _ _ _ _ _ us hl => match us, hl with | [_, _, _], _ => rfl
  obtain ⟨fdCaught, FCaught⟩ := cd.def_ 11 (d := dG "_law_caught" sCaught) rfl
  have bCaught : Binds K fdCaught ["lot", "value"] [] := FunD.bindsN FCaught fun _ _ _ _ _ _ us hl => match us, hl with | [_, _], _ => rfl
  obtain ⟨fdByBase, FByBase⟩ := cd.def_ 12 (d := dG "_law_is_caught_by_base" sByBase) rfl
  have bByBase : Binds K fdByBase ["lot", "value"] [] := FunD.bindsN FByBase fun _ _ _ _ _ _ us hl => match us, hl with | [_, _], _ => rfl
  obtain ⟨fdWorth, FWorth⟩ := cd.def_ 13 (d := dG "_law_worth" sWorth) rfl
  have bWorth : Binds K fdWorth ["jug", "lot"] [] := FunD.bindsN FWorth fun _ _ _ _ _ _ us hl => match us, hl with | [_, _], _ => rfl
  obtain ⟨fdLaw, FLaw⟩ := cd.def_ 14 (d := dG "law" sLaw) rfl
  have bLaw : Binds K fdLaw ["script"] [] := FunD.bindsN FLaw fun _ _ _ _ _ _ us hl => match us, hl with | [_], _ => rfl
  obtain ⟨fdI6, FI6⟩ := cd.def_ 15 (d := dM "ParseError" "__init__" "ParseError.__init__" (sInit 8)) rfl
  have bI6 : Binds K fdI6 ["self", "index"] [] := FunD.bindsN FI6 fun _ _ _ _ _ _ us hl => match us, hl with | [_, _], _ => rfl
  obtain ⟨fdI7, FI7⟩ := cd.def_ 16 (d := dM "InvalidNumber" "__init__" "InvalidNumber.__init__" (sInit 9)) rfl
  have bI7 : Binds K fdI7 ["self", "value"] [] := FunD.bindsN FI7 fun _ _ _ _ _ _ us hl => match us, hl with | [_, _], _ => rfl
  obtain ⟨fdI8, FI8⟩ := cd.def_ 17 (d := dM "TooMany" "__init__" "TooMany.__init__" (sInit 10)) rfl
  have bI8 : Binds K fdI8 ["self", "limit"] [] := FunD.bindsN FI8 fun _ _ _ _ _ _ us hl => match us, hl with | [_, _], _ => rfl
  obtain ⟨fdI9, FI9⟩ := cd.def_ 18 (d := dM "NothingToUndo" "__init__" "NothingToUndo.__init__" (sInit 11)) rfl
  have bI9 : Binds K fdI9 ["self", "many"] [] := FunD.bindsN FI9 fun _ _ _ _ _ _ us hl => match us, hl with | [_, _], _ => rfl
  obtain ⟨fdI10, FI10⟩ := cd.def_ 19 (d := dM "Clash" "__init__" "Clash.__init__" (sInit 12)) rfl
  have bI10 : Binds K fdI10 ["self", "one", "other"] [] := FunD.bindsN FI10 fun _ _ _ _ _ _ us hl => match us, hl with | [_, _, _], _ => rfl
  obtain ⟨fdI11, FI11⟩ := cd.def_ 20 (d := dM "NotFull" "__init__" "NotFull.__init__" (sInit 13)) rfl
  have bI11 : Binds K fdI11 ["self", "text"] [] := FunD.bindsN FI11 fun _ _ _ _ _ _ us hl => match us, hl with | [_, _], _ => rfl
  obtain ⟨fdStr, FStr⟩ := cd.def_ 21 (d := dM "InvalidNumber" "__str__" "InvalidNumber.__str__" sStr) rfl
  have bStr : Binds K fdStr ["self"] [] := FunD.bindsN FStr fun _ _ _ _ _ _ us hl => match us, hl with | [_], _ => rfl
  have g : ∀ i, i < 13 → mg (nm i) = some (.ref (clA K i)) := fun i hi => He.glo_ok X G (cd.facts (List.mem_append_left _ (List.mem_append_left _ (List.mem_append_left _ (List.mem_map_of_mem (List.mem_range.mpr hi))))))
  have gJug := He.glo_ok X G (cd.fact 13 (f := .glo "_law_jug") rfl)
  have gBit := He.glo_ok X G (cd.fact 14 (f := .glo "_law_bit") rfl)
  have gPick := He.glo_ok X G (cd.fact 15 (f := .glo "_law_pick") rfl)
  have gDealt := He.glo_ok X G (cd.fact 16 (f := .glo "_law_dealt") rfl)
  have gFirst := He.glo_ok X G (cd.fact 17 (f := .glo "_law_first_ones") rfl)
  have gMade := He.glo_ok X G (cd.fact 18 (f := .glo "_law_made_one") rfl)
  have gThrown := He.glo_ok X G (cd.fact 19 (f := .glo "_law_thrown") rfl)
  have gSorts := He.glo_ok X G (cd.fact 20 (f := .glo "_law_sorts") rfl)
  have gBases := He.glo_ok X G (cd.fact 21 (f := .glo "_law_bases") rfl)
  have gDue := He.glo_ok X G (cd.fact 22 (f := .glo "_law_due") rfl)
  have gKept := He.glo_ok X G (cd.fact 23 (f := .glo "_law_is_kept") rfl)
  have gCaught := He.glo_ok X G (cd.fact 24 (f := .glo "_law_caught") rfl)
  have gByBase := He.glo_ok X G (cd.fact 25 (f := .glo "_law_is_caught_by_base") rfl)
  have gWorth := He.glo_ok X G (cd.fact 26 (f := .glo "_law_worth") rfl)
  have gLaw := He.glo_ok X G (cd.fact 27 (f := .glo "law") rfl)
  have m_int := He.free_ok X G (cd.fact 28 (f := .free "int") rfl)
  have m_len := He.free_ok X G (cd.fact 29 (f := .free "len") rfl)
  have m_abs := He.free_ok X G (cd.fact 30 (f := .free "abs") rfl)
  have m_max := He.free_ok X G (cd.fact 31 (f := .free "max") rfl)
  have m_min := He.free_ok X G (cd.fact 32 (f := .free "min") rfl)
  have m_range := He.free_ok X G (cd.fact 33 (f := .free "range") rfl)
  have m_list := He.free_ok X G (cd.fact 34 (f := .free "list") rfl)
  have m_isinstance := He.free_ok X G (cd.fact 35 (f := .free "isinstance") rfl)
  have m_repr := He.free_ok X G (cd.fact 36 (f := .free "repr") rfl)
  have m_str := He.free_ok X G (cd.fact 37 (f := .free "str") rfl)
  have mB : ∀ i, i < 7 → mg (Str.ofString (bn i)) = none := fun i hi => He.free_ok X G (cd.facts (List.mem_append_right _ (List.mem_map_of_mem (f := fun i => He.Fa.free (Str.ofString (bn i))) (List.mem_range.mpr hi))))
  have T := cls13 c.more g
  have ef := hfa.symm.trans gLaw
  cases ef
  refine ⟨fdLaw, fun s v => FunD.bindsA (ps := ["script"]) FLaw (fun _ _ _ _ _ _ us hl => match us, hl with | [_], _ => rfl) s [v] rfl, fun base _ _ => ?_⟩
  have I : Inits P w K mg base (clA K) (inA K) fdI6 fdI7 fdI8 fdI9 fdI10 fdI11 := ⟨ok_i6 FI6, ok_i7 FI7, ok_i8 FI8, ok_i9 FI9, ok_i10 FI10, ok_i11 FI11, bI6, bI7, bI8, bI9, bI10, bI11⟩
  have kBit := ok_bit (P := P) (w := w) (base := base) FBit m_int
  have kJug := ok_jug (P := P) (w := w) (base := base) FJug m_int m_len m_abs m_max
  have kPick := ok_pick FPick kBit gBit FBit.kp bBit m_len
  have kDealt := ok_dealt FDealt kBit gBit FBit.kp bBit m_len m_range m_list
  have kFirst := ok_first (P := P) (w := w) (base := base) FFirst T
  have kMade := ok_made FMade T I kFirst gFirst FFirst.kp bFirst
  have kThrown := ok_thrown FThrown T I
  have kSorts := ok_sorts (P := P) (w := w) (base := base) FSorts T m_isinstance
  have kBases := ok_bases (P := P) (w := w) (base := base) FBases T m_isinstance mB
  have kDue := ok_due (P := P) (w := w) (mg := mg) (base := base) FDue m_range
  have kStr := ok_str (P := P) (w := w) (base := base) (C := clA K 7) FStr m_repr
  have kKept := ok_kept FKept T m_repr m_str kStr bStr
  have kCaught := ok_caught FCaught T m_isinstance kThrown gThrown FThrown.kp bThrown
  have kByBase := ok_bybase FByBase T kThrown gThrown FThrown.kp bThrown
  have kWorth := ok_worth FWorth kBit gBit FBit.kp bBit kPick gPick FPick.kp bPick
  exact ok_law FLaw T ⟨⟨_, _, gJug, FJug.kp, bJug, kJug⟩, ⟨_, _, gDealt, FDealt.kp, bDealt, kDealt⟩, ⟨_, _, gWorth, FWorth.kp, bWorth, kWorth⟩, ⟨_, _, gMade, FMade.kp, bMade, kMade⟩, ⟨_, _, gCaught, FCaught.kp, bCaught, kCaught⟩, ⟨_, _, gByBase, FByBase.kp, bByBase, kByBase⟩,
    ⟨_, _, gSorts, FSorts.kp, bSorts, kSorts⟩, ⟨_, _, gBases, FBases.kp, bBases, kBases⟩, ⟨_, _, gDue, FDue.kp, bDue, kDue⟩, ⟨_, _, gKept, FKept.kp, bKept, kKept⟩⟩ m_range m_list m_max m_min m_len m_repr
end K1
open PySem PySem.W PySem.Calls PyProof.Rows
set_option maxRecDepth 100000 in
set_option maxHeartbeats 0 in
theorem PySem.Challenge.cw_twowaycuts_k01_whole_errors_holds : PySem.Challenge.rw_twowaycuts_k01_whole_errors.Holds := by
  w_on; o_law
  refine HandSHeadRun.head_any (r := OpenLaw.row PySem.Challenge.rw_twowaycuts_k01_whole_errors) (q := view (OpenLaw.row PySem.Challenge.rw_twowaycuts_k01_whole_errors).prog [29]) (H := K1.hk) (ob := K1.ob) (M := 4000) (loose := K1.loose) (d := HandSHeadRun.topDef (OpenLaw.row PySem.Challenge.rw_twowaycuts_k01_whole_errors).prog 29) (kwd := []) K1.ob_eq
    (by kernel_rfl) (fun s => by kernel_rfl) K1.run (by kernel_rfl) (by kernel_rfl) (by kernel_rfl) (by rfl) (by first | assumption | decide +kernel) (by decide +kernel) ⟨rfl, rfl, rfl, rfl, rfl, by decide +kernel⟩ ?hw ?hc
  case hw => w_witness2
  case hc =>
    refine XE.walk_guarded (l := PySem.Challenge.rw_twowaycuts_k01_whole_errors) (n := 63) (k := 6) (x := "script") (CX := L2.CX0) rfl (by decide) (by kernel_rfl) ⟨rfl, by decide, by decide⟩ ?F (fun _ _ _ _ z => z)
    intro w mg fa h Y G hmg0
    obtain ⟨K, KX, c⟩ := Y
    have hmg : mg ("law" : PySem.Str) = some (.ref fa) := by
      have e : (HandSHeadRun.topDef (OpenLaw.row PySem.Challenge.rw_twowaycuts_k01_whole_errors).prog 29).name = ("law" : PySem.Str) := by kernel_rfl
      rw [← e]
      exact hmg0
    obtain ⟨fd, hb, hF⟩ := K1.all_facts (P := (PySem.Challenge.rw_twowaycuts_k01_whole_errors).prog) (w := w) KX G hmg c
    exact ⟨K, fd, K1.spLaw K, KX, hb, fun H a ns hl hO hS => ⟨a, ns, rfl, hS, hl, hO, fun _ => rfl⟩, hF⟩
