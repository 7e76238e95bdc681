import PyProof.Rows.All
import Wide.All
import OpenK.AllK
import Wide.FinOn
import HandS.ForMost
import HandS.Style
import PySem.Challenge.RW_eachheight_k01_error_classes
import KE.KExcInit
import KE.KExcIs
import HandS.ForExc
import HandS.ExcInit
import HandS.TryMany
import HandS.ExcValue
import PyProof.ReprRoads
import PyProof.StrLawsRepr
import HandS.ExcCtx
import HandS.HotCalls
import HandS.Iter
import HandS.Comp
import HandS.ExcField
import HandS.ExcInitHot
set_option Elab.async false
set_option linter.all false
set_option maxRecDepth 100000
set_option maxHeartbeats 4000000
namespace Ehk
open PySem PySem.Spec PyProof.Rows L2
def topS (i : Nat) : Stmt := PySem.Challenge.pw_eachheight_k01_error_classes.main.body.getD i (.Pass ⟨0, 0, 0, 0⟩)
abbrev sDeck : Stmt := topS 22
abbrev sDraw : Stmt := topS 23
abbrev sPick : Stmt := topS 24
theorem scDeck : FnScope ["_law_script", "_law_cells", "_law_stir", "_law_cell"] ["_law_script"] (defScope sDeck) := ⟨rfl, rfl, rfl, by decide +kernel, rfl, by decide +kernel, by decide +kernel⟩
theorem scDraw : FnScope ["_law_deck_here", "_law_many", "_law_cell", "_law_number"] ["_law_deck_here", "_law_many"] (defScope sDraw) := ⟨rfl, rfl, rfl, by decide +kernel, rfl, by decide +kernel, by decide +kernel⟩
theorem scPick : FnScope ["_law_deck_here", "_law_some"] ["_law_deck_here", "_law_some"] (defScope sPick) := ⟨rfl, rfl, rfl, by decide +kernel, rfl, by decide +kernel, by decide +kernel⟩

/-- the deck at p: its cells at c; at most m draws so far -/
def Deck (H : Hp) (p c : Addr) (m : Nat) : Prop := ∃ (ns : List Int) (st d : Int), H p = some (.lst [.ref c, .int st, .int d]) ∧ H c = some (.lst (ns.map V.int)) ∧ p ≠ c ∧ ns.length ≤ 63 ∧ 0 ≤ d ∧ d ≤ (m : Int)
/-- all but p and c is kept -/
def Kp (p c : Addr) (H H' : Hp) : Prop := ∀ b o, b ≠ p → b ≠ c → H b = some o → H' b = some o
theorem Kp.refl (p c : Addr) (H : Hp) : Kp p c H H := fun _ _ _ _ h => h
theorem Kp.trans {p c : Addr} {H H1 H2 : Hp} (a : Kp p c H H1) (b : Kp p c H1 H2) : Kp p c H H2 := fun x o h1 h2 h => b x o h1 h2 (a x o h1 h2 h)
theorem Kp.of_same {p c : Addr} {H H' : Hp} (s : Same H H') : Kp p c H H' := fun b o _ _ h => s b o h
theorem Deck.of_same {H H' : Hp} {p c : Addr} {m : Nat} (d : Deck H p c m) (s : Same H H') : Deck H' p c m := by
  obtain ⟨ns, st, k, h1, h2, r⟩ := d
  exact ⟨ns, st, k, s _ _ h1, s _ _ h2, r⟩
theorem Deck.mono {H : Hp} {p c : Addr} {m n : Nat} (d : Deck H p c m) (h : m ≤ n) : Deck H p c n := by
  obtain ⟨ns, st, k, h1, h2, h3, h4, h5, h6⟩ := d
  exact ⟨ns, st, k, h1, h2, h3, h4, h5, by omega⟩
theorem Deck.nep {H : Hp} {p c q : Addr} {m : Nat} (d : Deck H p c m) (h : H q = none) : q ≠ p ∧ q ≠ c := by
  obtain ⟨ns, st, k, h1, h2, r⟩ := d
  exact ⟨(ne_of_none h1 h).symm, (ne_of_none h2 h).symm⟩
theorem same_upd {H : Hp} {p : Addr} {o : HO} (h : H p = none) : Same H (upd H p o) := fun b x e => by
  rw [upd_ne (ne_of_none e h)]
  exact e

def spDraw : Sp := fun vs H Q _ => ∃ (p c : Addr) (m : Nat) (many : Int), vs = [.ref p, .int many] ∧ Deck H p c m ∧ m < 1000000 ∧ 0 < many ∧ many < 1073741824 ∧
  ∀ (H' : Hp) (r : Int), Kp p c H H' → Deck H' p c (m + 1) → 0 ≤ r → r < many → Q (.int r) H'

section
variable {P : Program} {w : World} {K : PySem.W.Frag} {mg : Str → Option Value} {base : Heap}

theorem nil_shaped : SeqAt.shaped (.list []) = true := by decide +kernel
theorem dpa_ints {K : PySem.W.Frag} {H : Hp} : ∀ ns : List Int, DpAll K H (ns.map V.int) (ns.map PyData.int)
  | [] => .nil
  | n :: r => .cons (.int n) (dpa_ints r)
theorem lay_ints : ∀ ns : List Int, PyData.canLayAll0 (ns.map PyData.int) = true
  | [] => by simp [PyData.canLayAll0]
  | n :: r => by simp [PyData.canLayAll0, PyData.canLay0, lay_ints r]
theorem depth_ints : ∀ ns : List Int, PyData.depthAll (ns.map PyData.int) = 0
  | [] => by simp [PyData.depthAll]
  | n :: r => by simp [PyData.depthAll, PyData.depth, depth_ints r]
theorem shaped_ints (ns : List Int) : SeqAt.shaped (.list (ns.map PyData.int)) = true := by
  unfold SeqAt.shaped
  simp [PyData.canLay0, PyData.depth, lay_ints ns, depth_ints ns]
theorem eqv_ints_nil (ns : List Int) (z : Int) : PyData.eqv (.list ((ns ++ [z]).map PyData.int)) (.list []) = false := by
  cases ns <;> simp [PyData.eqv, PyData.eqvAll]
theorem emod_bd (a : Int) {b : Int} (h : 0 < b) : 0 ≤ a % b ∧ a % b < b := ⟨Int.emod_nonneg a (by omega), Int.emod_lt_of_pos a h⟩
theorem ok_draw {f : Addr} {fd : FuncData} {k : Nat} (F : Fun K "_law_draw" "_law_draw" sDraw f fd) : FnOk P w K mg base CX0 (k + 1) f fd ["_law_deck_here", "_law_many"] spDraw := by
  refine F.ok scDraw (fun vs H Q E h => ?_) (fun cdv A outer s H vs Q E hr h => ?_)
  · obtain ⟨p, c, m, many, rfl, _⟩ := h
    rfl
  · obtain ⟨p, c, m, many, rfl, ⟨ns, st, d, h1, h2, npc, hl, hd0, hdm⟩, hm, hn0, hn1, q⟩ := h
    have hu : (cxOf CX0 P w K mg base ["_law_deck_here", "_law_many", "_law_cell", "_law_number"] "_law_draw" (defScope sDraw) f cdv A outer s H E).nox.A.units + 64 < cLine := hr.units
    refine ⟨_, pss_cons (ps_asg (pe_op op_add (pe_ix ix_list (pv 0) pe_int (fun _ _ => rfl)) pe_int) (pg_sub (pv 0) pe_int set_list))
      (pss_cons (ps_set (i := 2) scDraw.nd rfl (.inl rfl) (pe_ix ix_list (pv 0) pe_int (fun _ _ => rfl)))
      (pss_cons (ps_if (pt_cmpR (op_neD hu) (pe_ix ix_list (pv 0) pe_int (fun _ _ => rfl)) (pe_lst pa_nil) (nomark _))
        (pss_cons (ps_set (i := 2) scDraw.nd rfl (.inl rfl) (pe_bm0 PySem.F.plainAttrs_list PySem.F.slot_list_pop PySem.F.type_list_pop mt_pop (pe_ix ix_list (pv 0) pe_int (fun _ _ => rfl))))
        (pss_cons (ps_if (pt_cmpR op_ge (pv 2) (pe_op op_pow pe_int pe_int) (nomark _))
          (pss_cons (ps_expr (pe_bm PySem.F.plainAttrs_list PySem.F.slot_list_append PySem.F.type_list_append mt_append (pe_ix ix_list (pv 0) pe_int (fun _ _ => rfl)) (pa_cons (pe_op op_fdiv (pv 2) (pv 1)) pa_nil)))
          (pss_one (ps_ret (pe_op op_mod (pv 2) (pv 1))))) pss_nil)
        (pss_one (ps_set (i := 2) scDraw.nd rfl (.inl rfl) (pe_op op_add (pv 2) (pe_ix ix_list (pv 0) pe_int (fun _ _ => rfl)))))))
        pss_nil)
      (pss_cons (ps_set (i := 3) scDraw.nd rfl (.inl rfl) (pe_op op_mod (pe_op op_mul (pe_op op_add (pe_op op_add (pe_op op_mod (pv 2) pe_int) (pe_op op_mul (pe_op op_mul pe_int (pe_ix ix_list (pv 0) pe_int (fun _ _ => rfl))) (pe_ix ix_list (pv 0) pe_int (fun _ _ => rfl)))) pe_int) pe_int) pe_int))
      (pss_cons (ps_set (i := 3) scDraw.nd rfl (.inl rfl) (pe_op op_mod (pe_op op_add (pe_op op_add (pe_op op_mul (pv 3) (pv 3)) (pe_op op_mul pe_int (pe_ix ix_list (pv 0) pe_int (fun _ _ => rfl)))) pe_int) pe_int))
      (pss_one (ps_ret (pe_op op_mod (pe_op op_fdiv (pe_op op_mod (pe_op op_mul (pv 3) pe_int) pe_int) pe_int) (pv 1)))))))), ?_⟩
    have at0 : ∀ (a b e : V), atI [a, b, e] 0 = some a := fun a b e => atI_nat (j := 0) rfl
    have at1 : ∀ (a b e : V), atI [a, b, e] 1 = some b := fun a b e => atI_nat (j := 1) rfl
    have at2 : ∀ (a b e : V), atI [a, b, e] 2 = some e := fun a b e => atI_nat (j := 2) rfl
    refine ⟨_, rfl, p, _, 2, .int d, rfl, rfl, SqL.of h1, at2 _ _ _, d, 1, rfl, rfl, _, rfl, p, _, 2, 2, rfl, rfl, h1, rfl, ?_⟩
    have k1 : Kp p c H (upd H p (.lst [.ref c, .int st, .int (d + 1)])) := fun b o n1 _ e => by rw [upd_ne n1]; exact e
    have a1 : (upd H p (.lst [.ref c, .int st, .int (d + 1)])) p = some (.lst [.ref c, .int st, .int (d + 1)]) := upd_same
    have a2 : (upd H p (.lst [.ref c, .int st, .int (d + 1)])) c = some (.lst (ns.map V.int)) := by rw [upd_ne npc.symm]; exact h2
    show tSeq _ _ _ _ (upd H p (.lst [.ref c, .int st, .int (d + 1)]))
    generalize upd H p (.lst [.ref c, .int st, .int (d + 1)]) = H1 at k1 a1 a2 ⊢
    have fin : ∀ (H' : Hp) (r : Int) (ns' : List Int), Kp p c H1 H' → H' p = some (.lst [.ref c, .int st, .int (d + 1)]) → H' c = some (.lst (ns'.map V.int)) → ns'.length ≤ 63 → 0 ≤ r → r < many → Q (.int r) H' :=
      fun H' r ns' k e1 e2 e3 r0 r1 => q H' r (k1.trans k) ⟨ns', st, d + 1, e1, e2, npc, e3, by omega, by omega⟩ r0 r1
    have m1 : CMul 92821 (d + 1) := .inl ⟨by decide, by decide⟩
    have m2 : CMul (92821 * (d + 1)) (d + 1) := .inr ⟨by omega, by omega⟩
    have m3 : ∀ x : Int, CMul x 39373 := fun x => .inr ⟨by decide, by decide⟩
    have m4 : ∀ x : Int, CMul (x % 2147483647) (x % 2147483647) := fun x => by
      have := emod_bd x (b := 2147483647) (by decide)
      exact .inl ⟨by omega, by omega⟩
    have m5 : CMul 40692 (d + 1) := .inl ⟨by decide, by decide⟩
    have m6 : ∀ x : Int, CMul x 69621 := fun x => .inr ⟨by decide, by decide⟩
    refine ⟨_, rfl, p, _, 1, .int st, rfl, rfl, SqL.of a1, at1 _ _ _, ?_⟩
    refine ⟨_, rfl, p, _, 0, .ref c, rfl, rfl, SqL.of a1, at0 _ _ _, Nat.zero_le _, fun l hl => ?_⟩
    have b1 : (upd H1 l (.lst [])) p = some (.lst [.ref c, .int st, .int (d + 1)]) := same_upd hl _ _ a1
    have b2 : (upd H1 l (.lst [])) c = some (.lst (ns.map V.int)) := same_upd hl _ _ a2
    have kl : Kp p c H1 (upd H1 l (.lst [])) := .of_same (same_upd hl)
    have b3 : (upd H1 l (.lst [])) l = some (.lst []) := upd_same
    generalize upd H1 l (.lst []) = H2 at b1 b2 b3 kl ⊢
    refine ⟨_, _, .lst (SqL.of b2) (dpa_ints ns), .lst (SqL.of b3) .nil, shaped_ints ns, nil_shaped, _, rfl, ?_⟩
    rcases List.eq_nil_or_concat ns with rfl | ⟨is, z, e⟩
    · refine iteF ?_
      refine ⟨_, rfl, _, _, rfl, rfl, (by show (0 : Int) < 2147483587; decide), _, rfl, p, _, 2, .int (d + 1), rfl, rfl, SqL.of b1, at2 _ _ _, _, _, rfl, rfl, m1, _, rfl, p, _, 2, .int (d + 1), rfl, rfl, SqL.of b1, at2 _ _ _, _, _, rfl, rfl, m2,
        _, _, rfl, rfl, _, _, rfl, rfl, _, _, rfl, rfl, m3 _, _, _, rfl, rfl, (by show (0 : Int) < 2147483647; decide), ?_⟩
      refine ⟨_, rfl, _, rfl, _, _, rfl, rfl, m4 _, _, rfl, p, _, 2, .int (d + 1), rfl, rfl, SqL.of b1, at2 _ _ _, _, _, rfl, rfl, m5, _, _, rfl, rfl, _, _, rfl, rfl, _, _, rfl, rfl, (by show (0 : Int) < 2147483563; decide), ?_⟩
      refine ⟨_, rfl, _, _, rfl, rfl, m6 _, _, _, rfl, rfl, (by show (0 : Int) < 2147483587; decide), _, _, rfl, rfl, ⟨by decide, by decide⟩, _, rfl, _, many, rfl, rfl, hn0, ?_⟩
      exact fin _ _ _ kl b1 b2 (Nat.zero_le _) (emod_bd _ hn0).1 (emod_bd _ hn0).2
    · rw [List.concat_eq_append] at e
      subst e
      rw [eqv_ints_nil]
      refine iteT ?_
      have b2' : H2 c = some (.lst (is.map V.int ++ [V.int z])) := by rw [b2, List.map_append]; rfl
      have lst1 : (is.map V.int ++ [V.int z])[(is.map V.int ++ [V.int z]).length - 1]? = some (V.int z) := by simp
      have his : is.length + 1 ≤ 63 := by simpa using hl
      refine ⟨_, rfl, p, _, 0, .ref c, rfl, rfl, SqL.of b1, at0 _ _ _, .inl ⟨rfl, _, SqL.of b2⟩, c, _, _, rfl, rfl, b2', lst1, ?_⟩
      have d1 : (upd H2 c (.lst (is.map V.int ++ [V.int z]).dropLast)) p = some (.lst [.ref c, .int st, .int (d + 1)]) := by rw [upd_ne npc]; exact b1
      have d2 : (upd H2 c (.lst (is.map V.int ++ [V.int z]).dropLast)) c = some (.lst (is.map V.int)) := by rw [upd_same, List.dropLast_concat]
      have d3 : Kp p c H1 (upd H2 c (.lst (is.map V.int ++ [V.int z]).dropLast)) := kl.trans fun b o _ n2 e => by rw [upd_ne n2]; exact e
      generalize upd H2 c (.lst (is.map V.int ++ [V.int z]).dropLast) = H3 at d1 d2 d3 ⊢
      refine ⟨_, rfl, 10, 18, rfl, rfl, ⟨by decide, by decide, by decide⟩, z, _, rfl, rfl, _, rfl, ite2 (fun _ => ?_) (fun _ => ?_)⟩
      · refine ⟨_, rfl, p, _, 0, .ref c, rfl, rfl, SqL.of d1, at0 _ _ _, .inl ⟨rfl, _, SqL.of d2⟩, _, rfl, _, rfl, z, many, rfl, rfl, ⟨hn0, hn1⟩, c, _, _, rfl, rfl, d2, small1000 (by simp; omega), ?_⟩
        have e2 : (upd H3 c (.lst (is.map V.int ++ [V.int (z / many)]))) c = some (.lst ((is ++ [z / many]).map V.int)) := by rw [upd_same, List.map_append]; rfl
        refine ⟨_, rfl, _, rfl, z, many, rfl, rfl, hn0, ?_⟩
        exact fin _ _ _ (d3.trans fun b o _ n2 e => by rw [upd_ne n2]; exact e) (by rw [upd_ne npc]; exact d1) e2 (by simp; omega) (emod_bd _ hn0).1 (emod_bd _ hn0).2
      · refine ⟨_, rfl, _, rfl, p, _, 1, .int st, rfl, rfl, SqL.of d1, at1 _ _ _, z, st, rfl, rfl, ?_⟩
        refine ⟨_, rfl, _, _, rfl, rfl, (by show (0 : Int) < 2147483587; decide), _, rfl, p, _, 2, .int (d + 1), rfl, rfl, SqL.of d1, at2 _ _ _, _, _, rfl, rfl, m1, _, rfl, p, _, 2, .int (d + 1), rfl, rfl, SqL.of d1, at2 _ _ _, _, _, rfl, rfl, m2,
          _, _, rfl, rfl, _, _, rfl, rfl, _, _, rfl, rfl, m3 _, _, _, rfl, rfl, (by show (0 : Int) < 2147483647; decide), ?_⟩
        refine ⟨_, rfl, _, rfl, _, _, rfl, rfl, m4 _, _, rfl, p, _, 2, .int (d + 1), rfl, rfl, SqL.of d1, at2 _ _ _, _, _, rfl, rfl, m5, _, _, rfl, rfl, _, _, rfl, rfl, _, _, rfl, rfl, (by show (0 : Int) < 2147483563; decide), ?_⟩
        refine ⟨_, rfl, _, _, rfl, rfl, m6 _, _, _, rfl, rfl, (by show (0 : Int) < 2147483587; decide), _, _, rfl, rfl, ⟨by decide, by decide⟩, _, rfl, _, many, rfl, rfl, hn0, ?_⟩
        exact fin _ _ _ d3 d1 d2 (by omega) (emod_bd _ hn0).1 (emod_bd _ hn0).2

def spDeck (K : PySem.W.Frag) : Sp := fun vs H Q _ => ∃ (a : Addr) (ns : List Int), vs = [.ref a] ∧ SqL K H a (ns.map V.int) ∧ ns.length ≤ 63 ∧
  ∀ (H' : Hp) (p c : Addr), Same H H' → H p = none → H c = none → Deck H' p c 0 → Q (.ref p) H'
theorem cut63 {xs : List V} (h : xs.length ≤ 63) : cutV xs none (some 63) = xs := by
  unfold cutV
  rw [HT.sIx_none, show HT.sIx xs.length xs.length (some (63 : Int)) = min 63 xs.length from HT.sIx_nat xs.length xs.length 63]
  show List.take (min 63 xs.length - 0) (xs.drop 0) = xs
  rw [List.drop_zero]
  exact List.take_of_length_le (by omega)
theorem get_ints {ns : List Int} {i : Nat} {y : V} (h : (ns.map V.int)[i]? = some y) : ∃ z, ns[i]? = some z ∧ y = V.int z := by
  rw [List.getElem?_map] at h
  cases e : ns[i]? with
  | none => rw [e] at h; cases h
  | some z => rw [e] at h; exact ⟨z, rfl, (Option.some.inj h).symm⟩
theorem ok_deck {f : Addr} {fd : FuncData} {k : Nat} (F : Fun K "_law_deck" "_law_deck" sDeck f fd) (ml : mg "list" = none) : FnOk P w K mg base CX0 (k + 1) f fd ["_law_script"] (spDeck K) := by
  refine F.ok scDeck (fun vs H Q E h => ?_) (fun cdv A outer s H vs Q E hr h => ?_)
  · obtain ⟨a, ns, rfl, _⟩ := h
    rfl
  · obtain ⟨a, ns, rfl, hS, hl, q⟩ := h
    refine ⟨_, pss_cons (ps_par (i := 1) (j := 2) rfl scDeck.nd rfl rfl (by decide) rfl rfl (pa_cons (pe_callTy call_list_of (by rfl) ml (by decide +kernel) (pa_cons (pe_slice sl_list (pv 0) po_none (po_some pe_int)) pa_nil)) (pa_cons pe_int pa_nil)) rfl)
      (pss_cons (ps_for PassesOwn.never rfl (pi_list (pv 1)) (pg_name (i := 3) scDeck.nd rfl (.inl rfl))
        (pss_one (ps_set (i := 2) scDeck.nd rfl (.inl rfl) (pe_op op_mod (pe_op op_add (pe_op op_add (pe_op op_mul (pv 2) pe_int) (pe_op op_mod (pv 3) pe_int)) pe_int) pe_int))))
      (pss_one (ps_ret (pe_lst (pa_cons (pe_revL (pv 1)) (pa_cons (pv 2) (pa_cons pe_int pa_nil))))))), ?_⟩
    refine ⟨_, rfl, 63, rfl, a, ns.map V.int, rfl, hS, fun l0 hl0 => ?_⟩
    have s0 : Same H (upd H l0 (.lst (cutV (ns.map V.int) none (some 63)))) := same_upd hl0
    have e0 : (upd H l0 (.lst (cutV (ns.map V.int) none (some 63)))) l0 = some (.lst (ns.map V.int)) := by rw [upd_same, cut63 (by simpa using hl)]
    generalize upd H l0 (.lst (cutV (ns.map V.int) none (some 63))) = H1 at s0 e0 ⊢
    refine ⟨l0, _, rfl, .inl (SqL.of e0), fun l1 hl1 => ?_⟩
    have s1 : Same H (upd H1 l1 (.lst (ns.map V.int))) := s0.trans (same_upd hl1)
    have e1 : (upd H1 l1 (.lst (ns.map V.int))) l1 = some (.lst (ns.map V.int)) := upd_same
    generalize upd H1 l1 (.lst (ns.map V.int)) = H2 at s1 e1 ⊢
    refine ⟨_, _, rfl, ?_⟩
    refine ⟨_, rfl, l1, rfl, ⟨_, SqL.of e1⟩, for_list (K := K) (a := l1) (xs := ns.map V.int) (fun i σ H' => ∃ (st : Int) (v : Option V), σ = [some (.ref a), some (.ref l1), some (.int st), v] ∧ 0 ≤ st ∧ st < 2147483648 ∧ H' = H2)
      ⟨52361, none, rfl, by decide, by decide, rfl⟩ (fun i σ H' _ ⟨_, _, _, _, _, e⟩ => by rw [e]; exact SqL.of e1) ?_ ?_⟩
    · rintro i y σ H' hi ⟨st, v, rfl, g0, g1, rfl⟩
      obtain ⟨z, hz, rfl⟩ := get_ints hi
      have m1 : CMul st 48271 := .inr ⟨by decide, by decide⟩
      refine ⟨_, rfl, _, _, rfl, rfl, m1, _, rfl, _, _, rfl, rfl, (by show (0 : Int) < 2147483563; decide), _, _, rfl, rfl, _, _, rfl, rfl, _, _, rfl, rfl, (by show (0 : Int) < 2147483629; decide), ?_⟩
      have bd := emod_bd (st * 48271 + z % 2147483563 + 19) (b := 2147483629) (by decide)
      exact ⟨_, _, rfl, bd.1, by omega, rfl⟩
    · rintro σ H' ⟨st, v, rfl, g0, g1, rfl⟩
      refine ⟨_, rfl, l1, _, rfl, SqL.of e1, fun c hc => ?_⟩
      refine ⟨_, rfl, by show 3 ≤ sizeLine; decide, fun p hp => ?_⟩
      have ncp : p ≠ c := fun e => by rw [e, upd_same] at hp; cases hp
      refine q _ p c ((s1.trans (same_upd hc)).trans (same_upd hp)) ?_ (s1.free hc) ⟨ns.reverse, st, 0, upd_same, ?_, ncp, by simpa using hl, by decide, by decide⟩
      · exact ((s1.trans (same_upd hc)).free hp)
      · rw [upd_ne ncp.symm, upd_same, List.map_reverse]

theorem Kp.seqL {K : PySem.W.Frag} {p c a : Addr} {H H' : Hp} {xs : List V} (k : Kp p c H H') (h1 : a ≠ p) (h2 : a ≠ c) (h : SqL K H a xs) : SqL K H' a xs := by
  rcases h with (h | ⟨o, h⟩) | h
  · exact .inl (.inl (k _ _ h1 h2 h))
  · exact .inl (.inr ⟨o, k _ _ h1 h2 h⟩)
  · exact .inr h
theorem Kp.seqT {K : PySem.W.Frag} {p c a : Addr} {H H' : Hp} {xs : List V} (k : Kp p c H H') (h1 : a ≠ p) (h2 : a ≠ c) (h : SqT K H a xs) : SqT K H' a xs := by
  rcases h with (h | ⟨o, h⟩) | h
  · exact .inl (.inl (k _ _ h1 h2 h))
  · exact .inl (.inr ⟨o, k _ _ h1 h2 h⟩)
  · exact .inr h
/-- an item of the list or tuple -/
def spPick (K : PySem.W.Frag) : Sp := fun vs H Q _ => ∃ (p c a : Addr) (m : Nat) (xs : List V), vs = [.ref p, .ref a] ∧ Deck H p c m ∧ m < 1000000 ∧ (SqL K H a xs ∨ SqT K H a xs) ∧ a ≠ p ∧ a ≠ c ∧ 0 < xs.length ∧ xs.length < 1000000 ∧
  ∀ (H' : Hp) (i : Nat) (v : V), Kp p c H H' → Deck H' p c (m + 1) → xs[i]? = some v → Q v H'
theorem ok_pick {f fD : Addr} {fd fdD : FuncData} {k : Nat} (F : Fun K "_law_pick" "_law_pick" sPick f fd) (FD : Fun K "_law_draw" "_law_draw" sDraw fD fdD) (bD : Binds K fdD ["_law_deck_here", "_law_many"] []) (gD : mg "_law_draw" = some (.ref fD)) (ml : mg "len" = none) :
    FnOk P w K mg base CX0 (k + 2) f fd ["_law_deck_here", "_law_some"] (spPick K) := by
  have GD : FnOk P w K mg base CX0 (k + 1) fD fdD ["_law_deck_here", "_law_many"] spDraw := ok_draw FD
  refine F.ok scPick (fun vs H Q E h => ?_) (fun cdv A outer s H vs Q E hr h => ?_)
  · obtain ⟨p, c, a, m, xs, rfl, _⟩ := h
    rfl
  · obtain ⟨p, c, a, m, xs, rfl, hd, hm, hS, n1, n2, l0, l1, q⟩ := h
    refine ⟨_, pss_one (ps_ret (pe_ix ix_seq (pv 1) (pe_call GD hr (by rfl) gD FD.kp bD .nil pass0 (pa_cons (pv 0) (pa_cons (pe_callB call_len_seq (by rfl) ml PySem.boot_len (pa_cons (pv 1) pa_nil)) pa_nil))) (fun _ _ => rfl))), ?_⟩
    refine ⟨_, rfl, _, rfl, _, rfl, a, xs, rfl, hS, p, c, m, (xs.length : Int), rfl, hd, hm, by omega, by omega, fun H' r k d r0 r1 => ?_⟩
    obtain ⟨j, rfl⟩ : ∃ j : Nat, r = (j : Int) := ⟨r.toNat, by omega⟩
    have hj : j < xs.length := by omega
    have hx : xs[j]? = some xs[j] := List.getElem?_eq_getElem hj
    rcases hS with hS | hS
    · exact .inl ⟨a, xs, (j : Int), _, rfl, rfl, k.seqL n1 n2 hS, atI_nat hx, q H' j _ k d hx⟩
    · exact .inr (.inl ⟨a, xs, (j : Int), _, rfl, rfl, k.seqT n1 n2 hS, atI_nat hx, q H' j _ k d hx⟩)
end
end Ehk

set_option Elab.async false
set_option linter.all false
set_option maxRecDepth 100000
set_option maxHeartbeats 4000000
/-! Own exceptions of any base as values: made by place or by name, read, asked for their class, raised. -/
namespace PySem
namespace Ehx
open Builtin Builtin.ObjectAttr
section
variable {prog : Program} {w : World} {A : Around} {E : Value → Shared → Prop} {R : Result → Shared → Prop} {h : Heap} {g : Array GenState} {d : Drawn} {t : Nat} {os : OsState}
variable {nm q : Str} {C N : Addr} {bs bm bmB : List Value} {hdct : Bool} {sn : List Str} {sub : List Value} {ab : Bool} {col : Option Bool} {dd : Option Addr} {k0 k1 k2 k3 k5 : Option Value} {B newId initId : String}
/-- what the class's line of bases must say -/
structure LineOk (B : String) (bm : List Value) : Prop where
  base : bm.contains (.type B) = true
  attr : bm.contains (.type "AttributeError") = false
  name : bm.contains (.type "NameError") = false
abbrev rawExc (C t : Addr) : Obj := { cls := .ref C, data := .fields #[.ref t, .none, .none, .none, .bool false, .none] }
abbrev argTup (rest : List Value) : Obj := { cls := .type "tuple", data := .seq rest.toArray }

theorem new_passes (F : ExcBaseFacts B newId initId bmB) (L : LineOk B bm) {M : Model} {rest : List Value} {kw : List (Str × Value)} {Q : Unit → Shared → Prop}
    (hC : h.get? C = some (excClassObj nm q C N bs bm hdct sn sub ab col dd k0 k1 k2 k3 k5 newId)) (hq : Q () ⟨h, g, d, t, os⟩) : wpAny M A (checkBuiltinCall newId ⟨.ref C :: rest, kw⟩) Q E ⟨h, g, d, t, os⟩ := by
  have inB : (Value.ref C :: bm).contains (.type B) = true := by rw [List.contains_cons, L.base, Bool.or_true]
  have ns := F.noStar
  simp only [checkBuiltinCall, F.newKind, F.newSplit, F.newRow]
  repeat (first
    | refine wpAny_loadPart_at hC ?_
    | (refine wpAny_isSubtype_exc hC ?_; rw [inB])
    | refine wpAny_staticBase_exc hC ?_
    | refine wpAny_madeBy_exc hC ?_
    | simp only [bne_self_eq_false, Bool.false_eq_true, if_false]
    | wp_step)
  exact hq
theorem new_lays (F : ExcBaseFacts B newId initId bmB) (L : LineOk B bm) {rest : List Value} {kw : List (Str × Value)}
    (hC : h.get? C = some (excClassObj nm q C N bs bm hdct sn sub ab col dd k0 k1 k2 k3 k5 newId)) (hz : rest.length ≤ sizeLine)
    (hq : R (.ok (.ret (.ref (h.objs.size + 1)))) ⟨(h.push (argTup rest)).push (rawExc C h.objs.size), g, d, t, os⟩) :
    codeAny (model prog w) A (.builtin newId ⟨.ref C :: rest, kw⟩) R ⟨h, g, d, t, os⟩ := by
  have he := F.ends
  have i1 : (Value.ref C :: bm).contains (.type B) = true := by rw [List.contains_cons, L.base, Bool.or_true]
  have i2 : (Value.ref C :: bm).contains (.type "AttributeError") = false := by rw [List.contains_cons, L.attr]; rfl
  have i3 : (Value.ref C :: bm).contains (.type "NameError") = false := by rw [List.contains_cons, L.name]; rfl
  refine codeAny_builtinAt F.entry ?_
  unfold Builtin.«BaseException.__new__»
  refine wpAt_bind ?_
  show wpAt _ _ _ (stack >>= _) _ _ _
  refine wpAt_bind (wpAt_stack fun p below => wpAt_of_wpAny ?_)
  wp_walk
  refine wpAt_of_wpAny ?_
  rw [F.owner]
  repeat (first
    | with_reducible refine wpAny_madeHere_exc F.canon hC ?_
    | with_reducible refine wpAny_loadPart_at hC ?_
    | (with_reducible refine wpAny_isSubtype_exc hC ?_; first | rw [i1] | rw [i2] | rw [i3])
    | wp_step)
  show R _ _
  rw [Heap.size_push]
  exact hq
theorem made_by_type (F : ExcBaseFacts B newId initId bmB) (L : LineOk B bm) {rest : List Value} {kw : List (Str × Value)} {fI : Addr} {Q : Fin → Shared → Prop}
    (hC : h.get? C = some (excClassObj nm q C N bs bm hdct sn sub ab col dd k0 k1 k2 k3 k5 newId)) (hz : rest.length ≤ sizeLine)
    (hi : W.Looks (model prog w) h (typeLookup (.ref C) "__init__") (some (.ref fI))) (hb : ∀ self, W.Looks (model prog w) h (bindSpecial (.ref fI) self) (.ref fI, [self]))
    (hq : codeAny (model prog w) A (.call (.ref fI) ⟨.ref (h.objs.size + 1) :: rest, kw⟩)
      (fun r s' => match r with | .ok (.ret v) => v = .none ∧ Q (.done (.ret (.ref (h.objs.size + 1)))) s' | .ok _ => False | .error e => E e s')
      ⟨(h.push (argTup rest)).push (rawExc C h.objs.size), g, d, t, os⟩) :
    wpAny (model prog w) A (Builtin.«type.__call__» ⟨.ref C :: rest, kw⟩) Q E ⟨h, g, d, t, os⟩ := by
  repeat (first
    | with_reducible refine wpAny_loadPart_at hC ?_
    | with_reducible refine wpAny_madeBy_exc hC ?_
    | wp_step)
  refine codeAny_call_builtin_code (Code.quiet_builtin _ F.quiet) (new_passes F L hC ?_)
  refine new_lays F L hC hz ?_
  show wpAny _ _ _ _ _ _
  have kp : ∀ b o, h.get? b = some o → ((h.push (argTup rest)).push (rawExc C h.objs.size)).get? b = some o := fun b o e => Heap.get?_push_of_some _ (Heap.get?_push_of_some _ e)
  have hC2 := kp _ _ hC
  have here : ((h.push (argTup rest)).push (rawExc C h.objs.size)).get? (h.objs.size + 1) = some (rawExc C h.objs.size) := by heap_get
  have inC : (Value.ref C :: bm).contains (.ref C) = true := by simp
  have i1 := hi.keeps kp
  have b1 := (hb (.ref (h.objs.size + 1))).keeps kp
  unfold isInstance
  repeat (first
    | with_reducible refine wpAny_loadPart_at here ?_
    | (with_reducible refine wpAny_isSubtype_exc hC2 ?_; rw [inC])
    | wp_step)
  show wpAny _ _ (typeLookup (.ref C) _) _ _ _
  refine i1.at ?_
  refine wpAny_holding (wpAny_bind (b1.at ?_))
  refine wpAny_bind (wpAny_call (codeAny_mono hq fun r s' z => ?_))
  rcases r with e | (v | _ | _ | _) <;> first | exact z | exact z.elim | skip
  obtain ⟨rfl, z⟩ := z
  first
    | exact wpAny_pure (wpAny_pure z)
    | (wp_walk; exact z)
theorem tc_passes {M : Model} {rest : List Value} {kw : List (Str × Value)} {Q : Unit → Shared → Prop}
    (hC : h.get? C = some (excClassObj nm q C N bs bm hdct sn sub ab col dd k0 k1 k2 k3 k5 newId)) (hq : Q () ⟨h, g, d, t, os⟩) : wpAny M A (checkBuiltinCall "type.__call__" ⟨.ref C :: rest, kw⟩) Q E ⟨h, g, d, t, os⟩ := by
  have f3 := tc_sub
  have ty : (⟨h, g, d, t, os⟩ : Shared).TypeIs (.ref C) "type" := ⟨_, hC, rfl⟩
  simp only [checkBuiltinCall, tc_kind, tc_split]
  repeat (any_goals (first
    | assumption
    | with_reducible refine wpAny_loadPart_at hC ?_
    | with_reducible refine wpAny_onRaise ?_
    | with_reducible refine wpAny_map ?_
    | wp_step))
theorem call_ownK (F : ExcBaseFacts B newId initId bmB) (L : LineOk B bm) {rest : List Value} {kw : List (Str × Value)} {fI : Addr}
    (hC : h.get? C = some (excClassObj nm q C N bs bm hdct sn sub ab col dd k0 k1 k2 k3 k5 newId)) (hz : rest.length ≤ sizeLine)
    (hi : W.Looks (model prog w) h (typeLookup (.ref C) "__init__") (some (.ref fI))) (hb : ∀ self, W.Looks (model prog w) h (bindSpecial (.ref fI) self) (.ref fI, [self]))
    (hq : codeAny (model prog w) (A.under (.builtin "type.__call__" ⟨.ref C :: rest, kw⟩)) (.call (.ref fI) ⟨.ref (h.objs.size + 1) :: rest, kw⟩) (W.InitBack (h.objs.size + 1) R)
      ⟨(h.push (argTup rest)).push (rawExc C h.objs.size), g, d, t, os⟩) :
    codeAny (model prog w) A (.call (.ref C) ⟨rest, kw⟩) R ⟨h, g, d, t, os⟩ := by
  have f1 := tc_lookup
  have f2 := tc_bind (.ref C)
  have ty : (⟨h, g, d, t, os⟩ : Shared).TypeIs (.ref C) "type" := ⟨_, hC, rfl⟩
  refine codeAny_of_tree ?_
  show wpAny _ _ (callAny (.ref C) _) _ _ _
  repeat (any_goals (first | assumption | with_reducible refine wpAny_loadPart_at hC ?_ | wp_step))
  refine ⟨rfl, ?_⟩
  refine codeAny_call_builtin_at (Code.quiet_builtin _ (by decide +kernel)) entry_typeCall (tc_passes hC (made_by_type F L hC hz hi hb ?_))
  refine codeAny_mono hq fun r s' z => ?_
  rcases r with e | (v | _ | _ | _) <;> exact z
end
end Ehx
end PySem

set_option Elab.async false
set_option linter.all false
set_option maxRecDepth 100000
set_option maxHeartbeats 4000000
namespace PySem
namespace Ehx
open Builtin Builtin.ObjectAttr
theorem store_KeyError : StoreFacts "KeyError" [.type "KeyError", .type "LookupError", .type "Exception", .type "BaseException", .type "object"] "object.__setattr__" "object" where
  mro := by kernel_rfl
  slot := .of (owner := "object") (n := "__setattr__") (by rw [typeLookup_type, builtinLookup_eq_fast]; kernel_rfl) (by decide +kernel) (by decide +kernel) (by decide +kernel) (by first | exact .inl (by decide +kernel) | exact .inr (by decide +kernel)) (by rw [isSubtype_type]; kernel_rfl)
  entry := F.store_IndexError.entry
  kind := by decide +kernel
  split := by decide +kernel
  hasOwner := by decide +kernel
  args := F.store_IndexError.args
  passes := fun self => by kernel_rfl
section
variable {prog : Program} {w : World} {A : Around} {E : Value → Shared → Prop} {R : Result → Shared → Prop} {hp : Heap} {g : Array GenState} {d : Drawn} {t : Nat} {os : OsState}
/-- the first field of a raw exception: its dict is made -/
theorem osa_first {K : W.Frag} {B : String} {bmB : List Value} (SF : StoreFacts B bmB "object.__setattr__" "object") {name : Str} {tk : Tok} {v : Value} {x C t1 : Addr}
    (X : K.In hp) (hx : hp.get? x = some (rawExc C t1)) (ho : W.excOver K C bmB = true) (ht : W.takerIn K C name = some none) (hh : W.hasDictIn K C = true)
    (hq : ∀ h' tk' dx, (∀ b o, b ≠ x → hp.get? b = some o → h'.get? b = some o) → hp.objs.size ≤ dx → dx ≠ x → h'.get? x = some { cls := .ref C, dict := some dx, data := .fields #[.ref t1, .none, .none, .none, .bool false, .none] } →
      h'.Ns1 dx (fun y => if y = name then some v else none) → R (.ok (.ret .none)) ⟨h', g, d, tk', os⟩) :
    codeAny (model prog w) A (.call (.builtin "object.__setattr__") ⟨[.ref x, .str name tk, v], []⟩) R ⟨hp, g, d, t, os⟩ := by
  have I : W.InstAt hp x (rawExc C t1) C none := ⟨hx, rfl, rfl, trivial⟩
  obtain ⟨cd, hcd, hd⟩ := W.any_some hh
  have hcls : W.Looks (model prog w) hp (classData C) cd := W.looks_clsIn X hcd
  have xs : x ≠ hp.objs.size := Nat.ne_of_lt (Heap.lt_size hx)
  refine W.osa_openX (s := ⟨hp, g, d, t, os⟩) SF X I ho ht fun b => ?_
  show wpAny _ _ (storeInOwnDict (.ref x) (.ref C) (.str name tk) name v b) _ _ _
  obtain ⟨nm, bs, mro, ns, qn, hdd, sn, sb, ab, col, del⟩ := cd
  dsimp only at hd
  subst hd
  unfold storeInOwnDict ownDictForStores
  repeat (first | with_reducible refine HandSPX.store_in_new ?_ ?_ | with_reducible refine wpAny_loadPart_at hx ?_ | with_reducible refine hcls.at ?_ | wp_step)
  · exact ⟨_, #[], _, (Heap.get?_update_ne _ _ _ _ xs.symm).trans (Heap.get?_push_at rfl rfl), rfl, fun e he => absurd he (by simp), fun _ => rfl⟩
  · intro h' tk' hn' hs
    have hx1 : (hp.push { cls := .type "dict", data := .dict #[] }).get? x = some (rawExc C t1) := Heap.get?_push_of_some _ hx
    refine hq h' tk' hp.objs.size (fun b o hb ho => ?_) (Nat.le_refl _) xs.symm ?_ hn'
    · exact (hs.2 b (Nat.ne_of_lt (Heap.lt_size ho))).trans ((Heap.get?_update_ne _ _ _ _ hb).trans (Heap.get?_push_of_some _ ho))
    · exact (hs.2 x xs).trans (Heap.get?_update_self _ hx1 rfl)
end
end Ehx
end PySem

namespace L2
open PySem PySem.Spec PyProof.Rows PySem.Ehx
/-- what the written part says of an own exception class -/
structure Ec (K : PySem.W.Frag) (C : Addr) : Prop where
  cls : ∃ nm q N bs bm hdct sn sub ab col dd k0 k1 k2 k3 k5 B newId initId bmB, K.lookup C = some (excClassObj nm q C N bs bm hdct sn sub ab col dd k0 k1 k2 k3 k5 newId) ∧ ExcBaseFacts B newId initId bmB ∧ LineOk B bm
  st : ∃ B bmB, StoreFacts B bmB "object.__setattr__" "object" ∧ PySem.W.excOver K C bmB = true
  sa : PySem.W.findIn K (.ref C) "__setattr__" = some (some (.builtin "object.__setattr__"))
  ga : PySem.W.findIn K (.ref C) "__getattribute__" = some (some (.builtin "BaseException.__getattribute__"))
  gg : PySem.W.findIn K (.ref C) "__getattr__" = some none
  exC : PySem.W.subIn K (.ref C) (.type "BaseException") = some true
  tyC : PySem.W.typeIn K (.ref C) = some (.type "type")
  kC : PySem.W.keepIn K (.ref C) = true
  hdC : PySem.W.hasDictIn K C = true
  cl : PySem.W.findIn K (.ref C) "__class__" = some (some (.builtin "object.__class__"))
  ob : PySem.W.mroIn K C (.type "object") = some true
/-- .. and of the field f -/
structure Ef (K : PySem.W.Frag) (C : Addr) (f : Str) : Prop where
  tk : PySem.W.takerIn K C f = some none
  no : PySem.W.findIn K (.ref C) f = some none
section
variable {X : Cx} {pins : List (Addr × Obj)} {σ : St} {H : Hp} {s : Shared} {a C dx : Addr} {f : Str} {y : V} {u : Value} {fs : List (Str × V)} {Q : Unit → Shared → Prop} {E : Value → Shared → Prop} {A : Around}
/-- self.f = y on a raw exception -/
theorem est_new (T : Ec X.K C) (Tf : Ef X.K C f) (I : Inv X pins σ H s) (e : H a = some (exo a C none)) (ry : RelV y u)
    (h : ∀ dx s', H dx = none → dx ≠ a → Inv X pins σ (upd (upd H dx (exd dx [(f, y)])) a (exo a C (some dx))) s' → Q () s') : wpAny (model X.prog X.w) A (setAttr (.ref a) f u) Q E s := by
  obtain ⟨B, bmB, SF, hov⟩ := T.st
  obtain ⟨t1, ho⟩ := exo_at I.hok e
  obtain ⟨hp, g, d, t, os⟩ := s
  refine PySem.W.set_plain I.kIn (ox := rawExc C t1) (od := none) ⟨ho, rfl, rfl, trivial⟩ T.sa ?_
  refine osa_first SF I.kIn ho hov Tf.tk T.hdC (fun h' tk' dx k dn dne hx hn => ?_)
  have hnd : H dx = none := I.hok.fresh dn
  have nd : ∀ {b : Addr} {o : Obj}, hp.get? b = some o → b ≠ dx := fun {b o} q => Nat.ne_of_lt (Nat.lt_of_lt_of_le (Heap.lt_size q) dn)
  have na : ∀ {b : Addr}, H b = none → b ≠ a := fun {b} n z => by rw [z, e] at n; cases n
  have U : Un X.fs [] H (upd (upd H dx (exd dx [(f, y)])) a (exo a C (some dx))) hp h' := {
    keep := fun b o q n _ _ => k b o (na n) q
    slot := fun b o q n _ _ => ⟨o.slots, k b o (na n) q⟩
    free := fun b o q n _ => by rw [upd_ne (na n), upd_ne (nd q)]; exact n
    there := fun b o q _ => by
      by_cases hb : b = a
      · exact ⟨_, by rw [hb]; exact hx⟩
      · exact ⟨o, k b o hb q⟩
    tups := fun b xs q => by rw [upd_ne (at_ne e q exo_tup), upd_ne (ne_of_none q hnd)]; exact q
    frzs := fun b o v q => by rw [upd_ne (at_ne e q exo_frz), upd_ne (ne_of_none q hnd)]; exact q
    tbls := fun b ps q => ⟨#[], by rw [upd_ne (at_ne e q exo_tbl), upd_ne (ne_of_none q hnd), q]; simp⟩ }
  refine h dx _ hnd dne (I.un (t' := tk') U fun b o q => ?_)
  by_cases hb : b = a
  · subst hb
    rw [upd_same] at q
    cases q
    exact exo_ok hx
  · rw [upd_ne hb] at q
    by_cases hd : b = dx
    · subst hd
      rw [upd_same] at q
      cases q
      exact exd_ok hn (relO_put (fs := []) ry fun g => True.intro)
    · rw [upd_ne hd] at q
      refine (I.hok b o q).stay (fun c v hc z => k c v ?_ z) (fun c hc => by rw [upd_ne (at_ne e hc exo_own), upd_ne (ne_of_none hc hnd)]; exact hc) (fun c xs hc => by rw [upd_ne (at_ne e hc exo_tup), upd_ne (ne_of_none hc hnd)]; exact hc)
      rcases hc with hc | hc
      · rw [hc]; exact hb
      · exact at_ne e hc exo_own
end
/-- self.f = e, the first field -/
def tEst (K : PySem.W.Frag) (f : Str) (to te : TE) : TS := fun D σ H => te σ H fun y H1 => to σ H1 fun x H2 => ∃ a C : Addr, x = .ref a ∧ Ec K C ∧ Ef K C f ∧ H2 a = some (exo a C none) ∧
  ∀ dx, H2 dx = none → dx ≠ a → D.nx σ (upd (upd H2 dx (exd dx [(f, y)])) a (exo a C (some dx)))
section
variable {X : Cx} {o e : Expr} {to te : TE} {f : Str} {p' pos : Pos}
theorem ps_est (ho : PE X o to) (he : PE X e te) (hs : swapsWith e (some (.Attribute o f p')) pos.line X.env = pure false := by rfl) : PS X (.Assign [.Attribute o f p'] e pos) (tEst X.K f to te) := by
  refine ⟨fun pins s σ H D I h => ?_⟩
  refine plainObj_wpAny_Assign_Attribute (thn (he.run pins s σ H _ I h) fun v s1 ⟨y, H1, I1, r1, q1⟩ => thn (ho.run pins s1 σ H1 _ I1 q1) fun u s2 ⟨x, H2, I2, r2, a, C, ex, T, Tf, ea, q⟩ => ?_) hs
  subst ex
  obtain rfl : u = Value.ref a := r2
  exact est_new T Tf I2 ea r1 fun dx s' n ne J => ⟨σ, _, J, q dx n ne⟩
end
end L2

set_option Elab.async false
set_option linter.all false
set_option maxRecDepth 100000
set_option maxHeartbeats 4000000
namespace L2
open PySem PySem.Spec PyProof.Rows PySem.Ehx
section
variable {X : Cx} {CX : CXT} {k : Nat} {fI C : Addr} {fd : FuncData} {ps : List Str} {sp : Sp} {E : XK}
/-- C(..): a raw exception, then its own __init__ -/
theorem run_mkE {pins : List (Addr × Obj)} {σ : St} {H : Hp} {s : Shared} {Q : VK} {us ws : List Value} {kw : List (Str × Value)} {vs : List V} (T : Ec X.K C) (iC : PySem.W.findIn X.K (.ref C) "__init__" = some (some (.ref fI))) (tI : PySem.W.typeIn X.K (.ref fI) = some (.type "function"))
    (F1 : FnOk X.prog X.w X.K X.mg X.base CX k fI fd ps sp) (hr : Room (k + 1) X.A) (hx : Passes CX X E) (I : Inv X pins σ H s) (hz : us.length ≤ sizeLine) (rv : Vals vs ws)
    (hb : ∀ (s : Shared) (x : Addr), BindsTo s fd ⟨.ref x :: us, kw⟩ (ps.zip (.ref x :: ws)))
    (h : ∀ a, H a = none → sp (.ref a :: vs) (upd H a (exo a C none)) (fun v H2 => v = .non ∧ Q (.ref a) H2) E) :
    wpAny (model X.prog X.w) X.A (call (.ref C) us kw) (EP X pins σ Q) X.xe s := by
  obtain ⟨nm, q, N, bs, bm, hdct, sn, sub, ab, col, dd, k0, k1, k2, k3, k5, B, newId, initId, bmB, hC, FB, L⟩ := T.cls
  obtain ⟨hp, g, dr, tk, os⟩ := s
  have hs : hp.objs.size ≤ hp.objs.size + 1 := Nat.le_succ _
  have hn : H (hp.objs.size + 1) = none := I.hok.fresh hs
  have hq := h (hp.objs.size + 1) hn
  have kk : ∀ b o, hp.get? b = some o → ((hp.push (argTup us)).push (rawExc C hp.objs.size)).get? b = some o := fun b o e => Heap.get?_push_of_some _ (Heap.get?_push_of_some _ e)
  have here : ((hp.push (argTup us)).push (rawExc C hp.objs.size)).get? (hp.objs.size + 1) = some (rawExc C hp.objs.size) := by heap_get
  have I2 : Inv X pins σ (upd H (hp.objs.size + 1) (exo (hp.objs.size + 1) C none)) ⟨(hp.push (argTup us)).push (rawExc C hp.objs.size), g, dr, tk, os⟩ :=
    I.laid (t' := tk) (a := hp.objs.size + 1) (o := exo (hp.objs.size + 1) C none) (h' := (hp.push (argTup us)).push (rawExc C hp.objs.size)) kk hs (exo_ok here)
  have r2 : Vals (V.ref (hp.objs.size + 1) :: vs) (Value.ref (hp.objs.size + 1) :: ws) := .cons rfl rv
  refine wpAny_call (call_ownK FB L (I.kIn _ _ hC) hz (PySem.W.looks_findIn I.kIn iC) (fun self => PySem.W.bind_fn I.kIn self tI)
    (codeAny_mono (F1.run _ X.stack _ _ ⟨Value.ref (hp.objs.size + 1) :: us, kw⟩ (Value.ref (hp.objs.size + 1) :: ws) _ _ E (hr.make C us kw) (I2.env0.make C us kw) (hb _ _) r2 hq) fun r s' hq' => ?_))
  cases r with
  | error er => exact hx pins σ _ _ er s' I2 hq'
  | ok fl =>
    cases fl with
    | ret u =>
      obtain ⟨v, H', I3, ru, ev, q3⟩ := I2.after hq'
      subst ev
      exact ⟨ru, V.ref (hp.objs.size + 1), H', I3, rfl, q3⟩
    | next => exact False.elim hq'
    | brk => exact False.elim hq'
    | cont => exact False.elim hq'
def oneV (R : V → Hp → Prop) : List V → Hp → Prop := fun zs H => match zs with
  | [y] => R y H
  | _ => False
/-- the reading of C(e): the new exception a, handed to what __init__ promises -/
def tMkE (C : Addr) (sp : Sp) (E : XK) (te : TE) : TE := fun σ H Q => te σ H fun y H1 => ∀ a, H1 a = none → sp [.ref a, y] (upd H1 a (exo a C none)) (fun v H2 => v = .non ∧ Q (.ref a) H2) E
variable {e : Expr} {te : TE} {x f : Str} {p pos kp : Pos} {ft : Str}
/-- C(e) -/
theorem pe_mkE (T : Ec X.K C) (iC : PySem.W.findIn X.K (.ref C) "__init__" = some (some (.ref fI))) (tI : PySem.W.typeIn X.K (.ref fI) = some (.type "function"))
    (F1 : FnOk X.prog X.w X.K X.mg X.base CX k fI fd ["self", ft] sp) (hr : Room (k + 1) X.A) (hx : Passes CX X E) (hg : Gl X x) (hm : X.mg x = some (.ref C)) (he : PE X e te)
    (hb : ∀ (s : Shared) (a : Addr) (u : Value), BindsTo s fd ⟨[.ref a, u], []⟩ [("self", .ref a), (ft, u)])
    (hdb : (x == ("__debug__" : Str)) = false := by decide) (hs : starEach [e] X.env = (false, eval e X.env) :: starEach [] X.env := by rfl) :
    PE X (.Call (.Name x p) [e] [] pos) (tMkE C sp E te) := by
  refine ⟨fun pins s σ H Q I h => ?_⟩
  refine wpAny_Call_Name_kw (ld_glob I hg hm ?_ hdb)
  refine PySem.W.callWith_K (h₀ := X.base) I.ok.mod.kin T.kC ?_ hs (by rfl)
  rw [hs]
  show wpAny _ _ (spliced ((false, eval e X.env) :: backTo pos (starEach [] X.env))) _ _ s
  refine Calls.spliced_cons (thn (he.run pins s σ H _ I h) fun u s1 ⟨v, H1, I1, r1, q1⟩ => ?_)
  refine Calls.spliced_nil ⟨I1.kIn, ?_⟩
  show wpAny _ _ (call (.ref C) [u]) _ _ _
  exact run_mkE T iC tI F1 hr hx I1 (by show 1 ≤ sizeLine; decide) (.cons r1 .nil) (fun s x => hb s x u) q1
/-- C(f = e) -/
theorem pe_mkEK (T : Ec X.K C) (iC : PySem.W.findIn X.K (.ref C) "__init__" = some (some (.ref fI))) (tI : PySem.W.typeIn X.K (.ref fI) = some (.type "function"))
    (F1 : FnOk X.prog X.w X.K X.mg X.base CX k fI fd ["self", ft] sp) (hr : Room (k + 1) X.A) (hx : Passes CX X E) (hg : Gl X x) (hm : X.mg x = some (.ref C)) (he : PE X e te)
    (hb : ∀ (s : Shared) (a : Addr) (u : Value), BindsTo s fd ⟨[.ref a], [(ft, u)]⟩ [("self", .ref a), (ft, u)])
    (hdb : (x == ("__debug__" : Str)) = false := by decide)
    (hall : (backToKw pos (keywordEach [⟨some ft, e, kp⟩] X.env)).all (·.1.isSome) = true := by rfl) (hks : (backToKw pos (keywordEach [⟨some ft, e, kp⟩] X.env)).filterMap (·.1) = [ft] := by rfl)
    (hpl : ((backTo pos (starEach [] X.env)).any (·.1) || (backToKw pos (keywordEach [⟨some ft, e, kp⟩] X.env)).any (·.1.isNone)) = false := by rfl) :
    PE X (.Call (.Name x p) [] [⟨some ft, e, kp⟩] pos) (tMkE C sp E te) := by
  refine ⟨fun pins s σ H Q I h => ?_⟩
  refine wpAny_Call_Name_kw (ld_glob I hg hm ?_ hdb)
  refine PySem.W.callWith_KW0 (h₀ := X.base) I.ok.mod.kin T.kC hall ?_ hpl
  refine thn ((pk_cons he pk_nil).run pos pins s σ H (oneV fun y H1 => ∀ a, H1 a = none → sp [.ref a, y] (upd H1 a (exo a C none)) (fun v H2 => v = .non ∧ Q (.ref a) H2) E) I h) fun ws s1 ⟨zs, H1, I1, rz, q1⟩ => ⟨I1.kIn, ?_⟩
  rw [hks]
  match zs, q1 with
  | [y], q1 =>
    obtain ⟨u, rfl, ru⟩ := vals1 rz
    exact run_mkE T iC tI F1 hr hx I1 (Nat.zero_le _) (.cons ru .nil) (fun s x => hb s x u) q1
end
end L2

set_option Elab.async false
set_option linter.all false
set_option maxRecDepth 100000
set_option maxHeartbeats 4000000
namespace L2
open PySem PySem.Spec PyProof.Rows PySem.Ehx
section
variable {X : Cx} {C : Addr} {bmB : List Value} {B newId initId : String} {x : Str} {e : Expr} {te : TE} {p pos : Pos}
def tNewE (C : Addr) (H : Hp) (Q : VK) : Prop := ∀ a, H a = none → Q (.ref a) (upd H a (exo a C none))
theorem laid_exc {pins : List (Addr × Obj)} {σ : St} {H : Hp} {s : Shared} {Q : VK} {h' : Heap} {a : Addr} {us : List Value} (I : Inv X pins σ H s) (hm : Heap.MadeExcOf s.heap h' a (.ref C) us) (q : tNewE C H Q) : EP X pins σ Q (.ref a) { s with heap := h' } := by
  have hn : H a = none := I.hok.gone hm.new
  obtain ⟨t, ht, _, _⟩ := hm.there
  exact ⟨.ref a, upd H a (exo a C none), I.laidN hm.keeps hm.new hn (exo_ok ht), rfl, q a hn⟩
/-- C(), no own __init__ -/
theorem pe_exN (F : ExcBaseFacts B newId initId bmB) (q : PySem.W.excIn X.K C bmB newId = true) (gC : X.mg x = some (.ref C)) (kC : PySem.W.keepIn X.K (.ref C) = true) (hg : Gl X x) (hdb : (x == ("__debug__" : Str)) = false := by decide) :
    PE X (.Call (.Name x p) [] [] pos) (fun _ H Q => tNewE C H Q) := by
  refine ⟨fun pins s σ H Q I h => ?_⟩
  refine wpAny_Call_Name_kw (ld_glob I hg gC ?_ hdb)
  refine PySem.W.callWith_K0 I.kIn kC ?_
  show wpAny _ _ (call (.ref C) []) _ _ _
  obtain ⟨bm, N, nm, qn, bs, hdct, sn, sub, ab, col, dd, k0, k1, k2, k3, k5, mN, hC, hN, hni, T⟩ := exc_obj I.kIn q
  exact wpAny_call_exc_subT F T hC hN hni (fun h' a hm => laid_exc I hm h) (Nat.zero_le _)
/-- C(e), no own __init__ -/
theorem pe_exO (F : ExcBaseFacts B newId initId bmB) (q : PySem.W.excIn X.K C bmB newId = true) (gC : X.mg x = some (.ref C)) (kC : PySem.W.keepIn X.K (.ref C) = true) (hg : Gl X x) (he : PE X e te)
    (hs : starEach [e] X.env = (false, eval e X.env) :: starEach [] X.env := by rfl) (hdb : (x == ("__debug__" : Str)) = false := by decide) :
    PE X (.Call (.Name x p) [e] [] pos) (fun σ H Q => te σ H fun _ H1 => tNewE C H1 Q) := by
  refine ⟨fun pins s σ H Q I h => ?_⟩
  refine wpAny_Call_Name_kw (ld_glob I hg gC ?_ hdb)
  refine PySem.W.callWith_K (h₀ := X.base) I.ok.mod.kin kC ?_ hs (by rfl)
  rw [hs]
  show wpAny _ _ (spliced ((false, eval e X.env) :: backTo pos (starEach [] X.env))) _ _ s
  refine Calls.spliced_cons (thn (he.run pins s σ H _ I h) fun u s1 ⟨v, H1, I1, r1, q1⟩ => ?_)
  refine Calls.spliced_nil ⟨I1.kIn, ?_⟩
  show wpAny _ _ (call (.ref C) [u]) _ _ _
  obtain ⟨bm, N, nm, qn, bs, hdct, sn, sub, ab, col, dd, k0, k1, k2, k3, k5, mN, hC, hN, hni, T⟩ := exc_obj I1.kIn q
  exact wpAny_call_exc_subT F T hC hN hni (fun h' a hm => laid_exc I1 hm q1) (by show 1 ≤ sizeLine; decide)
end

/-! ### what is read off an exception in the abstract heap -/
/-- an exception of the class at C stands at a, with its dict, if there is one -/
def Exn (H : Hp) (a C : Addr) : Option Addr → Prop
  | none => H a = some (exo a C none)
  | some d => H a = some (exo a C (some d)) ∧ ∃ fs, H d = some (exd d fs)
theorem Exn.same {H H' : Hp} {a C : Addr} {d : Option Addr} (x : Exn H a C d) (k : Same H H') : Exn H' a C d := by
  cases d with
  | none => exact k _ _ x
  | some d =>
    obtain ⟨h1, fs, h2⟩ := x
    exact ⟨k _ _ h1, fs, k _ _ h2⟩
theorem Exn.inst {X : Cx} {pins : List (Addr × Obj)} {σ : St} {H : Hp} {s : Shared} {a C : Addr} {d : Option Addr} (I : Inv X pins σ H s) (x : Exn H a C d) : ∃ ox od, PySem.W.InstAt s.heap a ox C od := by
  cases d with
  | none =>
    obtain ⟨t1, h1⟩ := exo_at I.hok x
    exact ⟨_, none, h1, rfl, rfl, trivial⟩
  | some d =>
    obtain ⟨h1, fs, h2⟩ := x
    obtain ⟨t1, e1⟩ := exo_at I.hok h1
    obtain ⟨mA, hns, _⟩ := exd_at I.hok h2
    obtain ⟨od, ho, _⟩ := lookIn_ns hns
    exact ⟨_, some od, e1, rfl, rfl, ho⟩
/-- the module's facts about __class__ -/
structure Eg (K : PySem.W.Frag) : Prop where
  hn : PySem.W.specialIn K (.builtin "object.__class__") "__get__" = some (some (.builtin "getset_descriptor.__get__"))
  ht : PySem.W.takesIn K (.builtin "object.__class__") = some true
theorem cls_some {K : PySem.W.Frag} {C : Addr} (h : PySem.W.hasDictIn K C = true) : (PySem.W.clsIn K C).isSome = true := by
  obtain ⟨cd, hc, _⟩ := PySem.W.any_some h
  rw [hc]
  rfl
/-- isinstance(e, c), e a tracked exception -/
def rIsX (K : PySem.W.Frag) : List V → Hp → VK → Prop := fun xs H Q => ∃ (a C : Addr) (d : Option Addr) (c : V) (cv : Value) (b : Bool), xs = [.ref a, c] ∧ Exn H a C d ∧ Ec K C ∧ (∀ u, RelV c u → u = cv) ∧ PySem.W.kitOne K (.ref C) cv = some b ∧ Q (.bl b) H
theorem call_isX {X : Cx} (G : Eg X.K) : CallR X (.builtin "isinstance") (rIsX X.K) := by
  intro pins s σ H xs us Q I r h
  obtain ⟨a, C, d, c, cv, b, rfl, x, T, hcv, e, q⟩ := h
  obtain ⟨u1, u2, rfl, rx, rt⟩ := vals2 r
  cases rx
  obtain rfl := hcv _ rt
  obtain ⟨ox, od, J⟩ := x.inst I
  exact PySem.W.kia_one (PySem.W.kitx_exc (cls_some T.hdC) T.ga T.gg T.exC T.cl G.hn G.ht T.ob) I.kIn J e (fun z => nomatch z) fun tk => ⟨.bl b, H, I.kept (t' := tk) fun _ _ z => z, rfl, q⟩
/-- e.f -/
def tFldE (K : PySem.W.Frag) (f : Str) (te : TE) : TE := fun σ H Q => te σ H fun x H1 => ∃ (a C d : Addr) (fs : List (Str × V)) (v : V), x = .ref a ∧ H1 a = some (exo a C (some d)) ∧ H1 d = some (exd d fs) ∧ Ec K C ∧ Ef K C f ∧ fs.lookup f = some v ∧ Q v H1
theorem pe_fldE {X : Cx} {e : Expr} {te : TE} {f : Str} {pos : Pos} (he : PE X e te) (hb : attributeBase e f X.env (eval e X.env) = eval e X.env := by rfl) : PE X (.Attribute e f pos) (tFldE X.K f te) := by
  refine ⟨fun pins s σ H Q I h => ?_⟩
  refine attr_of hb (thn (he.run pins s σ H _ I h) fun u s1 hh => ?_)
  obtain ⟨x, H1, I1, rx, a, C, d, fs, v, ex, ha, hd, T, Tf, l, q⟩ := hh
  subst ex
  obtain rfl : u = Value.ref a := rx
  obtain ⟨t1, e1⟩ := exo_at I1.hok ha
  obtain ⟨mA, hns, hr⟩ := exd_at I1.hok hd
  obtain ⟨od, ho, hl⟩ := lookIn_ns hns
  obtain ⟨w, hw, rw'⟩ := RelO.some_of (v := v) (o := mA f) (by rw [← l]; exact hr f)
  exact HandSPX.exc_get I1.kIn ⟨e1, rfl, rfl, ho⟩ T.ga T.gg T.exC (PySem.W.findObj_own T.hdC Tf.no rfl (by rw [hl, hw])) (handed_of rw') ⟨v, H1, I1.tok _, rw', q⟩
/-- what __init__(self, f) of such a class promises -/
def spIni (K : PySem.W.Frag) (f : Str) : Sp := fun vs H Q _ => ∃ (a C : Addr) (y : V), vs = [.ref a, y] ∧ Ec K C ∧ Ef K C f ∧ H a = some (exo a C none) ∧ ∀ dx, H dx = none → dx ≠ a → Q .non (upd (upd H dx (exd dx [(f, y)])) a (exo a C (some dx)))
end L2

set_option Elab.async false
set_option linter.all false
set_option maxRecDepth 100000
set_option maxHeartbeats 4000000
/-! Defs that ask repr: no repr runs around them. The law's end for such. -/
namespace L2
open PySem PySem.Spec PyProof.Rows
/-- a def's promise where no repr is being made around the call -/
structure FnG (P : Program) (w : World) (K : PySem.W.Frag) (mg : Str → Option Value) (base : Heap) (CX : CXT) (k : Nat) (f : Addr) (fd : FuncData) (ps : List Str) (sp : Sp) : Prop where
  len : ∀ vs H Q E, sp vs H Q E → vs.length = ps.length
  run : ∀ (A : Around) (outer : List Env) (s : Shared) (H : Hp) (args : Args) (us : List Value) (vs : List V) (Q : VK) (E : XK), Room k A → A.guards = some [] → Env0 P w K mg base A outer s H → BindsTo s fd args (ps.zip us) → Vals vs us → sp vs H Q E →
    codeAny (model P w) A (.call (.ref f) args) (CR CX outer P w H s Q E) s
theorem guards_deeper {A : Around} {env : Env} (h : A.guards = some []) : (A.deeper env).guards = some [] := by
  first
    | exact h
    | simpa [Around.deeper] using h
section
variable {P : Program} {w : World} {K : PySem.W.Frag} {mg : Str → Option Value} {base : Heap}
theorem Fun.okG {CX : CXT} {x qual : Str} {st : Stmt} {f : Addr} {fd : FuncData} {N ps : List Str} {k : Nat} {sp : Sp} (F : Fun K x qual st f fd) (S : FnScope N ps (defScope st)) (len : ∀ vs H Q E, sp vs H Q E → vs.length = ps.length)
    (hbody : ∀ (cdv : Value) (A : Around) (outer : List Env) (s : Shared) (H : Hp) (vs : List V) (Q : VK) (E : XK), Room k (A.deeper (envOfC qual (defScope st) s.heap.objs.size f cdv)) → A.guards = some [] → sp vs H Q E →
      ∃ t, PSs (cxOf CX P w K mg base N qual (defScope st) f cdv A outer s H E).nox (defBody st) t ∧ t { nx := fun _ H' => Q .non H', rt := Q } (start N vs) H) : FnG P w K mg base CX (k + 1) f fd ps sp := by
  obtain ⟨oc, od, kV, doc, pm, an, cdv, ct, osl, rfl, lk, hcd⟩ := F.ex
  refine ⟨len, fun A outer s H args us vs Q E hr hgd e0 hb r hsp => ?_⟩
  have hlen := len _ _ _ _ hsp
  have KX : K.In s.heap := e0.mod.kin.keeps fun b o e => (e0.bs b o e).1
  have nl : s.heap.NoLimit := e0.mod.nolimit.keeps fun b o e => (e0.bs b o e).1
  refine codeAny_call_function hr.depth (KX _ _ lk) rfl S.co S.gen rfl (PySem.W.codeRec_of KX hcd) (hb _ _ _ _ ?_)
  refine wpAny_newFunctionEnv_cells S.kind (fun y hy => ?_) fun env he s1 x => ?_
  · obtain ⟨n, v⟩ := y
    rcases S.par n (List.of_mem_zip hy).1 with q | q
    · exact .inl q
    · exact .inr ⟨q, PySem.W.cellsFrom_some _ _ _ (.inl q)⟩
  subst he
  refine ⟨nl.keeps x.toInCall.keep, codeAny_func ?_⟩
  obtain ⟨t, ht, hq⟩ := hbody cdv A outer s H vs Q E (hr.deeper _) hgd hsp
  have I : Inv (cxOf CX P w K mg base N qual (defScope st) f cdv A outer s H E) [] (start N vs) H s1 := inv_start S hr.hd e0 hlen r x
  refine wpAny_mono (ht.nox.run [] s1 (start N vs) H _ I hq) (fun fl s' hs => ?_) fun e s' hs => hs
  cases fl with
  | ret u =>
    obtain ⟨v, σ', H', J, rv, q⟩ := hs
    exact ⟨v, H', J.os, J.bare, J.base, J.hok, rv, q⟩
  | next =>
    obtain ⟨σ', H', J, q⟩ := hs
    exact ⟨.non, H', J.os, J.bare, J.base, J.hok, rfl, q⟩
  | brk =>
    obtain ⟨_, _, _, q⟩ := hs
    exact False.elim q
  | cont =>
    obtain ⟨_, _, _, q⟩ := hs
    exact False.elim q
end
section
variable {X : Cx} {CX : CXT} {k : Nat} {f : Addr} {fd : FuncData} {ps : List Str} {sp : Sp} {E : XK} {x : Str} {p pos : Pos} {e : Expr} {es : List Expr} {t : TA} {ds : List Value} {dvs : List V}
/-- f(e, ..) of such a def, from a place where no repr is being made -/
theorem pe_callG (F : FnG X.prog X.w X.K X.mg X.base CX k f fd ps sp) (hr : Room k X.A) (hgd : X.A.guards = some []) (hg : Gl X x) (hm : X.mg x = some (.ref f)) (hk : PySem.W.keepIn X.K (.ref f) = true) (hb : Binds X.K fd ps []) (hx : Passes CX X E)
    (ha : PA X (e :: es) t) (hdb : (x == ("__debug__" : Str)) = false := by decide) (he : starEach (e :: es) X.env = (false, eval e X.env) :: starEach es X.env := by rfl) (hpl : (backTo pos (starEach es X.env)).any (·.1) = false := by rfl) :
    PE X (.Call (.Name x p) (e :: es) [] pos) (tCall sp [] E t) := by
  refine ⟨fun pins s σ H Q I h => ?_⟩
  refine wpAny_Call_Name_kw (ld_glob I hg hm ?_ hdb)
  refine PySem.W.callWith_K (h₀ := X.base) I.ok.mod.kin hk (thn (ha.run pos pins s σ H _ I h) fun us s1 ⟨vs, H1, I1, r, q⟩ => ⟨I1.kIn, ?_⟩) he hpl
  have q' : sp vs H1 Q E := by
    have z : sp (vs ++ []) H1 Q E := q
    rwa [List.append_nil] at z
  have hl : us.length = ps.length := by rw [← r.length]; exact F.len _ _ _ _ q'
  have b := hb s1 us I1.kIn (by rw [List.append_nil]; exact hl)
  rw [List.append_nil] at b
  refine wpAny_call (codeAny_mono (F.run X.A X.stack s1 H1 ⟨us, []⟩ us vs Q E hr hgd I1.env0 b r q') fun r s' hq => ?_)
  cases r with
  | error er => exact hx pins σ H1 s1 er s' I1 hq
  | ok fl =>
    cases fl with
    | ret u => exact I1.after hq
    | next => exact False.elim hq
    | brk => exact False.elim hq
    | cont => exact False.elim hq
end
/-! ### the end of a law whose def asks repr -/
theorem law_callG {P : Program} {w : World} {K : PySem.W.Frag} {mg mb : Str → Option Value} {CX : CXT} {k : Nat} {fa a : Addr} {fd : FuncData} {x : Str} {sp : Sp} {s₁ : Shared} {vs : List Value} {ns : List Int}
    (KX : K.In s₁.heap) (hns : s₁.heap.Ns mainGlobals mg) (hb : s₁.heap.Ns builtinsNs mb) (hbb : ∀ x : Str, x ≠ "__name__" → mb x = bootBuiltins x) (hlim : s₁.heap.NoLimit) (hg : s₁.gens = #[])
    (ha : s₁.heap.get? a = some { cls := .type "list", data := .seq vs.toArray }) (hi : IntsAre vs ns) (hl : ns.length ≤ sizeLine) (hr : Room k callerA)
    (F : ∀ base : Heap, K.In base → base.Ns mainGlobals mg → FnG P w K mg base CX k fa fd [x] sp) (hbind : ∀ (s : Shared) (u : Value), BindsTo s fd ⟨[u], []⟩ [(x, u)])
    (hsp : ∀ H : Hp, Only H → SqL K H a (ns.map V.int) → sp [.ref a] H (fun v _ => v = .bl true) fun _ _ _ => False)
    (hCX : ∀ H e s', CX [] H s₁ (fun _ _ _ => False) e s' → False) :
    codeAny (model P w) callerA (.call (.ref fa) ⟨[.ref a], []⟩) (fun r s' => r = .ok (.ret (.bool true)) ∧ OldK s₁.heap s'.heap ∧ s'.os = s₁.os ∧ AllBare s'.gens) s₁ := by
  have rv := vals_ints hi
  have go : ∀ H : Hp, Only H → SqL K H a (ns.map V.int) → HOk P w H s₁.heap → (∀ b u, H b = some u → b = a ∧ K.lookup a = none) →
      codeAny (model P w) callerA (.call (.ref fa) ⟨[.ref a], []⟩) (fun r s' => r = .ok (.ret (.bool true)) ∧ OldK s₁.heap s'.heap ∧ s'.os = s₁.os ∧ AllBare s'.gens) s₁ := by
    intro H hO hS hok hA
    have free : ∀ {b : Addr} {o : Obj}, s₁.heap.get? b = some o → (b = a → o ≠ { cls := .type "list", data := .seq vs.toArray }) → H b = none := fun {b o} e n => by
      cases q : H b with
      | none => rfl
      | some u =>
        obtain ⟨rfl, _⟩ := hA b u q
        rw [ha] at e
        exact absurd (Option.some.inj e).symm (n rfl)
    have ns' : ∀ {b : Addr} {m : Str → Option Value}, s₁.heap.Ns b m → (hidT s₁.heap H).Ns b m := fun {b m} ⟨o, es, ep, e, d, r⟩ =>
      ⟨o, es, ep, hidT_get e (free e fun _ z => by rw [z] at d; cases d), d, r⟩
    have hKb : K.In (hidT s₁.heap H) := fun b o e => hidT_get (KX b o e) (by
      cases q : H b with
      | none => rfl
      | some u =>
        obtain ⟨rfl, z⟩ := hA b u q
        rw [z] at e
        cases e)
    have hM : Mod K mg (hidT s₁.heap H) := ⟨hKb, ns' hns, ⟨mb, ns' hb, hbb⟩, let ⟨mc, h1, h2⟩ := hlim; ⟨mc, ns' h1, h2⟩⟩
    have e0 : Env0 P w K mg (hidT s₁.heap H) callerA [] s₁ H :=
      ⟨rfl, hM, fun b o e => of_hidT e, Nat.le_of_eq (hidT_size _ _), trivial, fun b z => absurd (show b ∈ ([] : List Addr) from z) (by simp), hok, .of_eq hg⟩
    refine codeAny_mono ((F _ hKb (ns' hns)).run callerA [] s₁ H ⟨[.ref a], []⟩ [.ref a] [.ref a] _ _ hr rfl e0 (hbind s₁ (.ref a)) (.cons rfl .nil) (hsp H hO hS)) fun r s' h => ?_
    cases r with
    | error e => exact (hCX H e s' h).elim
    | ok fl =>
      cases fl with
      | ret u =>
        obtain ⟨v, H', os, bare, un, hok', r', q⟩ := h
        have q' : v = .bl true := q
        subst q'
        obtain rfl : u = Value.bool true := r'
        refine ⟨rfl, OldK.of_keep fun b o e => ?_, os, bare⟩
        rcases hO b with z | ⟨ob, xs, z⟩
        · exact un.keep b o e z (fun y => absurd (show b ∈ ([] : List Addr) from y) (by simp)) (by simp)
        · obtain ⟨e1, _⟩ := hok b _ z
          obtain ⟨e2, _⟩ := hok' b _ (un.frzs b ob _ z)
          rw [e] at e1
          cases e1
          exact e2
      | next => exact False.elim h
      | brk => exact False.elim h
      | cont => exact False.elim h
  have ez : vs.length ≤ sizeLine := by rw [hi.length]; exact hl
  cases hk : K.lookup a with
  | some o =>
    have e := KX a o hk
    rw [ha] at e
    cases e
    exact go (fun _ => none) (fun _ => .inl rfl) (.inr ⟨_, vs.toArray, _, hk, rfl, rfl, rfl, by rw [List.size_toArray]; exact ez, by simpa using rv⟩)
      (fun b u z => by cases (show (none : Option HO) = some u from z)) (fun b u z => by cases (show (none : Option HO) = some u from z))
  | none =>
    have at_ : ∀ b u, (if b = a then some (HO.frz { cls := .type "list", data := .seq vs.toArray } (.lst (ns.map V.int))) else none) = some u → b = a ∧ HO.frz { cls := .type "list", data := .seq vs.toArray } (.lst (ns.map V.int)) = u := fun b u z => by
      by_cases hb : b = a
      · rw [if_pos hb] at z
        exact ⟨hb, Option.some.inj z⟩
      · rw [if_neg hb] at z
        cases z
    refine go (fun b => if b = a then some (.frz { cls := .type "list", data := .seq vs.toArray } (.lst (ns.map V.int))) else none) (fun b => ?_) (.inl (.inr ⟨{ cls := .type "list", data := .seq vs.toArray }, if_pos rfl⟩)) (fun b u z => ?_) fun b u z => ⟨(at_ b u z).1, hk⟩
    · by_cases hb : b = a
      · exact .inr ⟨_, _, if_pos hb⟩
      · exact .inl (if_neg hb)
    · obtain ⟨rfl, rfl⟩ := at_ b u z
      exact ⟨ha, by rw [List.length_map]; exact hl, vs, _, rv, ha⟩
theorem walk_ofG {l : PySem.W.OpenLaw} {n k : Nat} {q : Program} {loose : List Str} {XP : (Str → Option Value) → Heap → Prop} {YP : World → Heap → Prop} {d : DefRec} {K : Params → PySem.W.Frag} {CX : World → CXT} {sp : World → Sp} {x : Str}
    (hn : l.most = some n) (hn2 : n ≤ sizeLine) (hdf : d.params.defaults = []) (hr : Room k callerA)
    (hY : ∀ (w : World) (h : Heap), YP w h → (K w.params).In h)
    (F : ∀ (w : World) (mg : Str → Option Value) (fa : Addr) (h : Heap), (K w.params).In h → h.Ns mainGlobals mg → mg d.name = some (.ref fa) →
      ∃ fd : FuncData, (∀ (s : Shared) (u : Value), BindsTo s fd ⟨[u], []⟩ [(x, u)]) ∧
        ∀ base : Heap, (K w.params).In base → base.Ns mainGlobals mg → FnG l.prog w (K w.params) mg base (CX w) k fa fd [x] (sp w))
    (hsp : ∀ (w : World) (H : Hp) (a : Addr) (ns : List Int), ns.length ≤ n → Only H → SqL (K w.params) H a (ns.map V.int) → sp w [.ref a] H (fun v _ => v = .bl true) fun _ _ _ => False)
    (hCX : ∀ (w : World) (H : Hp) (s : Shared) (e : Value) (s' : Shared), CX w [] H s (fun _ _ _ => False) e s' → False) :
    PySem.W.WalkO q loose XP YP l.row.toRowW d [] (fun f vs => PySem.call f vs) := by
  refine Att.attach_call hn hdf fun w s₀ s₁ mg mb fa o pm cd doc a vs ns G Y ho hd hcd hmg hobj hints hlen hg => ?_
  have KX := hY w _ Y
  obtain ⟨fd, hb, hF⟩ := F w mg fa _ KX G.T.g hmg
  exact law_callG KX G.T.g G.T.b G.T.builtins G.T.nolimit hg hobj hints (Nat.le_trans hlen hn2) hr hF hb (fun H hO hS => hsp w H a ns hlen hO hS) fun H e s' => hCX w H s₁ e s'
end L2

set_option Elab.async false
set_option linter.all false
set_option maxRecDepth 100000
set_option maxHeartbeats 4000000
/-! repr of data, an empty dict among it. New lists are told apart from the module table. -/
namespace L2
open PySem PySem.Spec PyProof.Rows
mutual
/-- data to be shown -/
inductive Rp (K : PySem.W.Frag) (N : Addr → Prop) (H : Hp) : V → PyData → Prop
  | non : Rp K N H .non .none
  | bl (b : Bool) : Rp K N H (.bl b) (.bool b)
  | int (i : Int) : Rp K N H (.int i) (.int i)
  | str (x : Str) : Rp K N H (.str x) (.str x)
  | lst {a : Addr} {xs : List V} {ds : List PyData} : SqL K H a xs → N a → RpAll K N H xs ds → Rp K N H (.ref a) (.list ds)
  | tup {a : Addr} {xs : List V} {ds : List PyData} : SqT K H a xs → RpAll K N H xs ds → Rp K N H (.ref a) (.tuple ds)
  | dic {a : Addr} : H a = some (.dK []) → Rp K N H (.ref a) (.dict [])
inductive RpAll (K : PySem.W.Frag) (N : Addr → Prop) (H : Hp) : List V → List PyData → Prop
  | nil : RpAll K N H [] []
  | cons {v : V} {vs : List V} {d : PyData} {ds : List PyData} : Rp K N H v d → RpAll K N H vs ds → RpAll K N H (v :: vs) (d :: ds)
end
section
variable {X : Cx} {pins : List (Addr × Obj)} {σ : St} {H : Hp} {s : Shared}
theorem reads_empty (I : Inv X pins σ H s) {a : Addr} (h : H a = some (.dK [])) : Reads s.heap (.ref a) (.dict []) [a] ∧ a ≠ sysModules := by
  obtain ⟨_, hne, vs, rel, o, es, ep, ho, hx, hd, _, he, _⟩ := (show ObjOk X.prog X.w H s.heap a (.dK []) from I.hok a _ h)
  cases rel
  have e0 : es.toList = [] := by
    cases hl : es.toList with
    | nil => rfl
    | cons p l => rw [hl] at he; cases he
  have hc : o.cls = .type "dict" := hx.1
  have r : Reads s.heap (.ref a) (.dict []) (a :: [] ++ []) := .dict ho hc hd (by rw [e0]; exact .nil) (by rw [e0]; exact .nil)
  exact ⟨r, fun z => by rw [z] at hne; exact absurd hne (by decide)⟩
mutual
theorem Rp.reads {N : Addr → Prop} (hN : ∀ a, N a → a ≠ sysModules) (I : Inv X pins σ H s) : ∀ (d : PyData) (v : V) (u : Value), Rp X.K N H v d → RelV v u → ∃ as, Reads s.heap u d as ∧ sysModules ∉ as
  | .none, _, _, h, r => by
    cases h
    cases r
    exact ⟨_, .none, by simp⟩
  | .bool b, _, _, h, r => by
    cases h
    cases r
    exact ⟨_, .bool b, by simp⟩
  | .int i, _, _, h, r => by
    cases h
    obtain ⟨t, rfl⟩ := r
    exact ⟨_, .int i t, by simp⟩
  | .str x, _, _, h, r => by
    cases h
    obtain ⟨t, rfl⟩ := r
    exact ⟨_, .str x t, by simp⟩
  | .list ds, _, _, h, r => by
    cases h with
    | lst hs ne ha =>
      cases r
      obtain ⟨its, rv, ⟨o, n, ho, hc, _, hd⟩, _⟩ := I.list hs
      obtain ⟨as, hr, hn⟩ := Rp.readsAll hN I ds _ its ha rv
      exact ⟨_, .list ho hc hd hr, fun hm => (List.mem_cons.mp hm).elim (fun z => hN _ ne z.symm) hn⟩
  | .tuple ds, _, _, h, r => by
    cases h with
    | tup hs ha =>
      cases r
      obtain ⟨its, rv, ⟨o, ho, hc, n, hd⟩, _⟩ := I.tuple hs
      obtain ⟨as, hr, hn⟩ := Rp.readsAll hN I ds _ its ha rv
      exact ⟨_, .tuple ho hc hd hr, hn⟩
  | .dict kvs, _, _, h, r => by
    cases h with
    | dic ha =>
      cases r
      obtain ⟨q, ne⟩ := reads_empty I ha
      exact ⟨_, q, fun hm => ne (List.mem_singleton.mp hm).symm⟩
theorem Rp.readsAll {N : Addr → Prop} (hN : ∀ a, N a → a ≠ sysModules) (I : Inv X pins σ H s) : ∀ (ds : List PyData) (vs : List V) (us : List Value), RpAll X.K N H vs ds → Vals vs us → ∃ as, ReadsAll s.heap us ds as ∧ sysModules ∉ as
  | [], _, _, h, r => by
    cases h
    cases r
    exact ⟨_, .nil, by simp⟩
  | d :: ds, _, _, h, r => by
    cases h with
    | cons h1 h2 =>
      cases r with
      | cons r1 r2 =>
        obtain ⟨as, q1, n1⟩ := Rp.reads hN I d _ _ h1 r1
        obtain ⟨bs, q2, n2⟩ := Rp.readsAll hN I ds _ _ h2 r2
        exact ⟨_, .cons q1 q2, fun hm => (List.mem_append.mp hm).elim n1 n2⟩
end
end
mutual
theorem Rp.imp {K : PySem.W.Frag} {N N' : Addr → Prop} {H H' : Hp} (hl : ∀ a xs, N a → SqL K H a xs → SqL K H' a xs ∧ N' a) (ht : ∀ a xs, SqT K H a xs → SqT K H' a xs) (hd : ∀ a, H a = some (.dK []) → H' a = some (.dK [])) : ∀ (d : PyData) (v : V), Rp K N H v d → Rp K N' H' v d
  | .none, _, h => by cases h; exact .non
  | .bool b, _, h => by cases h; exact .bl b
  | .int i, _, h => by cases h; exact .int i
  | .str x, _, h => by cases h; exact .str x
  | .list ds, _, h => by
    cases h with
    | lst a b c =>
      obtain ⟨a', b'⟩ := hl _ _ b a
      exact .lst a' b' (Rp.impAll hl ht hd ds _ c)
  | .tuple ds, _, h => by
    cases h with
    | tup a c => exact .tup (ht _ _ a) (Rp.impAll hl ht hd ds _ c)
  | .dict kvs, _, h => by
    cases h with
    | dic a => exact .dic (hd _ a)
theorem Rp.impAll {K : PySem.W.Frag} {N N' : Addr → Prop} {H H' : Hp} (hl : ∀ a xs, N a → SqL K H a xs → SqL K H' a xs ∧ N' a) (ht : ∀ a xs, SqT K H a xs → SqT K H' a xs) (hd : ∀ a, H a = some (.dK []) → H' a = some (.dK [])) : ∀ (ds : List PyData) (vs : List V), RpAll K N H vs ds → RpAll K N' H' vs ds
  | [], _, h => by cases h; exact .nil
  | d :: ds, _, h => by
    cases h with
    | cons h1 h2 => exact .cons (Rp.imp hl ht hd d _ h1) (Rp.impAll hl ht hd ds _ h2)
end
theorem Same.seqT {K : PySem.W.Frag} {H H' : Hp} {a : Addr} {xs : List V} (e : Same H H') (h : SqT K H a xs) : SqT K H' a xs := by
  rcases h with (h | ⟨o, h⟩) | h
  · exact .inl (.inl (e _ _ h))
  · exact .inl (.inr ⟨o, e _ _ h⟩)
  · exact .inr h
theorem Rp.same {K : PySem.W.Frag} {N : Addr → Prop} {H H' : Hp} {v : V} {d : PyData} (h : Rp K N H v d) (e : Same H H') : Rp K N H' v d :=
  Rp.imp (fun _ _ n s => ⟨e.seq s, n⟩) (fun _ _ s => e.seqT s) (fun _ s => e _ _ s) d v h
/-- data that repr shows in the size that there is -/
def Shows (d : PyData) : Prop := d.showable = true ∧ d.shown.length ≤ sizeLine ∧ d.depth ≤ 60
/-- repr(x) -/
def rRepr (K : PySem.W.Frag) : List V → Hp → VK → Prop := fun xs H Q => ∃ (N : Addr → Prop) (x : V) (d : PyData), (∀ a, N a → a ≠ sysModules) ∧ xs = [x] ∧ Rp K N H x d ∧ Shows d ∧ Q (.str d.shown) H
theorem call_repr {X : Cx} (hg : X.A.guards = some []) (hu : X.A.units + 64 < cLine) : CallR X (.builtin "repr") (rRepr X.K) := by
  intro pins s σ H xs us Q I r h
  obtain ⟨N, x, d, hN, rfl, hx, ⟨hs, hz, hd⟩, q⟩ := h
  obtain ⟨u, rfl, ru⟩ := vals1 r
  have fin : ∀ h' t tk, (∀ b o, s.heap.get? b = some o → h'.get? b = some o) → EP X pins σ Q (.str d.shown t) { s with heap := h', toks := tk } := fun h' t tk k => ⟨.str _, H, I.kept (t' := tk) k, ⟨_, rfl⟩, q⟩
  cases hx with
  | non =>
    cases ru
    exact PySem.P.repr_of_none (fin s.heap _ _ fun _ _ e => e)
  | bl b =>
    cases ru
    exact PySem.P.repr_of_bool (by cases b <;> exact fin s.heap _ _ fun _ _ e => e)
  | int i =>
    obtain ⟨t, rfl⟩ := ru
    exact PySem.P.repr_of_int (by simpa [PyData.showable] using hs) (fin s.heap _ _ fun _ _ e => e)
  | str x =>
    obtain ⟨t, rfl⟩ := ru
    exact PySem.P.repr_of_str (fin s.heap _ _ fun _ _ e => e) (by simpa [PyData.shown] using hz)
  | lst a b c =>
    cases ru
    obtain ⟨as, rd, ns⟩ := Rp.reads hN I _ _ _ (.lst a b c) rfl
    exact repr_of_reads' rd hs (fun _ => ns) hg (by omega) (fun _ _ e => e) fin hz
  | tup a b =>
    cases ru
    obtain ⟨as, rd, ns⟩ := Rp.reads hN I _ _ _ (.tup a b) rfl
    exact repr_of_reads' rd hs (fun _ => ns) hg (by omega) (fun _ _ e => e) fin hz
  | dic a =>
    cases ru
    obtain ⟨as, rd, ns⟩ := Rp.reads hN I _ _ _ (.dic a) rfl
    exact repr_of_reads' rd hs (fun _ => ns) hg (by omega) (fun _ _ e => e) fin hz

/-! ### new lists, apart from the module table -/
theorem Inv.apart {X : Cx} {pins : List (Addr × Obj)} {σ : St} {H : Hp} {s : Shared} (I : Inv X pins σ H s) : s.heap.objs.size ≠ sysModules := Nat.ne_of_gt I.big
section
variable {X : Cx} {es : List Expr} {pos : Pos} {t : TA}
def NewB (H : Hp) (xs : List V) (Q : VK) : Prop := ∀ p, H p = none → p ≠ sysModules → Q (.ref p) (upd H p (.lst xs))
def tLstB (t : TA) : TE := fun σ H Q => t σ H fun xs H1 => xs.length ≤ sizeLine ∧ NewB H1 xs Q
theorem pe_lstB (h : PA X es t) : PE X (.List es pos) (tLstB t) := by
  refine ⟨fun pins s σ H Q I hq => ?_⟩
  refine wpAny_List_spliced (thn (h.run pos pins s σ H _ I hq) fun us s1 ⟨xs, H1, I1, r, z, q⟩ => ⟨by rw [← r.length]; exact z, ?_⟩)
  exact ⟨.ref _, _, I1.lnew (t' := s1.toks) r z, rfl, q _ I1.fresh I1.apart⟩
def rCatB : R2 := fun x y H Q => ∃ l b xs zs, x = .ref l ∧ y = .ref b ∧ H l = some (.lst xs) ∧ H b = some (.lst zs) ∧ xs.length + zs.length ≤ sizeLine ∧ NewB H (xs ++ zs) Q
theorem op_catB : OpR X (binaryOp .Add) rCatB := by
  intro pins s σ H x y v u Q I rx ry h
  obtain ⟨l, b, xs, zs, rfl, rfl, hH, hB, hz, q⟩ := h
  cases rx
  cases ry
  obtain ⟨z, its, n, r, hl, e⟩ := I.lstM hH
  obtain ⟨z2, its2, n2, r2, hl2, e2⟩ := I.lstM hB
  refine PySem.P.add_list e e2 ?_ (by rw [List.size_toArray, List.size_toArray]; omega)
  rw [show its.toArray ++ its2.toArray = (its ++ its2).toArray by simp]
  exact ⟨.ref _, _, I.lnew (t' := s.toks) (r.append r2) (by rw [List.length_append]; omega), rfl, q _ I.fresh I.apart⟩
def rRepB : R2 := fun x y H Q => ∃ l k xs, x = .ref l ∧ y = .int k ∧ H l = some (.lst xs) ∧ 0 ≤ k ∧ k < 1000000 ∧ xs.length * k.toNat ≤ sizeLine ∧ NewB H (List.replicate k.toNat xs).flatten Q
theorem op_repB : OpR X (binaryOp .Mult) rRepB := by
  intro pins s σ H x y v u Q I rx ry h
  obtain ⟨l, k, xs, rfl, rfl, hH, h1, h2, hz, q⟩ := h
  cases rx
  obtain ⟨t, rfl⟩ := ry
  obtain ⟨z, its, n, r, hl, e⟩ := I.lstM hH
  have hlen : its.toArray.size * k.toNat ≤ sizeLine := by rw [List.size_toArray, ← hl]; exact hz
  have cap : ¬ its.toArray.size * k.toNat > (2 ^ 63 - 1) / 8 := by
    have : (sizeLine : Nat) ≤ (2 ^ 63 - 1) / 8 := by decide
    omega
  have fit : ¬ (!Builtin.List.listFitsIndex k) = true := by
    rw [fitsIndex_both (by omega) (by omega)]
    exact Bool.false_ne_true
  have long : ¬ Builtin.List.listTooLong (its.toArray.size * k.toNat) = true := by
    rw [notLongL hlen]
    exact Bool.false_ne_true
  have made : List.foldl (fun x1 x2 => x1 ++ x2) #[] (List.replicate (if its.toArray.isEmpty = true then 0 else k.toNat) its.toArray) = (List.replicate k.toNat its).flatten.toArray := by
    have f0 : ∀ m : Nat, List.foldl (fun x1 x2 => x1 ++ x2) #[] (List.replicate m its.toArray) = (List.replicate m its).flatten.toArray := fun m => by
      have z := foldl_rep its m []
      rwa [List.nil_append] at z
    rw [f0]
    cases its with
    | nil => simp
    | cons a r' => rw [if_neg (by simp)]
  refine wpAny_binaryOp_repeat_ref (T := "list") (U := "int") (by decide) ⟨_, e, rfl⟩ (fun s' => typeIs_int s' k t) noFill_list_mul F.fills_int_mul F.slot_int_rmul repeat_list F.slot_int_index.lookup
    (call_meets F.slot_int_rmul (typeIs_int s k t) F.entry_int_rmul (F.args_int_rmul_2 _ _) (int___rmul___int_list k t l its.toArray n)
      ⟨e, rfl, ⟨_, e, rfl⟩, call_meets F.slot_list_mul ⟨_, e, rfl⟩ F.entry_list_mul (F.args_list_mul_2 _ _) (AutoListH.list___mul___list_int_3 l its.toArray n k t fit cap long) ⟨e, ?_⟩⟩)
  rw [made]
  exact ⟨.ref _, _, I.lnew (t' := s.toks) (r.rep k.toNat) (by rw [PyProof.Rows.lm_len_rep_flat, Nat.mul_comm]; exact hz), rfl, q _ I.fresh I.apart⟩
end
end L2

set_option Elab.async false
set_option linter.all false
set_option maxRecDepth 100000
set_option maxHeartbeats 4000000
namespace L2
open PySem PySem.Spec PyProof.Rows
/-! ### how long a text repr gives -/
mutual
/-- small ints, plain signs, no dict but the empty one -/
def fine : PyData → Bool
  | .none => true
  | .bool _ => true
  | .int i => decide (i.natAbs < 2 ^ 66)
  | .str x => x.cps.toList.all fun c => decide (c < 1114112)
  | .list xs => fineAll xs
  | .tuple xs => fineAll xs
  | .dict kvs => kvs.isEmpty
def fineAll : List PyData → Bool
  | [] => true
  | x :: xs => fine x && fineAll xs
end
mutual
def cap : PyData → Nat
  | .none => 4
  | .bool _ => 5
  | .int _ => 70
  | .str x => 10 * x.length + 2
  | .list xs => 4 + capAll xs
  | .tuple xs => 4 + capAll xs
  | .dict _ => 4
def capAll : List PyData → Nat
  | [] => 0
  | x :: xs => cap x + 2 + capAll xs
end
theorem textFrom_cap : ∀ (ts : List Str) (k : Nat) (acc : Str), (textFrom k acc ts).length ≤ acc.length + piled ts
  | [], k, acc => by show acc.length ≤ _; simp [piled_nil]
  | t :: r, k, acc => by
    have h := textFrom_cap r (k + 1) (acc ++ (if k > 0 then ", " else "" : String) ++ t)
    have e : (acc ++ (if k > 0 then ", " else "" : String) ++ t).length ≤ acc.length + 2 + t.length := by
      rw [strLen_append, strLen_append]
      split
      · show acc.length + 2 + t.length ≤ _; omega
      · show acc.length + 0 + t.length ≤ _; omega
    rw [piled_cons]
    show (textFrom (k + 1) _ r).length ≤ _
    omega
theorem listText_cap (ts : List Str) : (listText ts).length ≤ 2 + piled ts := by
  unfold listText
  rw [strLen_append]
  have h := textFrom_cap ts 0 "["
  have e : (Str.ofString "[").length = 1 := rfl
  have e2 : (Str.ofString "]").length = 1 := rfl
  have h' : (textFrom 0 (Str.ofString "[") ts).length ≤ (Str.ofString "[").length + piled ts := h
  show (textFrom 0 (Str.ofString "[") ts).length + (Str.ofString "]").length ≤ _
  omega
theorem join_cap : ∀ ts : List Str, (Str.join ", " ts).length ≤ piled ts
  | [] => Nat.zero_le _
  | t :: r => by
    have h := join_length_add (t :: r) (by simp)
    omega
theorem tupleText_cap (ts : List Str) : (tupleText ts).length ≤ 3 + piled ts := by
  unfold tupleText
  rw [strLen_append, strLen_append]
  have h := join_cap ts
  have e : (Str.ofString "(").length = 1 := rfl
  have e2 : (Str.ofString (if (ts.length == 1) = true then ",)" else ")")).length ≤ 2 := by
    split
    · exact Nat.le_refl 2
    · exact Nat.le_succ 1
  show (Str.ofString "(").length + (Str.join ", " ts).length + (Str.ofString (if (ts.length == 1) = true then ",)" else ")")).length ≤ _
  omega
mutual
theorem shown_cap : ∀ d : PyData, fine d = true → d.shown.length ≤ cap d ∧ d.showable = true
  | .none, _ => by
    refine ⟨?_, by simp [PyData.showable]⟩
    simp only [PyData.shown, cap]
    exact Nat.le_refl 4
  | .bool b, _ => by
    refine ⟨?_, by simp [PyData.showable]⟩
    simp only [PyData.shown, cap]
    cases b
    · exact Nat.le_refl 5
    · exact Nat.le_succ 4
  | .int i, h => by
    have hi : i.natAbs < 2 ^ 66 := by simpa [fine] using h
    have hl : i.natAbs.log2 < 67 := by
      by_cases h0 : i.natAbs = 0
      · rw [h0]; decide
      · exact Nat.lt_succ_of_lt ((Nat.log2_lt h0).mpr hi)
    refine ⟨?_, ?_⟩
    · simp only [PyData.shown, cap]
      have e := int_text_length_le (k := 67) (by decide) hl
      rw [PySem.ofString_length]
      omega
    · simp only [PyData.showable]
      exact decide_eq_true (by omega)
  | .str x, h => by
    have hx : ∀ c ∈ x.cps.toList, c < 16 ^ 8 := fun c hc => by
      simp only [fine, List.all_eq_true] at h
      exact Nat.lt_trans (of_decide_eq_true (h c hc)) (by decide)
    refine ⟨?_, by simp [PyData.showable]⟩
    simp only [PyData.shown, cap]
    exact PySem.StrLaws.reprText_len x hx
  | .list xs, h => by
    obtain ⟨h1, h2⟩ := shown_capAll xs (by simpa [fine] using h)
    refine ⟨?_, by simpa [PyData.showable] using h2⟩
    simp only [PyData.shown, cap]
    have := listText_cap (PyData.shownAll xs)
    omega
  | .tuple xs, h => by
    obtain ⟨h1, h2⟩ := shown_capAll xs (by simpa [fine] using h)
    refine ⟨?_, by simpa [PyData.showable] using h2⟩
    simp only [PyData.shown, cap]
    have := tupleText_cap (PyData.shownAll xs)
    omega
  | .dict kvs, h => by
    have e : kvs = [] := by
      have h' : kvs.isEmpty = true := by simpa [fine] using h
      exact List.isEmpty_iff.mp h'
    subst e
    refine ⟨?_, by simp [PyData.showable, PyData.showableKv]⟩
    simp only [PyData.shown, PyData.shownKv, cap]
    exact (by decide : (dictText []).length ≤ 4)
theorem shown_capAll : ∀ xs : List PyData, fineAll xs = true → piled (PyData.shownAll xs) ≤ capAll xs ∧ PyData.showableAll xs = true
  | [], _ => by simp [PyData.shownAll, piled_nil, capAll, PyData.showableAll]
  | x :: xs, h => by
    have h' : fine x = true ∧ fineAll xs = true := by simpa [fineAll] using h
    obtain ⟨h1, h2⟩ := shown_cap x h'.1
    obtain ⟨h3, h4⟩ := shown_capAll xs h'.2
    refine ⟨?_, ?_⟩
    · simp only [PyData.shownAll, capAll]
      rw [piled_cons]
      omega
    · simp [PyData.showableAll, h2, h4]
end
theorem shows_of {d : PyData} (h : fine d = true) (hc : cap d ≤ 16000000) (hd : d.depth ≤ 60) : Shows d := by
  obtain ⟨h1, h2⟩ := shown_cap d h
  exact ⟨h2, by rw [sizeLine_eq]; omega, hd⟩
end L2

set_option Elab.async false
set_option linter.all false
set_option maxRecDepth 100000
set_option maxHeartbeats 4000000
/-! repr's text has plain signs only. -/
namespace L2
open PySem PySem.Spec PyProof.Rows
theorem char_lt (c : Char) : c.toNat < 1114112 := by
  have h := c.valid
  show c.val.toNat < 1114112
  rcases h with h | ⟨_, h⟩
  · exact Nat.lt_trans h (by decide)
  · exact h
theorem all_ok {x : Str} : PyData.strOk x = true ↔ ∀ c ∈ x.cps.toList, c < 1114112 := by
  unfold PyData.strOk
  rw [← Array.all_toList, List.all_eq_true]
  exact ⟨fun h c hc => of_decide_eq_true (h c hc), fun h c hc => decide_eq_true (h c hc)⟩
theorem ok_of (s : String) : PyData.strOk (Str.ofString s) = true := by
  rw [all_ok]
  intro c hc
  have h : ∃ d : Char, c = d.toNat := by
    rw [Str.ofString_eq_toList] at hc
    obtain ⟨d, _, e⟩ := List.mem_map.mp (show c ∈ s.toList.map Char.toNat from by simpa using hc)
    exact ⟨d, e.symm⟩
  obtain ⟨d, rfl⟩ := h
  exact char_lt d
theorem ok_app {x y : Str} (hx : PyData.strOk x = true) (hy : PyData.strOk y = true) : PyData.strOk (x ++ y) = true := by
  rw [all_ok] at hx hy ⊢
  intro c hc
  rw [Str.cps_append, Array.toList_append] at hc
  exact (List.mem_append.mp hc).elim (hx c) (hy c)
theorem ok_char {q c : Nat} (hq : q < 1114112) (hc : c < 1114112) : ∀ d ∈ Builtin.Str.reprChar q c, d < 1114112 := by
  have hex : ∀ w : Nat, ∀ d ∈ (List.replicate (w - ((Nat.toDigits 16 c).map Char.toNat).length) 48 ++ (Nat.toDigits 16 c).map Char.toNat), d < 1114112 := by
    intro w d hd
    rcases List.mem_append.mp hd with h | h
    · rw [List.eq_of_mem_replicate h]; decide
    · obtain ⟨e, _, rfl⟩ := List.mem_map.mp h
      exact char_lt e
  have two : ∀ (a b : Nat) (w d : Nat), a < 1114112 → b < 1114112 → d ∈ [a, b] ++ (List.replicate (w - ((Nat.toDigits 16 c).map Char.toNat).length) 48 ++ (Nat.toDigits 16 c).map Char.toNat) → d < 1114112 := by
    intro a b w d ha hb hd
    rcases List.mem_append.mp hd with h | h
    · simp at h
      rcases h with rfl | rfl
      · exact ha
      · exact hb
    · exact hex w d h
  intro d hd
  unfold Builtin.Str.reprChar at hd
  dsimp only at hd
  repeat' split at hd
  all_goals first | exact two _ _ _ d (by decide) (by decide) hd | (simp at hd; omega)
theorem ok_repr {x : Str} (hx : PyData.strOk x = true) : PyData.strOk (PySem.reprText x) = true := by
  rw [all_ok] at hx ⊢
  have hq : PySem.reprQuote x < 1114112 := by
    unfold PySem.reprQuote
    split <;> decide
  have go : ∀ (l : List Nat) (acc : Array Nat), (∀ c ∈ l, c < 1114112) → (∀ c ∈ acc.toList, c < 1114112) → ∀ c ∈ (l.foldl (fun out c => out ++ (Builtin.Str.reprChar (PySem.reprQuote x) c).toArray) acc).toList, c < 1114112 := by
    intro l
    induction l with
    | nil => exact fun acc _ h => h
    | cons d r ih =>
      intro acc h1 h2
      rw [List.foldl_cons]
      refine ih _ (fun c hc => h1 c (List.mem_cons_of_mem _ hc)) fun c hc => ?_
      rw [Array.toList_append] at hc
      rcases List.mem_append.mp hc with h | h
      · exact h2 c h
      · exact ok_char hq (h1 d List.mem_cons_self) c h
  intro c hc
  unfold PySem.reprText at hc
  rw [Array.toList_push, ← Array.foldl_toList] at hc
  rcases List.mem_append.mp hc with h | h
  · exact go _ _ hx (fun c h => by
      rw [List.mem_singleton.mp (show c ∈ [PySem.reprQuote x] from h)]
      exact hq) c h
  · rw [List.mem_singleton.mp h]
    exact hq
theorem ok_from : ∀ (ts : List Str) (k : Nat) (acc : Str), (∀ t ∈ ts, PyData.strOk t = true) → PyData.strOk acc = true → PyData.strOk (textFrom k acc ts) = true
  | [], _, _, _, h => h
  | t :: r, k, acc, h, ha => ok_from r (k + 1) _ (fun u hu => h u (List.mem_cons_of_mem _ hu)) (ok_app (ok_app ha (ok_of _)) (h t List.mem_cons_self))
theorem ok_join : ∀ (ts : List Str), (∀ t ∈ ts, PyData.strOk t = true) → PyData.strOk (Str.join ", " ts) = true
  | [], _ => by decide +kernel
  | [x], h => h x List.mem_cons_self
  | x :: y :: r, h => ok_app (ok_app (h x List.mem_cons_self) (ok_of _)) (ok_join (y :: r) fun u hu => h u (List.mem_cons_of_mem _ hu))
mutual
theorem shown_ok : ∀ d : PyData, fine d = true → PyData.strOk d.shown = true
  | .none, _ => by
    simp only [PyData.shown]
    exact ok_of _
  | .bool b, _ => by
    simp only [PyData.shown]
    cases b <;> exact ok_of _
  | .int i, _ => by
    simp only [PyData.shown]
    exact ok_of _
  | .str x, h => by
    simp only [PyData.shown]
    refine ok_repr (all_ok.mpr fun c hc => ?_)
    simp only [fine, List.all_eq_true] at h
    exact of_decide_eq_true (h c hc)
  | .list xs, h => by
    have q := shown_okAll xs (by simpa [fine] using h)
    simp only [PyData.shown]
    exact ok_app (ok_from _ _ _ q (ok_of _)) (ok_of _)
  | .tuple xs, h => by
    have q := shown_okAll xs (by simpa [fine] using h)
    simp only [PyData.shown]
    exact ok_app (ok_app (ok_of _) (ok_join _ q)) (ok_of _)
  | .dict kvs, h => by
    have e : kvs = [] := by
      have h' : kvs.isEmpty = true := by simpa [fine] using h
      exact List.isEmpty_iff.mp h'
    subst e
    simp only [PyData.shown, PyData.shownKv]
    decide +kernel
theorem shown_okAll : ∀ xs : List PyData, fineAll xs = true → ∀ t ∈ PyData.shownAll xs, PyData.strOk t = true
  | [], _ => fun t ht => by simp [PyData.shownAll] at ht
  | x :: xs, h => by
    have h' : fine x = true ∧ fineAll xs = true := by simpa [fineAll] using h
    intro t ht
    simp only [PyData.shownAll] at ht
    rcases List.mem_cons.mp ht with rfl | ht
    · exact shown_ok x h'.1
    · exact shown_okAll xs h'.2 t ht
end
end L2

set_option Elab.async false
set_option linter.all false
set_option maxRecDepth 100000
set_option maxHeartbeats 8000000
namespace Ehk
open PySem PySem.Spec PyProof.Rows L2
abbrev sArg : Stmt := topS 25
abbrev sAll : Stmt := topS 26
abbrev sKinds : Stmt := topS 27
abbrev sFam : Stmt := topS 28
abbrev sAttr : Stmt := topS 29
abbrev sKw : Stmt := topS 30
abbrev sCaught : Stmt := topS 31
abbrev sLaw : Stmt := topS 32
/-- the field of the class by its number -/
def fld : Nat → Str

  | 5 => "step"
  | 6 => "step"
  | 7 => "max_states"
  | 8 => "name"
  | 9 => "position"
  | 10 => "op"
  | 11 => "arguments"
  | 12 => "node"
  | 13 => "configs"
  | 14 => "name"
  | 15 => "name"
  | 16 => "node"
  | _ => "step"
abbrev veMro : List Value := [.type "ValueError", .type "Exception", .type "BaseException", .type "object"]
/-- what the top has written: the classes at c, their __init__ at i, the base class at cE -/
structure Txt (K : PySem.W.Frag) (mg : Str → Option Value) (cE : Addr) (c i : Nat → Addr) (fd : Nat → FuncData) : Prop where
  gE : mg "EachHeightError" = some (.ref cE)
  g0 : mg "InvalidText" = some (.ref (c 0))
  g1 : mg "InvalidCommand" = some (.ref (c 1))
  g2 : mg "InvalidCertificate" = some (.ref (c 2))
  g3 : mg "SystemDown" = some (.ref (c 3))
  g4 : mg "SystemUp" = some (.ref (c 4))
  g5 : mg "BadStep" = some (.ref (c 5))
  g6 : mg "NoSuchStep" = some (.ref (c 6))
  g7 : mg "TooManyStates" = some (.ref (c 7))
  g8 : mg "DuplicateOperation" = some (.ref (c 8))
  g9 : mg "Mismatch" = some (.ref (c 9))
  g10 : mg "UnknownOperation" = some (.ref (c 10))
  g11 : mg "InvalidArguments" = some (.ref (c 11))
  g12 : mg "UnhandledReply" = some (.ref (c 12))
  g13 : mg "Uncovered" = some (.ref (c 13))
  g14 : mg "NameTaken" = some (.ref (c 14))
  g15 : mg "UnknownName" = some (.ref (c 15))
  g16 : mg "UnknownNode" = some (.ref (c 16))
  eg : Eg K
  ecE : Ec K cE
  ec : ∀ j, j < 17 → Ec K (c j)
  ef : ∀ j, 5 ≤ j → j < 17 → Ef K (c j) (fld j)
  xE : PySem.W.excIn K cE veMro "ValueError.__new__" = true
  x : ∀ j, j < 5 → PySem.W.excIn K (c j) veMro "ValueError.__new__" = true
  iC : ∀ j, 5 ≤ j → j < 17 → PySem.W.findIn K (.ref (c j)) "__init__" = some (some (.ref (i j)))
  iT : ∀ j, 5 ≤ j → j < 17 → PySem.W.typeIn K (.ref (i j)) = some (.type "function")
  ini : ∀ (P : Program) (w : World) (base : Heap) (j : Nat), 5 ≤ j → j < 17 → FnOk P w K mg base CX0 1 (i j) (fd j) ["self", fld j] (spIni K (fld j))
  bP : ∀ j, 5 ≤ j → j < 17 → ∀ (s : Shared) (a : Addr) (u : Value), BindsTo s (fd j) ⟨[.ref a, u], []⟩ [("self", .ref a), (fld j, u)]
  bK : ∀ j, 5 ≤ j → j < 17 → ∀ (s : Shared) (a : Addr) (u : Value), BindsTo s (fd j) ⟨[.ref a], [(fld j, u)]⟩ [("self", .ref a), (fld j, u)]
  kit : ∀ j k, j < 17 → k < 17 → PySem.W.kitOne K (.ref (c j)) (.ref (c k)) = some (decide (j = k))
  kE : ∀ j, j < 17 → PySem.W.kitOne K (.ref (c j)) (.ref cE) = some (decide (j < 15))
  kV : ∀ j, j < 17 → PySem.W.kitOne K (.ref (c j)) (.type "ValueError") = some (decide (j < 15))
  kK : ∀ j, j < 17 → PySem.W.kitOne K (.ref (c j)) (.type "KeyError") = some (decide (j = 15))
  kI : ∀ j, j < 17 → PySem.W.kitOne K (.ref (c j)) (.type "IndexError") = some (decide (j = 16))
  eE : PySem.W.kitOne K (.ref cE) (.ref cE) = some true
  eV : PySem.W.kitOne K (.ref cE) (.type "ValueError") = some true
  eK : PySem.W.kitOne K (.ref cE) (.type "KeyError") = some false
  eI : PySem.W.kitOne K (.ref cE) (.type "IndexError") = some false
  isi : mg "isinstance" = none
  ve : mg "ValueError" = none
  ke : mg "KeyError" = none
  ie : mg "IndexError" = none
  enu : mg "enumerate" = none
  ran : mg "range" = none
  rep : mg "repr" = none
  len : mg "len" = none
  lis : mg "list" = none
/-- an error of one field stands at a -/
def Err (H : Hp) (a C : Addr) (f : Str) (y : V) : Prop := ∃ d, H a = some (exo a C (some d)) ∧ H d = some (exd d [(f, y)])
theorem Err.same {H H' : Hp} {a C : Addr} {f : Str} {y : V} (e : Err H a C f y) (k : Same H H') : Err H' a C f y := by
  obtain ⟨d, h1, h2⟩ := e
  exact ⟨d, k _ _ h1, k _ _ h2⟩
/-- the errors of all classes, in order -/
def Errs (c : Nat → Addr) (H : Hp) (rs : List Addr) (y : V) : Prop := rs.length = 17 ∧ (∀ j r, j < 5 → rs[j]? = some r → H r = some (exo r (c j) none)) ∧ ∀ j r, 5 ≤ j → j < 17 → rs[j]? = some r → Err H r (c j) (fld j) y
theorem Errs.same {c : Nat → Addr} {H H' : Hp} {rs : List Addr} {y : V} (e : Errs c H rs y) (k : Same H H') : Errs c H' rs y :=
  ⟨e.1, fun j r h1 h2 => k _ _ (e.2.1 j r h1 h2), fun j r h1 h2 h3 => (e.2.2 j r h1 h2 h3).same k⟩
theorem Errs.exn {c : Nat → Addr} {H : Hp} {rs : List Addr} {y : V} (e : Errs c H rs y) {j : Nat} {r : Addr} (hj : j < 17) (h : rs[j]? = some r) : ∃ d, Exn H r (c j) d := by
  by_cases h5 : j < 5
  · exact ⟨none, e.2.1 j r h5 h⟩
  · obtain ⟨d, h1, h2⟩ := e.2.2 j r (by omega) hj h
    exact ⟨some d, h1, _, h2⟩
theorem mk_facts {H : Hp} {a d C : Addr} {f : Str} {y : V} (ha : H a = none) (hd : (upd H a (exo a C none)) d = none) (hne : d ≠ a) :
    Same H (upd (upd (upd H a (exo a C none)) d (exd d [(f, y)])) a (exo a C (some d))) ∧ Err (upd (upd (upd H a (exo a C none)) d (exd d [(f, y)])) a (exo a C (some d))) a C f y := by
  refine ⟨fun b o e => ?_, d, upd_same, by rw [upd_ne hne, upd_same]⟩
  have n1 : b ≠ a := ne_of_none e ha
  have hd' : H d = none := by rw [upd_ne hne] at hd; exact hd
  rw [upd_ne n1, upd_ne (ne_of_none e hd'), upd_ne n1]
  exact e
section
variable {P : Program} {w : World} {K : PySem.W.Frag} {mg : Str → Option Value} {base : Heap} {cE : Addr} {c i : Nat → Addr} {fd : Nat → FuncData}

/-! ### _law_all -/
theorem scAll : FnScope ["_law_x", "_law_some"] ["_law_x"] (defScope sAll) := ⟨rfl, rfl, rfl, by decide +kernel, rfl, by decide +kernel, by decide +kernel⟩
def spAll (c : Nat → Addr) : Sp := fun vs H Q _ => ∃ y, vs = [y] ∧ ∀ H' p rs, Same H H' → H' p = some (.lst (rs.map V.ref)) → Errs c H' rs y → Q (.ref p) H'
theorem ok_all {f : Addr} {fa : FuncData} (F : Fun K "_law_all" "_law_all" sAll f fa) (T : Txt K mg cE c i fd) : FnOk P w K mg base CX0 3 f fa ["_law_x"] (spAll c) := by
  refine F.ok scAll (fun vs H Q E h => ?_) (fun cdv A outer s H vs Q E hr h => ?_)
  · obtain ⟨y, rfl, _⟩ := h
    rfl
  · obtain ⟨y, rfl, q⟩ := h
    have ini := fun j h5 h17 => T.ini P w base j h5 h17
    refine ⟨_, pss_cons (ps_set (i := 1) scAll.nd rfl (.inl rfl) (pe_lst (pa_cons (pe_exN PySem.F.excBase_ValueError (T.x 0 (by decide)) T.g0 (T.ec 0 (by decide)).kC rfl)
        (pa_cons (pe_exN PySem.F.excBase_ValueError (T.x 1 (by decide)) T.g1 (T.ec 1 (by decide)).kC rfl)
        (pa_cons (pe_exN PySem.F.excBase_ValueError (T.x 2 (by decide)) T.g2 (T.ec 2 (by decide)).kC rfl)
        (pa_cons (pe_exN PySem.F.excBase_ValueError (T.x 3 (by decide)) T.g3 (T.ec 3 (by decide)).kC rfl)
        (pa_cons (pe_exN PySem.F.excBase_ValueError (T.x 4 (by decide)) T.g4 (T.ec 4 (by decide)).kC rfl)
        (pa_cons (pe_mkE (T.ec 5 (by decide)) (T.iC 5 (by decide) (by decide)) (T.iT 5 (by decide) (by decide)) (ini 5 (by decide) (by decide)) hr pass0 rfl T.g5 (pv 0) (T.bP 5 (by decide) (by decide)))
        (pa_cons (pe_mkE (T.ec 6 (by decide)) (T.iC 6 (by decide) (by decide)) (T.iT 6 (by decide) (by decide)) (ini 6 (by decide) (by decide)) hr pass0 rfl T.g6 (pv 0) (T.bP 6 (by decide) (by decide)))
        pa_nil)))))))))
      (pss_cons (ps_set (i := 1) scAll.nd rfl (.inl rfl) (pe_op op_cat (pv 1) (pe_lst (pa_cons (pe_mkE (T.ec 7 (by decide)) (T.iC 7 (by decide) (by decide)) (T.iT 7 (by decide) (by decide)) (ini 7 (by decide) (by decide)) hr pass0 rfl T.g7 (pv 0) (T.bP 7 (by decide) (by decide)))
        (pa_cons (pe_mkE (T.ec 8 (by decide)) (T.iC 8 (by decide) (by decide)) (T.iT 8 (by decide) (by decide)) (ini 8 (by decide) (by decide)) hr pass0 rfl T.g8 (pv 0) (T.bP 8 (by decide) (by decide)))
        (pa_cons (pe_mkE (T.ec 9 (by decide)) (T.iC 9 (by decide) (by decide)) (T.iT 9 (by decide) (by decide)) (ini 9 (by decide) (by decide)) hr pass0 rfl T.g9 (pv 0) (T.bP 9 (by decide) (by decide)))
        (pa_cons (pe_mkE (T.ec 10 (by decide)) (T.iC 10 (by decide) (by decide)) (T.iT 10 (by decide) (by decide)) (ini 10 (by decide) (by decide)) hr pass0 rfl T.g10 (pv 0) (T.bP 10 (by decide) (by decide)))
        (pa_cons (pe_mkE (T.ec 11 (by decide)) (T.iC 11 (by decide) (by decide)) (T.iT 11 (by decide) (by decide)) (ini 11 (by decide) (by decide)) hr pass0 rfl T.g11 (pv 0) (T.bP 11 (by decide) (by decide)))
        pa_nil))))))))
      (pss_one (ps_ret (pe_op op_cat (pv 1) (pe_lst (pa_cons (pe_mkE (T.ec 12 (by decide)) (T.iC 12 (by decide) (by decide)) (T.iT 12 (by decide) (by decide)) (ini 12 (by decide) (by decide)) hr pass0 rfl T.g12 (pv 0) (T.bP 12 (by decide) (by decide)))
        (pa_cons (pe_mkE (T.ec 13 (by decide)) (T.iC 13 (by decide) (by decide)) (T.iT 13 (by decide) (by decide)) (ini 13 (by decide) (by decide)) hr pass0 rfl T.g13 (pv 0) (T.bP 13 (by decide) (by decide)))
        (pa_cons (pe_mkE (T.ec 14 (by decide)) (T.iC 14 (by decide) (by decide)) (T.iT 14 (by decide) (by decide)) (ini 14 (by decide) (by decide)) hr pass0 rfl T.g14 (pv 0) (T.bP 14 (by decide) (by decide)))
        (pa_cons (pe_mkE (T.ec 15 (by decide)) (T.iC 15 (by decide) (by decide)) (T.iT 15 (by decide) (by decide)) (ini 15 (by decide) (by decide)) hr pass0 rfl T.g15 (pv 0) (T.bP 15 (by decide) (by decide)))
        (pa_cons (pe_mkE (T.ec 16 (by decide)) (T.iC 16 (by decide) (by decide)) (T.iT 16 (by decide) (by decide)) (ini 16 (by decide) (by decide)) hr pass0 rfl T.g16 (pv 0) (T.bP 16 (by decide) (by decide)))
        pa_nil)))))))))), ?_⟩
    intro r0 hr0
    have s0 : Same H (upd H r0 (exo r0 (c 0) none)) := same_upd hr0
    have e0 : (upd H r0 (exo r0 (c 0) none)) r0 = some (exo r0 (c 0) none) := upd_same
    generalize upd H r0 (exo r0 (c 0) none) = H0 at s0 e0 ⊢
    intro r1 hr1
    have s1 : Same H0 (upd H0 r1 (exo r1 (c 1) none)) := same_upd hr1
    have e1 : (upd H0 r1 (exo r1 (c 1) none)) r1 = some (exo r1 (c 1) none) := upd_same
    generalize upd H0 r1 (exo r1 (c 1) none) = H1 at s1 e1 ⊢
    intro r2 hr2
    have s2 : Same H1 (upd H1 r2 (exo r2 (c 2) none)) := same_upd hr2
    have e2 : (upd H1 r2 (exo r2 (c 2) none)) r2 = some (exo r2 (c 2) none) := upd_same
    generalize upd H1 r2 (exo r2 (c 2) none) = H2 at s2 e2 ⊢
    intro r3 hr3
    have s3 : Same H2 (upd H2 r3 (exo r3 (c 3) none)) := same_upd hr3
    have e3 : (upd H2 r3 (exo r3 (c 3) none)) r3 = some (exo r3 (c 3) none) := upd_same
    generalize upd H2 r3 (exo r3 (c 3) none) = H3 at s3 e3 ⊢
    intro r4 hr4
    have s4 : Same H3 (upd H3 r4 (exo r4 (c 4) none)) := same_upd hr4
    have e4 : (upd H3 r4 (exo r4 (c 4) none)) r4 = some (exo r4 (c 4) none) := upd_same
    generalize upd H3 r4 (exo r4 (c 4) none) = H4 at s4 e4 ⊢
    refine ⟨y, rfl, fun r5 hr5 => ⟨r5, c 5, y, rfl, T.ec 5 (by decide), T.ef 5 (by decide) (by decide), upd_same, fun d5 hd5 hne5 => ⟨rfl, ?_⟩⟩⟩
    have z5 := mk_facts (f := fld 5) (y := y) hr5 hd5 hne5
    generalize upd (upd (upd H4 r5 (exo r5 (c 5) none)) d5 (exd d5 [(fld 5, y)])) r5 (exo r5 (c 5) (some d5)) = H5 at z5 ⊢
    obtain ⟨s5, e5⟩ := z5
    refine ⟨y, rfl, fun r6 hr6 => ⟨r6, c 6, y, rfl, T.ec 6 (by decide), T.ef 6 (by decide) (by decide), upd_same, fun d6 hd6 hne6 => ⟨rfl, ?_⟩⟩⟩
    have z6 := mk_facts (f := fld 6) (y := y) hr6 hd6 hne6
    generalize upd (upd (upd H5 r6 (exo r6 (c 6) none)) d6 (exd d6 [(fld 6, y)])) r6 (exo r6 (c 6) (some d6)) = H6 at z6 ⊢
    obtain ⟨s6, e6⟩ := z6
    refine ⟨by show 7 ≤ sizeLine; decide, fun p1 n1 => ?_⟩
    have u1 : Same H6 (upd H6 p1 (.lst [.ref r0, .ref r1, .ref r2, .ref r3, .ref r4, .ref r5, .ref r6])) := same_upd n1
    have l1 : (upd H6 p1 (.lst [.ref r0, .ref r1, .ref r2, .ref r3, .ref r4, .ref r5, .ref r6])) p1 = some (.lst [.ref r0, .ref r1, .ref r2, .ref r3, .ref r4, .ref r5, .ref r6]) := upd_same
    generalize upd H6 p1 (.lst [.ref r0, .ref r1, .ref r2, .ref r3, .ref r4, .ref r5, .ref r6]) = G1 at u1 l1 ⊢
    refine ⟨_, rfl, ?_⟩
    refine ⟨y, rfl, fun r7 hr7 => ⟨r7, c 7, y, rfl, T.ec 7 (by decide), T.ef 7 (by decide) (by decide), upd_same, fun d7 hd7 hne7 => ⟨rfl, ?_⟩⟩⟩
    have z7 := mk_facts (f := fld 7) (y := y) hr7 hd7 hne7
    generalize upd (upd (upd G1 r7 (exo r7 (c 7) none)) d7 (exd d7 [(fld 7, y)])) r7 (exo r7 (c 7) (some d7)) = H7 at z7 ⊢
    obtain ⟨s7, e7⟩ := z7
    refine ⟨y, rfl, fun r8 hr8 => ⟨r8, c 8, y, rfl, T.ec 8 (by decide), T.ef 8 (by decide) (by decide), upd_same, fun d8 hd8 hne8 => ⟨rfl, ?_⟩⟩⟩
    have z8 := mk_facts (f := fld 8) (y := y) hr8 hd8 hne8
    generalize upd (upd (upd H7 r8 (exo r8 (c 8) none)) d8 (exd d8 [(fld 8, y)])) r8 (exo r8 (c 8) (some d8)) = H8 at z8 ⊢
    obtain ⟨s8, e8⟩ := z8
    refine ⟨y, rfl, fun r9 hr9 => ⟨r9, c 9, y, rfl, T.ec 9 (by decide), T.ef 9 (by decide) (by decide), upd_same, fun d9 hd9 hne9 => ⟨rfl, ?_⟩⟩⟩
    have z9 := mk_facts (f := fld 9) (y := y) hr9 hd9 hne9
    generalize upd (upd (upd H8 r9 (exo r9 (c 9) none)) d9 (exd d9 [(fld 9, y)])) r9 (exo r9 (c 9) (some d9)) = H9 at z9 ⊢
    obtain ⟨s9, e9⟩ := z9
    refine ⟨y, rfl, fun r10 hr10 => ⟨r10, c 10, y, rfl, T.ec 10 (by decide), T.ef 10 (by decide) (by decide), upd_same, fun d10 hd10 hne10 => ⟨rfl, ?_⟩⟩⟩
    have z10 := mk_facts (f := fld 10) (y := y) hr10 hd10 hne10
    generalize upd (upd (upd H9 r10 (exo r10 (c 10) none)) d10 (exd d10 [(fld 10, y)])) r10 (exo r10 (c 10) (some d10)) = H10 at z10 ⊢
    obtain ⟨s10, e10⟩ := z10
    refine ⟨y, rfl, fun r11 hr11 => ⟨r11, c 11, y, rfl, T.ec 11 (by decide), T.ef 11 (by decide) (by decide), upd_same, fun d11 hd11 hne11 => ⟨rfl, ?_⟩⟩⟩
    have z11 := mk_facts (f := fld 11) (y := y) hr11 hd11 hne11
    generalize upd (upd (upd H10 r11 (exo r11 (c 11) none)) d11 (exd d11 [(fld 11, y)])) r11 (exo r11 (c 11) (some d11)) = H11 at z11 ⊢
    obtain ⟨s11, e11⟩ := z11
    refine ⟨by show 5 ≤ sizeLine; decide, fun p2 n2 => ?_⟩
    have u2 : Same H11 (upd H11 p2 (.lst [.ref r7, .ref r8, .ref r9, .ref r10, .ref r11])) := same_upd n2
    have l2 : (upd H11 p2 (.lst [.ref r7, .ref r8, .ref r9, .ref r10, .ref r11])) p2 = some (.lst [.ref r7, .ref r8, .ref r9, .ref r10, .ref r11]) := upd_same
    generalize upd H11 p2 (.lst [.ref r7, .ref r8, .ref r9, .ref r10, .ref r11]) = G2 at u2 l2 ⊢
    have l1b := u2 _ _ (s11 _ _ (s10 _ _ (s9 _ _ (s8 _ _ (s7 _ _ l1)))))
    refine ⟨p1, p2, _, _, rfl, rfl, l1b, l2, by show 12 ≤ sizeLine; decide, fun p3 n3 => ?_⟩
    have u3 : Same G2 (upd G2 p3 (.lst ([.ref r0, .ref r1, .ref r2, .ref r3, .ref r4, .ref r5, .ref r6] ++ [.ref r7, .ref r8, .ref r9, .ref r10, .ref r11]))) := same_upd n3
    have l3 : (upd G2 p3 (.lst ([.ref r0, .ref r1, .ref r2, .ref r3, .ref r4, .ref r5, .ref r6] ++ [.ref r7, .ref r8, .ref r9, .ref r10, .ref r11]))) p3 = some (.lst ([.ref r0, .ref r1, .ref r2, .ref r3, .ref r4, .ref r5, .ref r6] ++ [.ref r7, .ref r8, .ref r9, .ref r10, .ref r11])) := upd_same
    generalize upd G2 p3 (.lst ([.ref r0, .ref r1, .ref r2, .ref r3, .ref r4, .ref r5, .ref r6] ++ [.ref r7, .ref r8, .ref r9, .ref r10, .ref r11])) = G3 at u3 l3 ⊢
    refine ⟨_, rfl, ?_⟩
    refine ⟨y, rfl, fun r12 hr12 => ⟨r12, c 12, y, rfl, T.ec 12 (by decide), T.ef 12 (by decide) (by decide), upd_same, fun d12 hd12 hne12 => ⟨rfl, ?_⟩⟩⟩
    have z12 := mk_facts (f := fld 12) (y := y) hr12 hd12 hne12
    generalize upd (upd (upd G3 r12 (exo r12 (c 12) none)) d12 (exd d12 [(fld 12, y)])) r12 (exo r12 (c 12) (some d12)) = H12 at z12 ⊢
    obtain ⟨s12, e12⟩ := z12
    refine ⟨y, rfl, fun r13 hr13 => ⟨r13, c 13, y, rfl, T.ec 13 (by decide), T.ef 13 (by decide) (by decide), upd_same, fun d13 hd13 hne13 => ⟨rfl, ?_⟩⟩⟩
    have z13 := mk_facts (f := fld 13) (y := y) hr13 hd13 hne13
    generalize upd (upd (upd H12 r13 (exo r13 (c 13) none)) d13 (exd d13 [(fld 13, y)])) r13 (exo r13 (c 13) (some d13)) = H13 at z13 ⊢
    obtain ⟨s13, e13⟩ := z13
    refine ⟨y, rfl, fun r14 hr14 => ⟨r14, c 14, y, rfl, T.ec 14 (by decide), T.ef 14 (by decide) (by decide), upd_same, fun d14 hd14 hne14 => ⟨rfl, ?_⟩⟩⟩
    have z14 := mk_facts (f := fld 14) (y := y) hr14 hd14 hne14
    generalize upd (upd (upd H13 r14 (exo r14 (c 14) none)) d14 (exd d14 [(fld 14, y)])) r14 (exo r14 (c 14) (some d14)) = H14 at z14 ⊢
    obtain ⟨s14, e14⟩ := z14
    refine ⟨y, rfl, fun r15 hr15 => ⟨r15, c 15, y, rfl, T.ec 15 (by decide), T.ef 15 (by decide) (by decide), upd_same, fun d15 hd15 hne15 => ⟨rfl, ?_⟩⟩⟩
    have z15 := mk_facts (f := fld 15) (y := y) hr15 hd15 hne15
    generalize upd (upd (upd H14 r15 (exo r15 (c 15) none)) d15 (exd d15 [(fld 15, y)])) r15 (exo r15 (c 15) (some d15)) = H15 at z15 ⊢
    obtain ⟨s15, e15⟩ := z15
    refine ⟨y, rfl, fun r16 hr16 => ⟨r16, c 16, y, rfl, T.ec 16 (by decide), T.ef 16 (by decide) (by decide), upd_same, fun d16 hd16 hne16 => ⟨rfl, ?_⟩⟩⟩
    have z16 := mk_facts (f := fld 16) (y := y) hr16 hd16 hne16
    generalize upd (upd (upd H15 r16 (exo r16 (c 16) none)) d16 (exd d16 [(fld 16, y)])) r16 (exo r16 (c 16) (some d16)) = H16 at z16 ⊢
    obtain ⟨s16, e16⟩ := z16
    refine ⟨by show 5 ≤ sizeLine; decide, fun p4 n4 => ?_⟩
    have u4 : Same H16 (upd H16 p4 (.lst [.ref r12, .ref r13, .ref r14, .ref r15, .ref r16])) := same_upd n4
    have l4 : (upd H16 p4 (.lst [.ref r12, .ref r13, .ref r14, .ref r15, .ref r16])) p4 = some (.lst [.ref r12, .ref r13, .ref r14, .ref r15, .ref r16]) := upd_same
    generalize upd H16 p4 (.lst [.ref r12, .ref r13, .ref r14, .ref r15, .ref r16]) = G4 at u4 l4 ⊢
    have l3b := u4 _ _ (s16 _ _ (s15 _ _ (s14 _ _ (s13 _ _ (s12 _ _ l3)))))
    refine ⟨p3, p4, _, _, rfl, rfl, l3b, l4, by show 17 ≤ sizeLine; decide, fun p5 n5 => ?_⟩
    show Q (.ref p5) (upd G4 p5 (.lst ([.ref r0, .ref r1, .ref r2, .ref r3, .ref r4, .ref r5, .ref r6] ++ [.ref r7, .ref r8, .ref r9, .ref r10, .ref r11] ++ [.ref r12, .ref r13, .ref r14, .ref r15, .ref r16])))
    have u5 : Same G4 (upd G4 p5 (.lst ([.ref r0, .ref r1, .ref r2, .ref r3, .ref r4, .ref r5, .ref r6] ++ [.ref r7, .ref r8, .ref r9, .ref r10, .ref r11] ++ [.ref r12, .ref r13, .ref r14, .ref r15, .ref r16]))) := same_upd n5
    have l5 : (upd G4 p5 (.lst ([.ref r0, .ref r1, .ref r2, .ref r3, .ref r4, .ref r5, .ref r6] ++ [.ref r7, .ref r8, .ref r9, .ref r10, .ref r11] ++ [.ref r12, .ref r13, .ref r14, .ref r15, .ref r16]))) p5 = some (.lst ([.ref r0, .ref r1, .ref r2, .ref r3, .ref r4, .ref r5, .ref r6] ++ [.ref r7, .ref r8, .ref r9, .ref r10, .ref r11] ++ [.ref r12, .ref r13, .ref r14, .ref r15, .ref r16])) := upd_same
    generalize upd G4 p5 (.lst ([.ref r0, .ref r1, .ref r2, .ref r3, .ref r4, .ref r5, .ref r6] ++ [.ref r7, .ref r8, .ref r9, .ref r10, .ref r11] ++ [.ref r12, .ref r13, .ref r14, .ref r15, .ref r16])) = G5 at u5 l5 ⊢
    have t16 : Same H16 G5 := u4.trans u5
    have t15 : Same H15 G5 := s16.trans t16
    have t14 : Same H14 G5 := s15.trans t15
    have t13 : Same H13 G5 := s14.trans t14
    have t12 : Same H12 G5 := s13.trans t13
    have t11 : Same H11 G5 := u2.trans (u3.trans (s12.trans t12))
    have t10 : Same H10 G5 := s11.trans t11
    have t9 : Same H9 G5 := s10.trans t10
    have t8 : Same H8 G5 := s9.trans t9
    have t7 : Same H7 G5 := s8.trans t8
    have t6 : Same H6 G5 := u1.trans (s7.trans t7)
    have t5 : Same H5 G5 := s6.trans t6
    have t4 : Same H4 G5 := s5.trans t5
    have t3 : Same H3 G5 := s4.trans t4
    have t2 : Same H2 G5 := s3.trans t3
    have t1 : Same H1 G5 := s2.trans t2
    have t0 : Same H0 G5 := s1.trans t1
    refine q G5 p5 [r0, r1, r2, r3, r4, r5, r6, r7, r8, r9, r10, r11, r12, r13, r14, r15, r16] (s0.trans t0) l5 ⟨rfl, ?_, ?_⟩
    · intro j r hj hr
      match j, hj, hr with
      | 0, _, hr => cases hr; exact t0 _ _ e0
      | 1, _, hr => cases hr; exact t1 _ _ e1
      | 2, _, hr => cases hr; exact t2 _ _ e2
      | 3, _, hr => cases hr; exact t3 _ _ e3
      | 4, _, hr => cases hr; exact t4 _ _ e4
    · intro j r h5 h17 hr
      match j, h5, h17, hr with
      | 5, _, _, hr => cases hr; exact e5.same t5
      | 6, _, _, hr => cases hr; exact e6.same t6
      | 7, _, _, hr => cases hr; exact e7.same t7
      | 8, _, _, hr => cases hr; exact e8.same t8
      | 9, _, _, hr => cases hr; exact e9.same t9
      | 10, _, _, hr => cases hr; exact e10.same t10
      | 11, _, _, hr => cases hr; exact e11.same t11
      | 12, _, _, hr => cases hr; exact e12.same t12
      | 13, _, _, hr => cases hr; exact e13.same t13
      | 14, _, _, hr => cases hr; exact e14.same t14
      | 15, _, _, hr => cases hr; exact e15.same t15
      | 16, _, _, hr => cases hr; exact e16.same t16
end
end Ehk
set_option Elab.async false
set_option linter.all false
set_option maxRecDepth 100000
set_option maxHeartbeats 8000000
namespace Ehk
open PySem PySem.Spec PyProof.Rows L2
/-- a comprehension over enumerate of a list -/
theorem lc_enum {K : PySem.W.Frag} {a : Addr} {xs : List V} {g : TG} {tt : TT} {te : TE} {vs : List Nat} {σ : L2.St} {H1 : Hp} {D : Addr} {Qd : Hp → Prop} (Pv : Nat → Hp → Prop) (h0 : Pv 0 (upd H1 D (.lst []))) (hl : ∀ i H, i ≤ xs.length → Pv i H → SqL K H a xs)
    (hs : ∀ i x H T, xs[i]? = some x → Pv i H → H T = none → g (.ref T) (wipe σ vs) (upd H T (.tup [.int (i : Nat), x])) fun σ2 H2 => wipe σ2 vs = wipe σ vs ∧ tt σ2 H2 fun b H3 =>
      if b = true then te σ2 H3 fun y H4 => ∃ acc, H4 D = some (.lst acc) ∧ acc.length < sizeLine ∧ Pv (i + 1) (upd H4 D (.lst (acc ++ [y]))) else Pv (i + 1) H3) (hd : ∀ H, Pv xs.length H → Qd H) :
    ∃ W : Nat → Nat → Hp → Prop, (∃ m, W 0 m (upd H1 D (.lst []))) ∧ ∀ i m H, W i m H →
      ((Ite K a).stop i H ∧ Qd H) ∨ ((Ite K a).go i H ∧ ∃ Nx : Hp → Prop, (∀ H', Nx H' → ∃ m', m' < m ∧ W (i + 1) m' H') ∧ ∀ x H', (Ite K a).yld i H x H' → g x (wipe σ vs) H' fun σ2 H2 => wipe σ2 vs = wipe σ vs ∧ tt σ2 H2 fun b H3 =>
        if b = true then te σ2 H3 fun y H4 => ∃ acc, H4 D = some (.lst acc) ∧ acc.length < sizeLine ∧ Nx (upd H4 D (.lst (acc ++ [y]))) else Nx H3) := by
  refine ⟨fun i m H => m = xs.length - i ∧ i ≤ xs.length ∧ Pv i H, ⟨xs.length, by simp, Nat.zero_le _, h0⟩, ?_⟩
  rintro i m H ⟨rfl, hi, p⟩
  have q := hl i H hi p
  by_cases lt : i < xs.length
  · refine .inr ⟨⟨xs, xs[i], q, by simp [lt]⟩, Pv (i + 1), fun H' p' => ⟨xs.length - (i + 1), by omega, rfl, lt, p'⟩, fun x H' y => ?_⟩
    obtain ⟨Tt, z, rfl, nT, rfl, f⟩ := y
    exact hs i z H Tt (f xs q) p nT
  · have e : i = xs.length := by omega
    subst e
    exact .inl ⟨⟨xs, q, Nat.le_refl _⟩, hd H p⟩
def bools (j : Nat) : List V := (List.range 17).map fun k => V.bl (decide (j = k))
/-- what the first n of them leave -/
def hit (j n : Nat) : List V := if j < n then [.int (j : Nat)] else []
theorem bools_at {j k : Nat} {v : V} (h : (bools j)[k]? = some v) : v = .bl (decide (j = k)) ∧ k < 17 := by
  unfold bools at h
  rw [List.getElem?_map] at h
  by_cases hk : k < 17
  · rw [List.getElem?_range hk] at h
    exact ⟨(Option.some.inj h).symm, hk⟩
  · rw [List.getElem?_eq_none (by simpa using hk)] at h
    cases h
section
variable {P : Program} {w : World} {K : PySem.W.Frag} {mg : Str → Option Value} {base : Heap} {cE : Addr} {c i : Nat → Addr} {fd : Nat → FuncData}
/-! ### _law_kinds -/
theorem scKinds : FnScope ["_law_e", "_law_some", "_law_k", "_law_so"] ["_law_e"] (defScope sKinds) := ⟨rfl, rfl, rfl, by decide +kernel, rfl, by decide +kernel, by decide +kernel⟩
def spKinds (c : Nat → Addr) : Sp := fun vs H Q _ => ∃ (a : Addr) (j : Nat) (d : Option Addr), vs = [.ref a] ∧ j < 17 ∧ Exn H a (c j) d ∧ ∀ H' p, Same H H' → H' p = some (.lst [.int (j : Nat)]) → Q (.ref p) H'
theorem ok_kinds {f : Addr} {fa : FuncData} {k : Nat} (F : Fun K "_law_kinds" "_law_kinds" sKinds f fa) (T : Txt K mg cE c i fd) : FnOk P w K mg base CX0 (k + 1) f fa ["_law_e"] (spKinds c) := by
  refine F.ok scKinds (fun vs H Q E h => ?_) (fun cdv A outer s H vs Q E hr h => ?_)
  · obtain ⟨a, j, d, rfl, _⟩ := h
    rfl
  · obtain ⟨a, j, d, rfl, hj, hx, q⟩ := h
    refine ⟨_, pss_cons (ps_set (i := 1) scKinds.nd rfl (.inl rfl) (pe_lst (pa_cons (pe_callB (call_isX T.eg) (by rfl) T.isi boot_isinstance (pa_cons (pv 0) (pa_cons (pe_glob (v := .ref (c 0)) (by rfl) T.g0 rfl) pa_nil)))
        (pa_cons (pe_callB (call_isX T.eg) (by rfl) T.isi boot_isinstance (pa_cons (pv 0) (pa_cons (pe_glob (v := .ref (c 1)) (by rfl) T.g1 rfl) pa_nil)))
        (pa_cons (pe_callB (call_isX T.eg) (by rfl) T.isi boot_isinstance (pa_cons (pv 0) (pa_cons (pe_glob (v := .ref (c 2)) (by rfl) T.g2 rfl) pa_nil)))
        pa_nil)))))
      (pss_cons (ps_set (i := 1) scKinds.nd rfl (.inl rfl) (pe_op op_cat (pv 1) (pe_lst (pa_cons (pe_callB (call_isX T.eg) (by rfl) T.isi boot_isinstance (pa_cons (pv 0) (pa_cons (pe_glob (v := .ref (c 3)) (by rfl) T.g3 rfl) pa_nil)))
        (pa_cons (pe_callB (call_isX T.eg) (by rfl) T.isi boot_isinstance (pa_cons (pv 0) (pa_cons (pe_glob (v := .ref (c 4)) (by rfl) T.g4 rfl) pa_nil)))
        (pa_cons (pe_callB (call_isX T.eg) (by rfl) T.isi boot_isinstance (pa_cons (pv 0) (pa_cons (pe_glob (v := .ref (c 5)) (by rfl) T.g5 rfl) pa_nil)))
        pa_nil))))))
      (pss_cons (ps_set (i := 1) scKinds.nd rfl (.inl rfl) (pe_op op_cat (pv 1) (pe_lst (pa_cons (pe_callB (call_isX T.eg) (by rfl) T.isi boot_isinstance (pa_cons (pv 0) (pa_cons (pe_glob (v := .ref (c 6)) (by rfl) T.g6 rfl) pa_nil)))
        (pa_cons (pe_callB (call_isX T.eg) (by rfl) T.isi boot_isinstance (pa_cons (pv 0) (pa_cons (pe_glob (v := .ref (c 7)) (by rfl) T.g7 rfl) pa_nil)))
        (pa_cons (pe_callB (call_isX T.eg) (by rfl) T.isi boot_isinstance (pa_cons (pv 0) (pa_cons (pe_glob (v := .ref (c 8)) (by rfl) T.g8 rfl) pa_nil)))
        pa_nil))))))
      (pss_cons (ps_set (i := 1) scKinds.nd rfl (.inl rfl) (pe_op op_cat (pv 1) (pe_lst (pa_cons (pe_callB (call_isX T.eg) (by rfl) T.isi boot_isinstance (pa_cons (pv 0) (pa_cons (pe_glob (v := .ref (c 9)) (by rfl) T.g9 rfl) pa_nil)))
        (pa_cons (pe_callB (call_isX T.eg) (by rfl) T.isi boot_isinstance (pa_cons (pv 0) (pa_cons (pe_glob (v := .ref (c 10)) (by rfl) T.g10 rfl) pa_nil)))
        (pa_cons (pe_callB (call_isX T.eg) (by rfl) T.isi boot_isinstance (pa_cons (pv 0) (pa_cons (pe_glob (v := .ref (c 11)) (by rfl) T.g11 rfl) pa_nil)))
        pa_nil))))))
      (pss_cons (ps_set (i := 1) scKinds.nd rfl (.inl rfl) (pe_op op_cat (pv 1) (pe_lst (pa_cons (pe_callB (call_isX T.eg) (by rfl) T.isi boot_isinstance (pa_cons (pv 0) (pa_cons (pe_glob (v := .ref (c 12)) (by rfl) T.g12 rfl) pa_nil)))
        (pa_cons (pe_callB (call_isX T.eg) (by rfl) T.isi boot_isinstance (pa_cons (pv 0) (pa_cons (pe_glob (v := .ref (c 13)) (by rfl) T.g13 rfl) pa_nil)))
        (pa_cons (pe_callB (call_isX T.eg) (by rfl) T.isi boot_isinstance (pa_cons (pv 0) (pa_cons (pe_glob (v := .ref (c 14)) (by rfl) T.g14 rfl) pa_nil)))
        pa_nil))))))
      (pss_cons (ps_set (i := 1) scKinds.nd rfl (.inl rfl) (pe_op op_cat (pv 1) (pe_lst (pa_cons (pe_callB (call_isX T.eg) (by rfl) T.isi boot_isinstance (pa_cons (pv 0) (pa_cons (pe_glob (v := .ref (c 15)) (by rfl) T.g15 rfl) pa_nil)))
        (pa_cons (pe_callB (call_isX T.eg) (by rfl) T.isi boot_isinstance (pa_cons (pv 0) (pa_cons (pe_glob (v := .ref (c 16)) (by rfl) T.g16 rfl) pa_nil)))
        pa_nil)))))
      (pss_one (ps_ret (pe_lc (own := [("_law_k", 2), ("_law_so", 3)]) (g := gTup K 2 (gCons (gName 2) (gCons (gName 3) gNil))) (tt := tB (tVar 3)) rfl scKinds.nd (pi_enum (by rfl) T.enu (pa_cons (pv 1) pa_nil))
        (blkOk_by (N := ["_law_e", "_law_some", "_law_k", "_law_so"]) (sc := defScope sKinds) (by decide +kernel))
        (fun _ _ _ _ _ => pg_tup rfl (pgs_cons (pg_name (i := 2) scKinds.nd rfl (.inl rfl)) (pgs_cons (pg_name (i := 3) scKinds.nd rfl (.inl rfl)) pgs_nil)))
        (fun _ _ _ _ _ => pts_one (pt_val (pv 3))) (fun _ _ _ _ _ => pv 2))))))))), ?_⟩
    refine ⟨_, rfl, a, c j, d, .ref (c 0), _, _, rfl, hx, T.ec j hj, fun u h => h, T.kit j 0 hj (by decide), ?_⟩
    refine ⟨_, rfl, a, c j, d, .ref (c 1), _, _, rfl, hx, T.ec j hj, fun u h => h, T.kit j 1 hj (by decide), ?_⟩
    refine ⟨_, rfl, a, c j, d, .ref (c 2), _, _, rfl, hx, T.ec j hj, fun u h => h, T.kit j 2 hj (by decide), ?_⟩
    refine ⟨by show 3 ≤ sizeLine; decide, fun p1 n1 => ?_⟩
    have u1 : Same H (upd H p1 (.lst [.bl (decide (j = 0)), .bl (decide (j = 1)), .bl (decide (j = 2))])) := same_upd n1
    have l1 : (upd H p1 (.lst [.bl (decide (j = 0)), .bl (decide (j = 1)), .bl (decide (j = 2))])) p1 = some (.lst [.bl (decide (j = 0)), .bl (decide (j = 1)), .bl (decide (j = 2))]) := upd_same
    generalize upd H p1 (.lst [.bl (decide (j = 0)), .bl (decide (j = 1)), .bl (decide (j = 2))]) = G1 at u1 l1 ⊢
    replace hx := hx.same u1
    refine ⟨_, rfl, ?_⟩
    refine ⟨_, rfl, a, c j, d, .ref (c 3), _, _, rfl, hx, T.ec j hj, fun u h => h, T.kit j 3 hj (by decide), ?_⟩
    refine ⟨_, rfl, a, c j, d, .ref (c 4), _, _, rfl, hx, T.ec j hj, fun u h => h, T.kit j 4 hj (by decide), ?_⟩
    refine ⟨_, rfl, a, c j, d, .ref (c 5), _, _, rfl, hx, T.ec j hj, fun u h => h, T.kit j 5 hj (by decide), ?_⟩
    refine ⟨by show 3 ≤ sizeLine; decide, fun p2 n2 => ?_⟩
    have u2 : Same G1 (upd G1 p2 (.lst [.bl (decide (j = 3)), .bl (decide (j = 4)), .bl (decide (j = 5))])) := same_upd n2
    have l2 : (upd G1 p2 (.lst [.bl (decide (j = 3)), .bl (decide (j = 4)), .bl (decide (j = 5))])) p2 = some (.lst [.bl (decide (j = 3)), .bl (decide (j = 4)), .bl (decide (j = 5))]) := upd_same
    generalize upd G1 p2 (.lst [.bl (decide (j = 3)), .bl (decide (j = 4)), .bl (decide (j = 5))]) = G2 at u2 l2 ⊢
    replace hx := hx.same u2
    have lp2 := u2 _ _ l1
    refine ⟨p1, p2, _, _, rfl, rfl, lp2, l2, by show 6 ≤ sizeLine; decide, fun p3 n3 => ?_⟩
    have u3 : Same G2 (upd G2 p3 (.lst ([.bl (decide (j = 0)), .bl (decide (j = 1)), .bl (decide (j = 2))] ++ [.bl (decide (j = 3)), .bl (decide (j = 4)), .bl (decide (j = 5))]))) := same_upd n3
    have l3 : (upd G2 p3 (.lst ([.bl (decide (j = 0)), .bl (decide (j = 1)), .bl (decide (j = 2))] ++ [.bl (decide (j = 3)), .bl (decide (j = 4)), .bl (decide (j = 5))]))) p3 = some (.lst [.bl (decide (j = 0)), .bl (decide (j = 1)), .bl (decide (j = 2)), .bl (decide (j = 3)), .bl (decide (j = 4)), .bl (decide (j = 5))]) := upd_same
    generalize upd G2 p3 (.lst ([.bl (decide (j = 0)), .bl (decide (j = 1)), .bl (decide (j = 2))] ++ [.bl (decide (j = 3)), .bl (decide (j = 4)), .bl (decide (j = 5))])) = G3 at u3 l3 ⊢
    replace hx := hx.same u3
    refine ⟨_, rfl, ?_⟩
    refine ⟨_, rfl, a, c j, d, .ref (c 6), _, _, rfl, hx, T.ec j hj, fun u h => h, T.kit j 6 hj (by decide), ?_⟩
    refine ⟨_, rfl, a, c j, d, .ref (c 7), _, _, rfl, hx, T.ec j hj, fun u h => h, T.kit j 7 hj (by decide), ?_⟩
    refine ⟨_, rfl, a, c j, d, .ref (c 8), _, _, rfl, hx, T.ec j hj, fun u h => h, T.kit j 8 hj (by decide), ?_⟩
    refine ⟨by show 3 ≤ sizeLine; decide, fun p4 n4 => ?_⟩
    have u4 : Same G3 (upd G3 p4 (.lst [.bl (decide (j = 6)), .bl (decide (j = 7)), .bl (decide (j = 8))])) := same_upd n4
    have l4 : (upd G3 p4 (.lst [.bl (decide (j = 6)), .bl (decide (j = 7)), .bl (decide (j = 8))])) p4 = some (.lst [.bl (decide (j = 6)), .bl (decide (j = 7)), .bl (decide (j = 8))]) := upd_same
    generalize upd G3 p4 (.lst [.bl (decide (j = 6)), .bl (decide (j = 7)), .bl (decide (j = 8))]) = G4 at u4 l4 ⊢
    replace hx := hx.same u4
    have lp4 := u4 _ _ l3
    refine ⟨p3, p4, _, _, rfl, rfl, lp4, l4, by show 9 ≤ sizeLine; decide, fun p5 n5 => ?_⟩
    have u5 : Same G4 (upd G4 p5 (.lst ([.bl (decide (j = 0)), .bl (decide (j = 1)), .bl (decide (j = 2)), .bl (decide (j = 3)), .bl (decide (j = 4)), .bl (decide (j = 5))] ++ [.bl (decide (j = 6)), .bl (decide (j = 7)), .bl (decide (j = 8))]))) := same_upd n5
    have l5 : (upd G4 p5 (.lst ([.bl (decide (j = 0)), .bl (decide (j = 1)), .bl (decide (j = 2)), .bl (decide (j = 3)), .bl (decide (j = 4)), .bl (decide (j = 5))] ++ [.bl (decide (j = 6)), .bl (decide (j = 7)), .bl (decide (j = 8))]))) p5 = some (.lst [.bl (decide (j = 0)), .bl (decide (j = 1)), .bl (decide (j = 2)), .bl (decide (j = 3)), .bl (decide (j = 4)), .bl (decide (j = 5)), .bl (decide (j = 6)), .bl (decide (j = 7)), .bl (decide (j = 8))]) := upd_same
    generalize upd G4 p5 (.lst ([.bl (decide (j = 0)), .bl (decide (j = 1)), .bl (decide (j = 2)), .bl (decide (j = 3)), .bl (decide (j = 4)), .bl (decide (j = 5))] ++ [.bl (decide (j = 6)), .bl (decide (j = 7)), .bl (decide (j = 8))])) = G5 at u5 l5 ⊢
    replace hx := hx.same u5
    refine ⟨_, rfl, ?_⟩
    refine ⟨_, rfl, a, c j, d, .ref (c 9), _, _, rfl, hx, T.ec j hj, fun u h => h, T.kit j 9 hj (by decide), ?_⟩
    refine ⟨_, rfl, a, c j, d, .ref (c 10), _, _, rfl, hx, T.ec j hj, fun u h => h, T.kit j 10 hj (by decide), ?_⟩
    refine ⟨_, rfl, a, c j, d, .ref (c 11), _, _, rfl, hx, T.ec j hj, fun u h => h, T.kit j 11 hj (by decide), ?_⟩
    refine ⟨by show 3 ≤ sizeLine; decide, fun p6 n6 => ?_⟩
    have u6 : Same G5 (upd G5 p6 (.lst [.bl (decide (j = 9)), .bl (decide (j = 10)), .bl (decide (j = 11))])) := same_upd n6
    have l6 : (upd G5 p6 (.lst [.bl (decide (j = 9)), .bl (decide (j = 10)), .bl (decide (j = 11))])) p6 = some (.lst [.bl (decide (j = 9)), .bl (decide (j = 10)), .bl (decide (j = 11))]) := upd_same
    generalize upd G5 p6 (.lst [.bl (decide (j = 9)), .bl (decide (j = 10)), .bl (decide (j = 11))]) = G6 at u6 l6 ⊢
    replace hx := hx.same u6
    have lp6 := u6 _ _ l5
    refine ⟨p5, p6, _, _, rfl, rfl, lp6, l6, by show 12 ≤ sizeLine; decide, fun p7 n7 => ?_⟩
    have u7 : Same G6 (upd G6 p7 (.lst ([.bl (decide (j = 0)), .bl (decide (j = 1)), .bl (decide (j = 2)), .bl (decide (j = 3)), .bl (decide (j = 4)), .bl (decide (j = 5)), .bl (decide (j = 6)), .bl (decide (j = 7)), .bl (decide (j = 8))] ++ [.bl (decide (j = 9)), .bl (decide (j = 10)), .bl (decide (j = 11))]))) := same_upd n7
    have l7 : (upd G6 p7 (.lst ([.bl (decide (j = 0)), .bl (decide (j = 1)), .bl (decide (j = 2)), .bl (decide (j = 3)), .bl (decide (j = 4)), .bl (decide (j = 5)), .bl (decide (j = 6)), .bl (decide (j = 7)), .bl (decide (j = 8))] ++ [.bl (decide (j = 9)), .bl (decide (j = 10)), .bl (decide (j = 11))]))) p7 = some (.lst [.bl (decide (j = 0)), .bl (decide (j = 1)), .bl (decide (j = 2)), .bl (decide (j = 3)), .bl (decide (j = 4)), .bl (decide (j = 5)), .bl (decide (j = 6)), .bl (decide (j = 7)), .bl (decide (j = 8)), .bl (decide (j = 9)), .bl (decide (j = 10)), .bl (decide (j = 11))]) := upd_same
    generalize upd G6 p7 (.lst ([.bl (decide (j = 0)), .bl (decide (j = 1)), .bl (decide (j = 2)), .bl (decide (j = 3)), .bl (decide (j = 4)), .bl (decide (j = 5)), .bl (decide (j = 6)), .bl (decide (j = 7)), .bl (decide (j = 8))] ++ [.bl (decide (j = 9)), .bl (decide (j = 10)), .bl (decide (j = 11))])) = G7 at u7 l7 ⊢
    replace hx := hx.same u7
    refine ⟨_, rfl, ?_⟩
    refine ⟨_, rfl, a, c j, d, .ref (c 12), _, _, rfl, hx, T.ec j hj, fun u h => h, T.kit j 12 hj (by decide), ?_⟩
    refine ⟨_, rfl, a, c j, d, .ref (c 13), _, _, rfl, hx, T.ec j hj, fun u h => h, T.kit j 13 hj (by decide), ?_⟩
    refine ⟨_, rfl, a, c j, d, .ref (c 14), _, _, rfl, hx, T.ec j hj, fun u h => h, T.kit j 14 hj (by decide), ?_⟩
    refine ⟨by show 3 ≤ sizeLine; decide, fun p8 n8 => ?_⟩
    have u8 : Same G7 (upd G7 p8 (.lst [.bl (decide (j = 12)), .bl (decide (j = 13)), .bl (decide (j = 14))])) := same_upd n8
    have l8 : (upd G7 p8 (.lst [.bl (decide (j = 12)), .bl (decide (j = 13)), .bl (decide (j = 14))])) p8 = some (.lst [.bl (decide (j = 12)), .bl (decide (j = 13)), .bl (decide (j = 14))]) := upd_same
    generalize upd G7 p8 (.lst [.bl (decide (j = 12)), .bl (decide (j = 13)), .bl (decide (j = 14))]) = G8 at u8 l8 ⊢
    replace hx := hx.same u8
    have lp8 := u8 _ _ l7
    refine ⟨p7, p8, _, _, rfl, rfl, lp8, l8, by show 15 ≤ sizeLine; decide, fun p9 n9 => ?_⟩
    have u9 : Same G8 (upd G8 p9 (.lst ([.bl (decide (j = 0)), .bl (decide (j = 1)), .bl (decide (j = 2)), .bl (decide (j = 3)), .bl (decide (j = 4)), .bl (decide (j = 5)), .bl (decide (j = 6)), .bl (decide (j = 7)), .bl (decide (j = 8)), .bl (decide (j = 9)), .bl (decide (j = 10)), .bl (decide (j = 11))] ++ [.bl (decide (j = 12)), .bl (decide (j = 13)), .bl (decide (j = 14))]))) := same_upd n9
    have l9 : (upd G8 p9 (.lst ([.bl (decide (j = 0)), .bl (decide (j = 1)), .bl (decide (j = 2)), .bl (decide (j = 3)), .bl (decide (j = 4)), .bl (decide (j = 5)), .bl (decide (j = 6)), .bl (decide (j = 7)), .bl (decide (j = 8)), .bl (decide (j = 9)), .bl (decide (j = 10)), .bl (decide (j = 11))] ++ [.bl (decide (j = 12)), .bl (decide (j = 13)), .bl (decide (j = 14))]))) p9 = some (.lst [.bl (decide (j = 0)), .bl (decide (j = 1)), .bl (decide (j = 2)), .bl (decide (j = 3)), .bl (decide (j = 4)), .bl (decide (j = 5)), .bl (decide (j = 6)), .bl (decide (j = 7)), .bl (decide (j = 8)), .bl (decide (j = 9)), .bl (decide (j = 10)), .bl (decide (j = 11)), .bl (decide (j = 12)), .bl (decide (j = 13)), .bl (decide (j = 14))]) := upd_same
    generalize upd G8 p9 (.lst ([.bl (decide (j = 0)), .bl (decide (j = 1)), .bl (decide (j = 2)), .bl (decide (j = 3)), .bl (decide (j = 4)), .bl (decide (j = 5)), .bl (decide (j = 6)), .bl (decide (j = 7)), .bl (decide (j = 8)), .bl (decide (j = 9)), .bl (decide (j = 10)), .bl (decide (j = 11))] ++ [.bl (decide (j = 12)), .bl (decide (j = 13)), .bl (decide (j = 14))])) = G9 at u9 l9 ⊢
    replace hx := hx.same u9
    refine ⟨_, rfl, ?_⟩
    refine ⟨_, rfl, a, c j, d, .ref (c 15), _, _, rfl, hx, T.ec j hj, fun u h => h, T.kit j 15 hj (by decide), ?_⟩
    refine ⟨_, rfl, a, c j, d, .ref (c 16), _, _, rfl, hx, T.ec j hj, fun u h => h, T.kit j 16 hj (by decide), ?_⟩
    refine ⟨by show 2 ≤ sizeLine; decide, fun p10 n10 => ?_⟩
    have u10 : Same G9 (upd G9 p10 (.lst [.bl (decide (j = 15)), .bl (decide (j = 16))])) := same_upd n10
    have l10 : (upd G9 p10 (.lst [.bl (decide (j = 15)), .bl (decide (j = 16))])) p10 = some (.lst [.bl (decide (j = 15)), .bl (decide (j = 16))]) := upd_same
    generalize upd G9 p10 (.lst [.bl (decide (j = 15)), .bl (decide (j = 16))]) = G10 at u10 l10 ⊢
    replace hx := hx.same u10
    have lp10 := u10 _ _ l9
    refine ⟨p9, p10, _, _, rfl, rfl, lp10, l10, by show 17 ≤ sizeLine; decide, fun p11 n11 => ?_⟩
    have u11 : Same G10 (upd G10 p11 (.lst ([.bl (decide (j = 0)), .bl (decide (j = 1)), .bl (decide (j = 2)), .bl (decide (j = 3)), .bl (decide (j = 4)), .bl (decide (j = 5)), .bl (decide (j = 6)), .bl (decide (j = 7)), .bl (decide (j = 8)), .bl (decide (j = 9)), .bl (decide (j = 10)), .bl (decide (j = 11)), .bl (decide (j = 12)), .bl (decide (j = 13)), .bl (decide (j = 14))] ++ [.bl (decide (j = 15)), .bl (decide (j = 16))]))) := same_upd n11
    have l11 : (upd G10 p11 (.lst ([.bl (decide (j = 0)), .bl (decide (j = 1)), .bl (decide (j = 2)), .bl (decide (j = 3)), .bl (decide (j = 4)), .bl (decide (j = 5)), .bl (decide (j = 6)), .bl (decide (j = 7)), .bl (decide (j = 8)), .bl (decide (j = 9)), .bl (decide (j = 10)), .bl (decide (j = 11)), .bl (decide (j = 12)), .bl (decide (j = 13)), .bl (decide (j = 14))] ++ [.bl (decide (j = 15)), .bl (decide (j = 16))]))) p11 = some (.lst [.bl (decide (j = 0)), .bl (decide (j = 1)), .bl (decide (j = 2)), .bl (decide (j = 3)), .bl (decide (j = 4)), .bl (decide (j = 5)), .bl (decide (j = 6)), .bl (decide (j = 7)), .bl (decide (j = 8)), .bl (decide (j = 9)), .bl (decide (j = 10)), .bl (decide (j = 11)), .bl (decide (j = 12)), .bl (decide (j = 13)), .bl (decide (j = 14)), .bl (decide (j = 15)), .bl (decide (j = 16))]) := upd_same
    generalize upd G10 p11 (.lst ([.bl (decide (j = 0)), .bl (decide (j = 1)), .bl (decide (j = 2)), .bl (decide (j = 3)), .bl (decide (j = 4)), .bl (decide (j = 5)), .bl (decide (j = 6)), .bl (decide (j = 7)), .bl (decide (j = 8)), .bl (decide (j = 9)), .bl (decide (j = 10)), .bl (decide (j = 11)), .bl (decide (j = 12)), .bl (decide (j = 13)), .bl (decide (j = 14))] ++ [.bl (decide (j = 15)), .bl (decide (j = 16))])) = G11 at u11 l11 ⊢
    replace hx := hx.same u11
    have lb : G11 p11 = some (.lst (bools j)) := l11
    have uu : Same H G11 := u1.trans (u2.trans (u3.trans (u4.trans (u5.trans (u6.trans (u7.trans (u8.trans (u9.trans (u10.trans (u11))))))))))
    refine ⟨_, rfl, p11, bools j, rfl, SqL.of lb, fun D hD => lc_enum (K := K) (a := p11) (xs := bools j) (fun n H' => Same G11 H' ∧ H' D = some (.lst (hit j n))) ⟨same_upd hD, upd_same⟩ (fun n H' _ z => SqL.of (z.1 _ _ lb)) ?_ ?_⟩
    · rintro n v H' Tt hv ⟨z1, z2⟩ nT
      obtain ⟨rfl, hn⟩ := bools_at hv
      have nDT : D ≠ Tt := ne_of_none z2 nT
      refine ⟨Tt, _, rfl, SqT.of upd_same, rfl, _, _, rfl, _, _, rfl, rfl, rfl, _, rfl, _, rfl, ?_⟩
      have e1 : (upd H' Tt (.tup [.int (n : Nat), .bl (decide (j = n))])) D = some (.lst (hit j n)) := by rw [upd_ne nDT]; exact z2
      have s1 : Same H' (upd H' Tt (.tup [.int (n : Nat), .bl (decide (j = n))])) := same_upd nT
      by_cases e : j = n
      · subst e
        rw [decide_eq_true rfl]
        rw [decide_eq_true rfl] at e1 s1
        refine iteT ⟨_, rfl, _, e1, ?_, ?_⟩
        · unfold hit; rw [if_neg (Nat.lt_irrefl _)]; decide
        · refine ⟨fun b o hb => ?_, ?_⟩
          · have nb : b ≠ D := fun z => by rw [z, hD] at hb; cases hb
            rw [upd_ne nb]
            exact s1 _ _ (z1 _ _ hb)
          · rw [upd_same]
            unfold hit
            rw [if_neg (Nat.lt_irrefl _), if_pos (Nat.lt_succ_self _)]
            rfl
      · rw [decide_eq_false e]
        rw [decide_eq_false e] at e1 s1
        refine iteF ⟨z1.trans s1, ?_⟩
        rw [e1]
        unfold hit
        by_cases l : j < n
        · rw [if_pos l, if_pos (Nat.lt_succ_of_lt l)]
        · rw [if_neg l, if_neg (by omega)]
    · rintro H' ⟨z1, z2⟩
      refine q H' D (uu.trans z1) ?_
      rw [z2]
      unfold hit
      rw [show (bools j).length = 17 from by simp [bools], if_pos hj]
end
end Ehk
set_option Elab.async false
set_option linter.all false
set_option maxRecDepth 100000
set_option maxHeartbeats 8000000
namespace Ehk
open PySem PySem.Spec PyProof.Rows L2
theorem look1 (f : Str) (y : V) : List.lookup f [(f, y)] = some y := by simp [List.lookup]
section
variable {P : Program} {w : World} {K : PySem.W.Frag} {mg : Str → Option Value} {base : Heap} {cE : Addr} {c i : Nat → Addr} {fd : Nat → FuncData}
/-! ### _law_families -/
theorem scFam : FnScope ["_law_e", "_law_some"] ["_law_e"] (defScope sFam) := ⟨rfl, rfl, rfl, by decide +kernel, rfl, by decide +kernel, by decide +kernel⟩
def spFam (K : PySem.W.Frag) (cE : Addr) : Sp := fun vs H Q _ => ∃ (a C : Addr) (d : Option Addr) (b1 b2 b3 b4 : Bool), vs = [.ref a] ∧ Exn H a C d ∧ Ec K C ∧ PySem.W.kitOne K (.ref C) (.ref cE) = some b1 ∧ PySem.W.kitOne K (.ref C) (.type "ValueError") = some b2 ∧
  PySem.W.kitOne K (.ref C) (.type "KeyError") = some b3 ∧ PySem.W.kitOne K (.ref C) (.type "IndexError") = some b4 ∧ ∀ H' p, Same H H' → H' p = some (.lst [.bl b1, .bl b2, .bl b3, .bl b4]) → Q (.ref p) H'
theorem ok_fam {f : Addr} {fa : FuncData} {k : Nat} (F : Fun K "_law_families" "_law_families" sFam f fa) (T : Txt K mg cE c i fd) : FnOk P w K mg base CX0 (k + 1) f fa ["_law_e"] (spFam K cE) := by
  refine F.ok scFam (fun vs H Q E h => ?_) (fun cdv A outer s H vs Q E hr h => ?_)
  · obtain ⟨a, C, d, b1, b2, b3, b4, rfl, _⟩ := h
    rfl
  · obtain ⟨a, C, d, b1, b2, b3, b4, rfl, hx, ec, q1, q2, q3, q4, q⟩ := h
    refine ⟨_, pss_cons (ps_set (i := 1) scFam.nd rfl (.inl rfl) (pe_lst (pa_cons (pe_callB (call_isX T.eg) (by rfl) T.isi boot_isinstance (pa_cons (pv 0) (pa_cons (pe_glob (v := .ref cE) (by rfl) T.gE rfl) pa_nil)))
        (pa_cons (pe_callB (call_isX T.eg) (by rfl) T.isi boot_isinstance (pa_cons (pv 0) (pa_cons (pe_bltn (v := .ty "ValueError") (u := .type "ValueError") (by rfl) T.ve (by decide +kernel) rfl) pa_nil)))
        (pa_cons (pe_callB (call_isX T.eg) (by rfl) T.isi boot_isinstance (pa_cons (pv 0) (pa_cons (pe_bltn (v := .ty "KeyError") (u := .type "KeyError") (by rfl) T.ke (by decide +kernel) rfl) pa_nil))) pa_nil)))))
      (pss_one (ps_ret (pe_op op_cat (pv 1) (pe_lst (pa_cons (pe_callB (call_isX T.eg) (by rfl) T.isi boot_isinstance (pa_cons (pv 0) (pa_cons (pe_bltn (v := .ty "IndexError") (u := .type "IndexError") (by rfl) T.ie (by decide +kernel) rfl) pa_nil))) pa_nil))))), ?_⟩
    refine ⟨_, rfl, a, C, d, .ref cE, _, _, rfl, hx, ec, fun u h => h, q1, ?_⟩
    refine ⟨_, rfl, a, C, d, .ty "ValueError", _, _, rfl, hx, ec, fun u h => h, q2, ?_⟩
    refine ⟨_, rfl, a, C, d, .ty "KeyError", _, _, rfl, hx, ec, fun u h => h, q3, ?_⟩
    refine ⟨by show 3 ≤ sizeLine; decide, fun p1 n1 => ?_⟩
    have u1 : Same H (upd H p1 (.lst [.bl b1, .bl b2, .bl b3])) := same_upd n1
    have l1 : (upd H p1 (.lst [.bl b1, .bl b2, .bl b3])) p1 = some (.lst [.bl b1, .bl b2, .bl b3]) := upd_same
    generalize upd H p1 (.lst [.bl b1, .bl b2, .bl b3]) = G1 at u1 l1 ⊢
    refine ⟨_, rfl, _, rfl, a, C, d, .ty "IndexError", _, _, rfl, hx.same u1, ec, fun u h => h, q4, ?_⟩
    refine ⟨by show 1 ≤ sizeLine; decide, fun p2 n2 => ?_⟩
    refine ⟨p1, p2, _, _, rfl, rfl, same_upd n2 _ _ l1, upd_same, by show 4 ≤ sizeLine; decide, fun p3 n3 => ?_⟩
    exact q _ p3 (u1.trans ((same_upd n2).trans (same_upd n3))) upd_same
/-! ### _law_attributes -/
theorem scAttr : FnScope ["_law_some", "_law_found"] ["_law_some"] (defScope sAttr) := ⟨rfl, rfl, rfl, by decide +kernel, rfl, by decide +kernel, by decide +kernel⟩
def spAttr (c : Nat → Addr) : Sp := fun vs H Q _ => ∃ (p : Addr) (rs : List Addr) (y : V), vs = [.ref p] ∧ H p = some (.lst (rs.map V.ref)) ∧ Errs c H rs y ∧ ∀ H' q, Same H H' → q ≠ sysModules → H q = none → H' q = some (.lst (List.replicate 12 y)) → Q (.ref q) H'
theorem Errs.get {c : Nat → Addr} {H : Hp} {rs : List Addr} {y : V} (e : Errs c H rs y) (j : Nat) (h5 : 5 ≤ j) (h17 : j < 17) : ∃ r d, atI (rs.map V.ref) (j : Int) = some (.ref r) ∧ H r = some (exo r (c j) (some d)) ∧ H d = some (exd d [(fld j, y)]) := by
  have hj : j < rs.length := by rw [e.1]; exact h17
  obtain ⟨d, h1, h2⟩ := e.2.2 j rs[j] h5 h17 (List.getElem?_eq_getElem hj)
  exact ⟨rs[j], d, atI_nat (by rw [List.getElem?_map, List.getElem?_eq_getElem hj]; rfl), h1, h2⟩
theorem ok_attr {f : Addr} {fa : FuncData} {k : Nat} (F : Fun K "_law_attributes" "_law_attributes" sAttr f fa) (T : Txt K mg cE c i fd) : FnOk P w K mg base CX0 (k + 1) f fa ["_law_some"] (spAttr c) := by
  refine F.ok scAttr (fun vs H Q E h => ?_) (fun cdv A outer s H vs Q E hr h => ?_)
  · obtain ⟨p, rs, y, rfl, _⟩ := h
    rfl
  · obtain ⟨p, rs, y, rfl, hp, he, q⟩ := h
    refine ⟨_, pss_cons (ps_set (i := 1) scAttr.nd rfl (.inl rfl) (pe_lst (pa_cons (pe_fldE (pe_ix ix_list (pv 0) pe_int (fun _ _ => rfl)))
        (pa_cons (pe_fldE (pe_ix ix_list (pv 0) pe_int (fun _ _ => rfl)))
        (pa_cons (pe_fldE (pe_ix ix_list (pv 0) pe_int (fun _ _ => rfl)))
        (pa_cons (pe_fldE (pe_ix ix_list (pv 0) pe_int (fun _ _ => rfl)))
        (pa_cons (pe_fldE (pe_ix ix_list (pv 0) pe_int (fun _ _ => rfl)))
        (pa_cons (pe_fldE (pe_ix ix_list (pv 0) pe_int (fun _ _ => rfl)))
        pa_nil))))))))
      (pss_cons (ps_set (i := 1) scAttr.nd rfl (.inl rfl) (pe_op op_cat (pv 1) (pe_lst (pa_cons (pe_fldE (pe_ix ix_list (pv 0) pe_int (fun _ _ => rfl)))
        (pa_cons (pe_fldE (pe_ix ix_list (pv 0) pe_int (fun _ _ => rfl)))
        (pa_cons (pe_fldE (pe_ix ix_list (pv 0) pe_int (fun _ _ => rfl)))
        (pa_cons (pe_fldE (pe_ix ix_list (pv 0) pe_int (fun _ _ => rfl)))
        (pa_cons (pe_fldE (pe_ix ix_list (pv 0) pe_int (fun _ _ => rfl)))
        pa_nil))))))))
      (pss_one (ps_ret (pe_op op_catB (pv 1) (pe_lst (pa_cons (pe_fldE (pe_ix ix_list (pv 0) pe_int (fun _ _ => rfl)))
        pa_nil)))))), ?_⟩
    obtain ⟨r5, d5, a5, h5, k5⟩ := he.get 5 (by decide) (by decide)
    refine ⟨_, rfl, p, _, 5, .ref r5, rfl, rfl, SqL.of hp, a5, r5, c 5, d5, _, y, rfl, h5, k5, T.ec 5 (by decide), T.ef 5 (by decide) (by decide), look1 _ _, ?_⟩
    obtain ⟨r6, d6, a6, h6, k6⟩ := he.get 6 (by decide) (by decide)
    refine ⟨_, rfl, p, _, 6, .ref r6, rfl, rfl, SqL.of hp, a6, r6, c 6, d6, _, y, rfl, h6, k6, T.ec 6 (by decide), T.ef 6 (by decide) (by decide), look1 _ _, ?_⟩
    obtain ⟨r7, d7, a7, h7, k7⟩ := he.get 7 (by decide) (by decide)
    refine ⟨_, rfl, p, _, 7, .ref r7, rfl, rfl, SqL.of hp, a7, r7, c 7, d7, _, y, rfl, h7, k7, T.ec 7 (by decide), T.ef 7 (by decide) (by decide), look1 _ _, ?_⟩
    obtain ⟨r8, d8, a8, h8, k8⟩ := he.get 8 (by decide) (by decide)
    refine ⟨_, rfl, p, _, 8, .ref r8, rfl, rfl, SqL.of hp, a8, r8, c 8, d8, _, y, rfl, h8, k8, T.ec 8 (by decide), T.ef 8 (by decide) (by decide), look1 _ _, ?_⟩
    obtain ⟨r9, d9, a9, h9, k9⟩ := he.get 9 (by decide) (by decide)
    refine ⟨_, rfl, p, _, 9, .ref r9, rfl, rfl, SqL.of hp, a9, r9, c 9, d9, _, y, rfl, h9, k9, T.ec 9 (by decide), T.ef 9 (by decide) (by decide), look1 _ _, ?_⟩
    obtain ⟨r10, d10, a10, h10, k10⟩ := he.get 10 (by decide) (by decide)
    refine ⟨_, rfl, p, _, 10, .ref r10, rfl, rfl, SqL.of hp, a10, r10, c 10, d10, _, y, rfl, h10, k10, T.ec 10 (by decide), T.ef 10 (by decide) (by decide), look1 _ _, ?_⟩
    refine ⟨by show 6 ≤ sizeLine; decide, fun p1 n1 => ?_⟩
    have u1 : Same H (upd H p1 (.lst [y, y, y, y, y, y])) := same_upd n1
    have l1 : (upd H p1 (.lst [y, y, y, y, y, y])) p1 = some (.lst [y, y, y, y, y, y]) := upd_same
    generalize upd H p1 (.lst [y, y, y, y, y, y]) = G1 at u1 l1 ⊢
    replace he := he.same u1
    replace hp := u1 _ _ hp
    refine ⟨_, rfl, ?_⟩
    obtain ⟨r11, d11, a11, h11, k11⟩ := he.get 11 (by decide) (by decide)
    refine ⟨_, rfl, p, _, 11, .ref r11, rfl, rfl, SqL.of hp, a11, r11, c 11, d11, _, y, rfl, h11, k11, T.ec 11 (by decide), T.ef 11 (by decide) (by decide), look1 _ _, ?_⟩
    obtain ⟨r12, d12, a12, h12, k12⟩ := he.get 12 (by decide) (by decide)
    refine ⟨_, rfl, p, _, 12, .ref r12, rfl, rfl, SqL.of hp, a12, r12, c 12, d12, _, y, rfl, h12, k12, T.ec 12 (by decide), T.ef 12 (by decide) (by decide), look1 _ _, ?_⟩
    obtain ⟨r13, d13, a13, h13, k13⟩ := he.get 13 (by decide) (by decide)
    refine ⟨_, rfl, p, _, 13, .ref r13, rfl, rfl, SqL.of hp, a13, r13, c 13, d13, _, y, rfl, h13, k13, T.ec 13 (by decide), T.ef 13 (by decide) (by decide), look1 _ _, ?_⟩
    obtain ⟨r14, d14, a14, h14, k14⟩ := he.get 14 (by decide) (by decide)
    refine ⟨_, rfl, p, _, 14, .ref r14, rfl, rfl, SqL.of hp, a14, r14, c 14, d14, _, y, rfl, h14, k14, T.ec 14 (by decide), T.ef 14 (by decide) (by decide), look1 _ _, ?_⟩
    obtain ⟨r15, d15, a15, h15, k15⟩ := he.get 15 (by decide) (by decide)
    refine ⟨_, rfl, p, _, 15, .ref r15, rfl, rfl, SqL.of hp, a15, r15, c 15, d15, _, y, rfl, h15, k15, T.ec 15 (by decide), T.ef 15 (by decide) (by decide), look1 _ _, ?_⟩
    refine ⟨by show 5 ≤ sizeLine; decide, fun p2 n2 => ?_⟩
    have u2 : Same G1 (upd G1 p2 (.lst [y, y, y, y, y])) := same_upd n2
    have l2 : (upd G1 p2 (.lst [y, y, y, y, y])) p2 = some (.lst [y, y, y, y, y]) := upd_same
    generalize upd G1 p2 (.lst [y, y, y, y, y]) = G2 at u2 l2 ⊢
    replace he := he.same u2
    replace hp := u2 _ _ hp
    refine ⟨p1, p2, _, _, rfl, rfl, u2 _ _ l1, l2, by show 11 ≤ sizeLine; decide, fun p3 n3 => ?_⟩
    have u3 : Same G2 (upd G2 p3 (.lst ([y, y, y, y, y, y] ++ [y, y, y, y, y]))) := same_upd n3
    have l3 : (upd G2 p3 (.lst ([y, y, y, y, y, y] ++ [y, y, y, y, y]))) p3 = some (.lst ([y, y, y, y, y, y] ++ [y, y, y, y, y])) := upd_same
    generalize upd G2 p3 (.lst ([y, y, y, y, y, y] ++ [y, y, y, y, y])) = G3 at u3 l3 ⊢
    replace he := he.same u3
    replace hp := u3 _ _ hp
    refine ⟨_, rfl, ?_⟩
    obtain ⟨r16, d16, a16, h16, k16⟩ := he.get 16 (by decide) (by decide)
    refine ⟨_, rfl, p, _, 16, .ref r16, rfl, rfl, SqL.of hp, a16, r16, c 16, d16, _, y, rfl, h16, k16, T.ec 16 (by decide), T.ef 16 (by decide) (by decide), look1 _ _, ?_⟩
    refine ⟨by show 1 ≤ sizeLine; decide, fun p4 n4 => ?_⟩
    have u4 : Same G3 (upd G3 p4 (.lst [y])) := same_upd n4
    have l4 : (upd G3 p4 (.lst [y])) p4 = some (.lst [y]) := upd_same
    generalize upd G3 p4 (.lst [y]) = G4 at u4 l4 ⊢
    replace he := he.same u4
    replace hp := u4 _ _ hp
    refine ⟨p3, p4, _, _, rfl, rfl, u4 _ _ l3, l4, by show 12 ≤ sizeLine; decide, fun p5 n5 b5 => ?_⟩
    exact q _ p5 (u1.trans (u2.trans (u3.trans (u4.trans (same_upd n5))))) b5 ((u1.trans (u2.trans (u3.trans u4))).free n5) upd_same
/-! ### _law_by_keywords -/
theorem scKw : FnScope ["_law_x", "_law_some"] ["_law_x"] (defScope sKw) := ⟨rfl, rfl, rfl, by decide +kernel, rfl, by decide +kernel, by decide +kernel⟩
def spKw : Sp := fun vs H Q _ => ∃ (y : V), vs = [y] ∧ ∀ H' q, Same H H' → q ≠ sysModules → H q = none → H' q = some (.lst (List.replicate 12 y)) → Q (.ref q) H'
theorem ok_kw {f : Addr} {fa : FuncData} (F : Fun K "_law_by_keywords" "_law_by_keywords" sKw f fa) (T : Txt K mg cE c i fd) : FnOk P w K mg base CX0 3 f fa ["_law_x"] spKw := by
  refine F.ok scKw (fun vs H Q E h => ?_) (fun cdv A outer s H vs Q E hr h => ?_)
  · obtain ⟨y, rfl, _⟩ := h
    rfl
  · obtain ⟨y, rfl, q⟩ := h
    have ini := fun j h5 h17 => T.ini P w base j h5 h17
    refine ⟨_, pss_cons (ps_set (i := 1) scKw.nd rfl (.inl rfl) (pe_lst (pa_cons (pe_fldE (pe_mkEK (T.ec 5 (by decide)) (T.iC 5 (by decide) (by decide)) (T.iT 5 (by decide) (by decide)) (ini 5 (by decide) (by decide)) hr pass0 rfl T.g5 (pv 0) (T.bK 5 (by decide) (by decide))))
        (pa_cons (pe_fldE (pe_mkEK (T.ec 6 (by decide)) (T.iC 6 (by decide) (by decide)) (T.iT 6 (by decide) (by decide)) (ini 6 (by decide) (by decide)) hr pass0 rfl T.g6 (pv 0) (T.bK 6 (by decide) (by decide))))
        (pa_cons (pe_fldE (pe_mkEK (T.ec 7 (by decide)) (T.iC 7 (by decide) (by decide)) (T.iT 7 (by decide) (by decide)) (ini 7 (by decide) (by decide)) hr pass0 rfl T.g7 (pv 0) (T.bK 7 (by decide) (by decide))))
        pa_nil)))))
      (pss_cons (ps_set (i := 1) scKw.nd rfl (.inl rfl) (pe_op op_cat (pv 1) (pe_lst (pa_cons (pe_fldE (pe_mkEK (T.ec 8 (by decide)) (T.iC 8 (by decide) (by decide)) (T.iT 8 (by decide) (by decide)) (ini 8 (by decide) (by decide)) hr pass0 rfl T.g8 (pv 0) (T.bK 8 (by decide) (by decide))))
        (pa_cons (pe_fldE (pe_mkEK (T.ec 9 (by decide)) (T.iC 9 (by decide) (by decide)) (T.iT 9 (by decide) (by decide)) (ini 9 (by decide) (by decide)) hr pass0 rfl T.g9 (pv 0) (T.bK 9 (by decide) (by decide))))
        (pa_cons (pe_fldE (pe_mkEK (T.ec 10 (by decide)) (T.iC 10 (by decide) (by decide)) (T.iT 10 (by decide) (by decide)) (ini 10 (by decide) (by decide)) hr pass0 rfl T.g10 (pv 0) (T.bK 10 (by decide) (by decide))))
        pa_nil))))))
      (pss_cons (ps_set (i := 1) scKw.nd rfl (.inl rfl) (pe_op op_cat (pv 1) (pe_lst (pa_cons (pe_fldE (pe_mkEK (T.ec 11 (by decide)) (T.iC 11 (by decide) (by decide)) (T.iT 11 (by decide) (by decide)) (ini 11 (by decide) (by decide)) hr pass0 rfl T.g11 (pv 0) (T.bK 11 (by decide) (by decide))))
        (pa_cons (pe_fldE (pe_mkEK (T.ec 12 (by decide)) (T.iC 12 (by decide) (by decide)) (T.iT 12 (by decide) (by decide)) (ini 12 (by decide) (by decide)) hr pass0 rfl T.g12 (pv 0) (T.bK 12 (by decide) (by decide))))
        pa_nil)))))
      (pss_cons (ps_set (i := 1) scKw.nd rfl (.inl rfl) (pe_op op_cat (pv 1) (pe_lst (pa_cons (pe_fldE (pe_mkEK (T.ec 13 (by decide)) (T.iC 13 (by decide) (by decide)) (T.iT 13 (by decide) (by decide)) (ini 13 (by decide) (by decide)) hr pass0 rfl T.g13 (pv 0) (T.bK 13 (by decide) (by decide))))
        (pa_cons (pe_fldE (pe_mkEK (T.ec 14 (by decide)) (T.iC 14 (by decide) (by decide)) (T.iT 14 (by decide) (by decide)) (ini 14 (by decide) (by decide)) hr pass0 rfl T.g14 (pv 0) (T.bK 14 (by decide) (by decide))))
        (pa_cons (pe_fldE (pe_mkEK (T.ec 15 (by decide)) (T.iC 15 (by decide) (by decide)) (T.iT 15 (by decide) (by decide)) (ini 15 (by decide) (by decide)) hr pass0 rfl T.g15 (pv 0) (T.bK 15 (by decide) (by decide))))
        pa_nil))))))
      (pss_one (ps_ret (pe_op op_catB (pv 1) (pe_lst (pa_cons (pe_fldE (pe_mkEK (T.ec 16 (by decide)) (T.iC 16 (by decide) (by decide)) (T.iT 16 (by decide) (by decide)) (ini 16 (by decide) (by decide)) hr pass0 rfl T.g16 (pv 0) (T.bK 16 (by decide) (by decide))))
        pa_nil)))))))), ?_⟩
    refine ⟨y, rfl, fun r5 hr5 => ⟨r5, c 5, y, rfl, T.ec 5 (by decide), T.ef 5 (by decide) (by decide), upd_same, fun d5 hd5 hne5 => ⟨rfl, r5, c 5, d5, [(fld 5, y)], y, rfl, upd_same, (by rw [upd_ne hne5, upd_same]), T.ec 5 (by decide), T.ef 5 (by decide) (by decide), look1 _ _, ?_⟩⟩⟩
    have z5 := mk_facts (f := fld 5) (y := y) hr5 hd5 hne5
    generalize upd (upd (upd H r5 (exo r5 (c 5) none)) d5 (exd d5 [(fld 5, y)])) r5 (exo r5 (c 5) (some d5)) = H5 at z5 ⊢
    have s5 := z5.1
    refine ⟨y, rfl, fun r6 hr6 => ⟨r6, c 6, y, rfl, T.ec 6 (by decide), T.ef 6 (by decide) (by decide), upd_same, fun d6 hd6 hne6 => ⟨rfl, r6, c 6, d6, [(fld 6, y)], y, rfl, upd_same, (by rw [upd_ne hne6, upd_same]), T.ec 6 (by decide), T.ef 6 (by decide) (by decide), look1 _ _, ?_⟩⟩⟩
    have z6 := mk_facts (f := fld 6) (y := y) hr6 hd6 hne6
    generalize upd (upd (upd H5 r6 (exo r6 (c 6) none)) d6 (exd d6 [(fld 6, y)])) r6 (exo r6 (c 6) (some d6)) = H6 at z6 ⊢
    have s6 := z6.1
    refine ⟨y, rfl, fun r7 hr7 => ⟨r7, c 7, y, rfl, T.ec 7 (by decide), T.ef 7 (by decide) (by decide), upd_same, fun d7 hd7 hne7 => ⟨rfl, r7, c 7, d7, [(fld 7, y)], y, rfl, upd_same, (by rw [upd_ne hne7, upd_same]), T.ec 7 (by decide), T.ef 7 (by decide) (by decide), look1 _ _, ?_⟩⟩⟩
    have z7 := mk_facts (f := fld 7) (y := y) hr7 hd7 hne7
    generalize upd (upd (upd H6 r7 (exo r7 (c 7) none)) d7 (exd d7 [(fld 7, y)])) r7 (exo r7 (c 7) (some d7)) = H7 at z7 ⊢
    have s7 := z7.1
    refine ⟨by show 3 ≤ sizeLine; decide, fun p1 n1 => ?_⟩
    have u1 : Same H7 (upd H7 p1 (.lst [y, y, y])) := same_upd n1
    have l1 : (upd H7 p1 (.lst [y, y, y])) p1 = some (.lst [y, y, y]) := upd_same
    generalize upd H7 p1 (.lst [y, y, y]) = G1 at u1 l1 ⊢
    refine ⟨_, rfl, ?_⟩
    refine ⟨y, rfl, fun r8 hr8 => ⟨r8, c 8, y, rfl, T.ec 8 (by decide), T.ef 8 (by decide) (by decide), upd_same, fun d8 hd8 hne8 => ⟨rfl, r8, c 8, d8, [(fld 8, y)], y, rfl, upd_same, (by rw [upd_ne hne8, upd_same]), T.ec 8 (by decide), T.ef 8 (by decide) (by decide), look1 _ _, ?_⟩⟩⟩
    have z8 := mk_facts (f := fld 8) (y := y) hr8 hd8 hne8
    generalize upd (upd (upd G1 r8 (exo r8 (c 8) none)) d8 (exd d8 [(fld 8, y)])) r8 (exo r8 (c 8) (some d8)) = H8 at z8 ⊢
    have s8 := z8.1
    refine ⟨y, rfl, fun r9 hr9 => ⟨r9, c 9, y, rfl, T.ec 9 (by decide), T.ef 9 (by decide) (by decide), upd_same, fun d9 hd9 hne9 => ⟨rfl, r9, c 9, d9, [(fld 9, y)], y, rfl, upd_same, (by rw [upd_ne hne9, upd_same]), T.ec 9 (by decide), T.ef 9 (by decide) (by decide), look1 _ _, ?_⟩⟩⟩
    have z9 := mk_facts (f := fld 9) (y := y) hr9 hd9 hne9
    generalize upd (upd (upd H8 r9 (exo r9 (c 9) none)) d9 (exd d9 [(fld 9, y)])) r9 (exo r9 (c 9) (some d9)) = H9 at z9 ⊢
    have s9 := z9.1
    refine ⟨y, rfl, fun r10 hr10 => ⟨r10, c 10, y, rfl, T.ec 10 (by decide), T.ef 10 (by decide) (by decide), upd_same, fun d10 hd10 hne10 => ⟨rfl, r10, c 10, d10, [(fld 10, y)], y, rfl, upd_same, (by rw [upd_ne hne10, upd_same]), T.ec 10 (by decide), T.ef 10 (by decide) (by decide), look1 _ _, ?_⟩⟩⟩
    have z10 := mk_facts (f := fld 10) (y := y) hr10 hd10 hne10
    generalize upd (upd (upd H9 r10 (exo r10 (c 10) none)) d10 (exd d10 [(fld 10, y)])) r10 (exo r10 (c 10) (some d10)) = H10 at z10 ⊢
    have s10 := z10.1
    refine ⟨by show 3 ≤ sizeLine; decide, fun p2 n2 => ?_⟩
    have u2 : Same H10 (upd H10 p2 (.lst [y, y, y])) := same_upd n2
    have l2 : (upd H10 p2 (.lst [y, y, y])) p2 = some (.lst [y, y, y]) := upd_same
    generalize upd H10 p2 (.lst [y, y, y]) = G2 at u2 l2 ⊢
    have lp2 := (u2 _ _ (s10 _ _ (s9 _ _ (s8 _ _ l1))))
    refine ⟨p1, p2, _, _, rfl, rfl, lp2, l2, by show 6 ≤ sizeLine; decide, fun p3 n3 => ?_⟩
    have u3 : Same G2 (upd G2 p3 (.lst ([y, y, y] ++ [y, y, y]))) := same_upd n3
    have l3 : (upd G2 p3 (.lst ([y, y, y] ++ [y, y, y]))) p3 = some (.lst ([y, y, y] ++ [y, y, y])) := upd_same
    generalize upd G2 p3 (.lst ([y, y, y] ++ [y, y, y])) = G3 at u3 l3 ⊢
    refine ⟨_, rfl, ?_⟩
    refine ⟨y, rfl, fun r11 hr11 => ⟨r11, c 11, y, rfl, T.ec 11 (by decide), T.ef 11 (by decide) (by decide), upd_same, fun d11 hd11 hne11 => ⟨rfl, r11, c 11, d11, [(fld 11, y)], y, rfl, upd_same, (by rw [upd_ne hne11, upd_same]), T.ec 11 (by decide), T.ef 11 (by decide) (by decide), look1 _ _, ?_⟩⟩⟩
    have z11 := mk_facts (f := fld 11) (y := y) hr11 hd11 hne11
    generalize upd (upd (upd G3 r11 (exo r11 (c 11) none)) d11 (exd d11 [(fld 11, y)])) r11 (exo r11 (c 11) (some d11)) = H11 at z11 ⊢
    have s11 := z11.1
    refine ⟨y, rfl, fun r12 hr12 => ⟨r12, c 12, y, rfl, T.ec 12 (by decide), T.ef 12 (by decide) (by decide), upd_same, fun d12 hd12 hne12 => ⟨rfl, r12, c 12, d12, [(fld 12, y)], y, rfl, upd_same, (by rw [upd_ne hne12, upd_same]), T.ec 12 (by decide), T.ef 12 (by decide) (by decide), look1 _ _, ?_⟩⟩⟩
    have z12 := mk_facts (f := fld 12) (y := y) hr12 hd12 hne12
    generalize upd (upd (upd H11 r12 (exo r12 (c 12) none)) d12 (exd d12 [(fld 12, y)])) r12 (exo r12 (c 12) (some d12)) = H12 at z12 ⊢
    have s12 := z12.1
    refine ⟨by show 2 ≤ sizeLine; decide, fun p4 n4 => ?_⟩
    have u4 : Same H12 (upd H12 p4 (.lst [y, y])) := same_upd n4
    have l4 : (upd H12 p4 (.lst [y, y])) p4 = some (.lst [y, y]) := upd_same
    generalize upd H12 p4 (.lst [y, y]) = G4 at u4 l4 ⊢
    have lp4 := (u4 _ _ (s12 _ _ (s11 _ _ l3)))
    refine ⟨p3, p4, _, _, rfl, rfl, lp4, l4, by show 8 ≤ sizeLine; decide, fun p5 n5 => ?_⟩
    have u5 : Same G4 (upd G4 p5 (.lst (([y, y, y] ++ [y, y, y]) ++ [y, y]))) := same_upd n5
    have l5 : (upd G4 p5 (.lst (([y, y, y] ++ [y, y, y]) ++ [y, y]))) p5 = some (.lst (([y, y, y] ++ [y, y, y]) ++ [y, y])) := upd_same
    generalize upd G4 p5 (.lst (([y, y, y] ++ [y, y, y]) ++ [y, y])) = G5 at u5 l5 ⊢
    refine ⟨_, rfl, ?_⟩
    refine ⟨y, rfl, fun r13 hr13 => ⟨r13, c 13, y, rfl, T.ec 13 (by decide), T.ef 13 (by decide) (by decide), upd_same, fun d13 hd13 hne13 => ⟨rfl, r13, c 13, d13, [(fld 13, y)], y, rfl, upd_same, (by rw [upd_ne hne13, upd_same]), T.ec 13 (by decide), T.ef 13 (by decide) (by decide), look1 _ _, ?_⟩⟩⟩
    have z13 := mk_facts (f := fld 13) (y := y) hr13 hd13 hne13
    generalize upd (upd (upd G5 r13 (exo r13 (c 13) none)) d13 (exd d13 [(fld 13, y)])) r13 (exo r13 (c 13) (some d13)) = H13 at z13 ⊢
    have s13 := z13.1
    refine ⟨y, rfl, fun r14 hr14 => ⟨r14, c 14, y, rfl, T.ec 14 (by decide), T.ef 14 (by decide) (by decide), upd_same, fun d14 hd14 hne14 => ⟨rfl, r14, c 14, d14, [(fld 14, y)], y, rfl, upd_same, (by rw [upd_ne hne14, upd_same]), T.ec 14 (by decide), T.ef 14 (by decide) (by decide), look1 _ _, ?_⟩⟩⟩
    have z14 := mk_facts (f := fld 14) (y := y) hr14 hd14 hne14
    generalize upd (upd (upd H13 r14 (exo r14 (c 14) none)) d14 (exd d14 [(fld 14, y)])) r14 (exo r14 (c 14) (some d14)) = H14 at z14 ⊢
    have s14 := z14.1
    refine ⟨y, rfl, fun r15 hr15 => ⟨r15, c 15, y, rfl, T.ec 15 (by decide), T.ef 15 (by decide) (by decide), upd_same, fun d15 hd15 hne15 => ⟨rfl, r15, c 15, d15, [(fld 15, y)], y, rfl, upd_same, (by rw [upd_ne hne15, upd_same]), T.ec 15 (by decide), T.ef 15 (by decide) (by decide), look1 _ _, ?_⟩⟩⟩
    have z15 := mk_facts (f := fld 15) (y := y) hr15 hd15 hne15
    generalize upd (upd (upd H14 r15 (exo r15 (c 15) none)) d15 (exd d15 [(fld 15, y)])) r15 (exo r15 (c 15) (some d15)) = H15 at z15 ⊢
    have s15 := z15.1
    refine ⟨by show 3 ≤ sizeLine; decide, fun p6 n6 => ?_⟩
    have u6 : Same H15 (upd H15 p6 (.lst [y, y, y])) := same_upd n6
    have l6 : (upd H15 p6 (.lst [y, y, y])) p6 = some (.lst [y, y, y]) := upd_same
    generalize upd H15 p6 (.lst [y, y, y]) = G6 at u6 l6 ⊢
    have lp6 := (u6 _ _ (s15 _ _ (s14 _ _ (s13 _ _ l5))))
    refine ⟨p5, p6, _, _, rfl, rfl, lp6, l6, by show 11 ≤ sizeLine; decide, fun p7 n7 => ?_⟩
    have u7 : Same G6 (upd G6 p7 (.lst ((([y, y, y] ++ [y, y, y]) ++ [y, y]) ++ [y, y, y]))) := same_upd n7
    have l7 : (upd G6 p7 (.lst ((([y, y, y] ++ [y, y, y]) ++ [y, y]) ++ [y, y, y]))) p7 = some (.lst ((([y, y, y] ++ [y, y, y]) ++ [y, y]) ++ [y, y, y])) := upd_same
    generalize upd G6 p7 (.lst ((([y, y, y] ++ [y, y, y]) ++ [y, y]) ++ [y, y, y])) = G7 at u7 l7 ⊢
    refine ⟨_, rfl, ?_⟩
    refine ⟨y, rfl, fun r16 hr16 => ⟨r16, c 16, y, rfl, T.ec 16 (by decide), T.ef 16 (by decide) (by decide), upd_same, fun d16 hd16 hne16 => ⟨rfl, r16, c 16, d16, [(fld 16, y)], y, rfl, upd_same, (by rw [upd_ne hne16, upd_same]), T.ec 16 (by decide), T.ef 16 (by decide) (by decide), look1 _ _, ?_⟩⟩⟩
    have z16 := mk_facts (f := fld 16) (y := y) hr16 hd16 hne16
    generalize upd (upd (upd G7 r16 (exo r16 (c 16) none)) d16 (exd d16 [(fld 16, y)])) r16 (exo r16 (c 16) (some d16)) = H16 at z16 ⊢
    have s16 := z16.1
    refine ⟨by show 1 ≤ sizeLine; decide, fun p8 n8 => ?_⟩
    have u8 : Same H16 (upd H16 p8 (.lst [y])) := same_upd n8
    have l8 : (upd H16 p8 (.lst [y])) p8 = some (.lst [y]) := upd_same
    generalize upd H16 p8 (.lst [y]) = G8 at u8 l8 ⊢
    have lp8 := (u8 _ _ (s16 _ _ l7))
    refine ⟨p7, p8, _, _, rfl, rfl, lp8, l8, by show 12 ≤ sizeLine; decide, fun p9 n9 b9 => ?_⟩
    have uu : Same H G8 := s5.trans (s6.trans (s7.trans (u1.trans (s8.trans (s9.trans (s10.trans (u2.trans (u3.trans (s11.trans (s12.trans (u4.trans (u5.trans (s13.trans (s14.trans (s15.trans (u6.trans (u7.trans (s16.trans (u8)))))))))))))))))))
    exact q _ p9 (uu.trans (same_upd n9)) b9 (uu.free n9) upd_same
end
end Ehk
set_option Elab.async false
set_option linter.all false
set_option maxRecDepth 100000
set_option maxHeartbeats 8000000
namespace Ehk
open PySem PySem.Spec PyProof.Rows L2
/-- a list that is no deck and no module table -/
def Nn (p c : Addr) : Addr → Prop := fun a => a ≠ sysModules ∧ a ≠ p ∧ a ≠ c
theorem Rp.kp {K : PySem.W.Frag} {p c : Addr} {m : Nat} {H H' : Hp} {v : V} {d : PyData} (h : Rp K (Nn p c) H v d) (hd : Deck H p c m) (k : Kp p c H H') : Rp K (Nn p c) H' v d := by
  obtain ⟨ns, st, n, h1, h2, _⟩ := hd
  refine Rp.imp (fun a xs n s => ⟨k.seqL n.2.1 n.2.2 s, n⟩) (fun a xs s => ?_) (fun a s => ?_) d v h
  · rcases s with (s | ⟨o, s⟩) | s
    · exact .inl (.inl (k _ _ (ne_of s h1 (fun z => by cases z)) (ne_of s h2 (fun z => by cases z)) s))
    · exact .inl (.inr ⟨o, k _ _ (ne_of s h1 (fun z => by cases z)) (ne_of s h2 (fun z => by cases z)) s⟩)
    · exact .inr s
  · exact k _ _ (ne_of s h1 (fun z => by cases z)) (ne_of s h2 (fun z => by cases z)) s
/-- small data that is shown -/
def Smal (K : PySem.W.Frag) (p c : Addr) (H : Hp) (v : V) : Prop := ∃ d, Rp K (Nn p c) H v d ∧ fine d = true ∧ cap d ≤ 1000 ∧ d.depth ≤ 5
theorem cut_abc {r : Int} (h0 : 0 ≤ r) (h1 : r < 4) : fine (.str (cutS "abc" none (some r))) = true ∧ cap (.str (cutS "abc" none (some r))) ≤ 1000 ∧ PyData.depth (.str (cutS "abc" none (some r))) ≤ 5 := by
  have e : r = 0 ∨ r = 1 ∨ r = 2 ∨ r = 3 := by omega
  rcases e with rfl | rfl | rfl | rfl <;> exact ⟨by decide +kernel, by decide +kernel, by simp [PyData.depth]⟩
theorem int_small {n : Int} (h : n.natAbs < 2000) : fine (.int n) = true := by
  simp only [fine]
  exact decide_eq_true (by omega)
section
variable {P : Program} {w : World} {K : PySem.W.Frag} {mg : Str → Option Value} {base : Heap}
/-! ### _law_argument -/
theorem scArg : FnScope ["_law_deck_here", "_law_whole", "_law_some"] ["_law_deck_here"] (defScope sArg) := ⟨rfl, rfl, rfl, by decide +kernel, rfl, by decide +kernel, by decide +kernel⟩
def spArg (K : PySem.W.Frag) : Sp := fun vs H Q _ => ∃ (p c : Addr) (m : Nat), vs = [.ref p] ∧ Deck H p c m ∧ m < 1000 ∧ ∀ H' v, Kp p c H H' → Deck H' p c (m + 3) → Smal K p c H' v → Q v H'
theorem ok_arg {f fD fP : Addr} {fa fdD fdP : FuncData} (F : Fun K "_law_argument" "_law_argument" sArg f fa) (FD : Fun K "_law_draw" "_law_draw" sDraw fD fdD) (bD : Binds K fdD ["_law_deck_here", "_law_many"] []) (gD : mg "_law_draw" = some (.ref fD))
    (FP : Fun K "_law_pick" "_law_pick" sPick fP fdP) (bP : Binds K fdP ["_law_deck_here", "_law_some"] []) (gP : mg "_law_pick" = some (.ref fP)) (ml : mg "len" = none) : FnOk P w K mg base CX0 3 f fa ["_law_deck_here"] (spArg K) := by
  have GD : FnOk P w K mg base CX0 1 fD fdD ["_law_deck_here", "_law_many"] spDraw := ok_draw FD
  have GP : FnOk P w K mg base CX0 2 fP fdP ["_law_deck_here", "_law_some"] (spPick K) := ok_pick FP FD bD gD ml
  refine F.ok scArg (fun vs H Q E h => ?_) (fun cdv A outer s H vs Q E hr h => ?_)
  · obtain ⟨p, c, m, rfl, _⟩ := h
    rfl
  · obtain ⟨p, c, m, rfl, hd, hm, q⟩ := h
    have hr1 : Room 1 _ := hr.mono (by decide)
    refine ⟨_, pss_cons (ps_set (i := 1) scArg.nd rfl (.inl rfl) (pe_call GD hr1 (by rfl) gD FD.kp bD .nil pass0 (pa_cons (pv 0) (pa_cons pe_int pa_nil))))
      (pss_cons (ps_set (i := 2) scArg.nd rfl (.inl rfl) (pe_lst (pa_cons (pv 1) (pa_cons pe_int (pa_cons (pe_un un_neg (pv 1)) (pa_cons (pe_slice sl_str pe_str po_none (po_some (pe_call GD hr1 (by rfl) gD FD.kp bD .nil pass0 (pa_cons (pv 0) (pa_cons pe_int pa_nil))))) (pa_cons pe_non (pa_cons (pe_tup pa_nil) (pa_cons (pe_tup (pa_cons (pv 1) pa_nil)) (pa_cons (pe_tup (pa_cons pe_str (pa_cons (pe_tup (pa_cons (pv 1) (pa_cons pe_int pa_nil))) pa_nil))) (pa_cons (pe_tup (pa_cons (pe_tup (pa_cons pe_int (pa_cons (pe_tup pa_nil) pa_nil))) pa_nil)) pa_nil)))))))))))
      (pss_cons (ps_set (i := 2) scArg.nd rfl (.inl rfl) (pe_op op_cat (pv 2) (pe_lst (pa_cons (pe_tup (pa_cons pe_str (pa_cons pe_str (pa_cons (pe_tup (pa_cons pe_int (pa_cons pe_int pa_nil))) pa_nil)))) (pa_cons (pe_lstB (pa_cons (pv 1) pa_nil)) (pa_cons pe_dnewK (pa_cons pe_bl (pa_cons (pe_tup (pa_cons pe_str (pa_cons (pe_tup pa_nil) pa_nil))) pa_nil))))))))
      (pss_one (ps_ret (pe_call GP hr (by rfl) gP FP.kp bP .nil pass0 (pa_cons (pv 0) (pa_cons (pe_op op_cat (pv 2) (pe_lst (pa_cons (pe_tup (pa_cons (pe_tup (pa_cons pe_int (pa_cons (pe_tup (pa_cons (pv 1) (pa_cons (pv 1) pa_nil))) pa_nil))) (pa_cons pe_int pa_nil))) pa_nil))) pa_nil))))))), ?_⟩
    refine ⟨_, rfl, p, c, m, 1000, rfl, hd, by omega, by decide, by decide, fun Ha wh ka da w0 w1 => ?_⟩
    refine ⟨_, rfl, ?_⟩
    refine ⟨_, rfl, wh, rfl, ?_⟩
    refine ⟨_, rfl, p, c, m + 1, 4, rfl, da, by omega, by decide, by decide, fun Hb r kb db r0 r1 => ⟨r, rfl, _, rfl, by decide, ?_⟩⟩
    refine ⟨by show 0 ≤ sizeLine; decide, fun t5 n_t5 => ?_⟩
    have u_t5 : Same Hb (upd Hb t5 (.tup [])) := same_upd n_t5
    have l_t5 : (upd Hb t5 (.tup [])) t5 = some (.tup []) := upd_same
    generalize upd Hb t5 (.tup []) = H_t5 at u_t5 l_t5 ⊢
    refine ⟨_, rfl, ?_⟩
    refine ⟨by show 1 ≤ sizeLine; decide, fun t6 n_t6 => ?_⟩
    have u_t6 : Same H_t5 (upd H_t5 t6 (.tup [.int wh])) := same_upd n_t6
    have l_t6 : (upd H_t5 t6 (.tup [.int wh])) t6 = some (.tup [.int wh]) := upd_same
    generalize upd H_t5 t6 (.tup [.int wh]) = H_t6 at u_t6 l_t6 ⊢
    refine ⟨_, rfl, ?_⟩
    refine ⟨by show 2 ≤ sizeLine; decide, fun t7a n_t7a => ?_⟩
    have u_t7a : Same H_t6 (upd H_t6 t7a (.tup [.int wh, .int 0])) := same_upd n_t7a
    have l_t7a : (upd H_t6 t7a (.tup [.int wh, .int 0])) t7a = some (.tup [.int wh, .int 0]) := upd_same
    generalize upd H_t6 t7a (.tup [.int wh, .int 0]) = H_t7a at u_t7a l_t7a ⊢
    refine ⟨by show 2 ≤ sizeLine; decide, fun t7 n_t7 => ?_⟩
    have u_t7 : Same H_t7a (upd H_t7a t7 (.tup [.str "crash", .ref t7a])) := same_upd n_t7
    have l_t7 : (upd H_t7a t7 (.tup [.str "crash", .ref t7a])) t7 = some (.tup [.str "crash", .ref t7a]) := upd_same
    generalize upd H_t7a t7 (.tup [.str "crash", .ref t7a]) = H_t7 at u_t7 l_t7 ⊢
    refine ⟨by show 0 ≤ sizeLine; decide, fun t8a n_t8a => ?_⟩
    have u_t8a : Same H_t7 (upd H_t7 t8a (.tup [])) := same_upd n_t8a
    have l_t8a : (upd H_t7 t8a (.tup [])) t8a = some (.tup []) := upd_same
    generalize upd H_t7 t8a (.tup []) = H_t8a at u_t8a l_t8a ⊢
    refine ⟨by show 2 ≤ sizeLine; decide, fun t8b n_t8b => ?_⟩
    have u_t8b : Same H_t8a (upd H_t8a t8b (.tup [.int 0, .ref t8a])) := same_upd n_t8b
    have l_t8b : (upd H_t8a t8b (.tup [.int 0, .ref t8a])) t8b = some (.tup [.int 0, .ref t8a]) := upd_same
    generalize upd H_t8a t8b (.tup [.int 0, .ref t8a]) = H_t8b at u_t8b l_t8b ⊢
    refine ⟨by show 1 ≤ sizeLine; decide, fun t8 n_t8 => ?_⟩
    have u_t8 : Same H_t8b (upd H_t8b t8 (.tup [.ref t8b])) := same_upd n_t8
    have l_t8 : (upd H_t8b t8 (.tup [.ref t8b])) t8 = some (.tup [.ref t8b]) := upd_same
    generalize upd H_t8b t8 (.tup [.ref t8b]) = H_t8 at u_t8 l_t8 ⊢
    refine ⟨by show 9 ≤ sizeLine; decide, fun q1 n_q1 => ?_⟩
    have u_q1 : Same H_t8 (upd H_t8 q1 (.lst [.int wh, .int 0, .int (-wh), .str (cutS "abc" none (some r)), .non, .ref t5, .ref t6, .ref t7, .ref t8])) := same_upd n_q1
    have l_q1 : (upd H_t8 q1 (.lst [.int wh, .int 0, .int (-wh), .str (cutS "abc" none (some r)), .non, .ref t5, .ref t6, .ref t7, .ref t8])) q1 = some (.lst [.int wh, .int 0, .int (-wh), .str (cutS "abc" none (some r)), .non, .ref t5, .ref t6, .ref t7, .ref t8]) := upd_same
    generalize upd H_t8 q1 (.lst [.int wh, .int 0, .int (-wh), .str (cutS "abc" none (some r)), .non, .ref t5, .ref t6, .ref t7, .ref t8]) = H_q1 at u_q1 l_q1 ⊢
    refine ⟨_, rfl, ?_⟩
    refine ⟨by show 2 ≤ sizeLine; decide, fun t9a n_t9a => ?_⟩
    have u_t9a : Same H_q1 (upd H_q1 t9a (.tup [.int 0, .int 1])) := same_upd n_t9a
    have l_t9a : (upd H_q1 t9a (.tup [.int 0, .int 1])) t9a = some (.tup [.int 0, .int 1]) := upd_same
    generalize upd H_q1 t9a (.tup [.int 0, .int 1]) = H_t9a at u_t9a l_t9a ⊢
    refine ⟨by show 3 ≤ sizeLine; decide, fun t9 n_t9 => ?_⟩
    have u_t9 : Same H_t9a (upd H_t9a t9 (.tup [.str "done", .str "get", .ref t9a])) := same_upd n_t9
    have l_t9 : (upd H_t9a t9 (.tup [.str "done", .str "get", .ref t9a])) t9 = some (.tup [.str "done", .str "get", .ref t9a]) := upd_same
    generalize upd H_t9a t9 (.tup [.str "done", .str "get", .ref t9a]) = H_t9 at u_t9 l_t9 ⊢
    refine ⟨_, rfl, by show 1 ≤ sizeLine; decide, fun t10 n_t10 b_t10 => ?_⟩
    have u_t10 : Same H_t9 (upd H_t9 t10 (.lst [.int wh])) := same_upd n_t10
    have l_t10 : (upd H_t9 t10 (.lst [.int wh])) t10 = some (.lst [.int wh]) := upd_same
    generalize upd H_t9 t10 (.lst [.int wh]) = H_t10 at u_t10 l_t10 ⊢
    intro t11 n_t11
    have u_t11 : Same H_t10 (upd H_t10 t11 (.dK [])) := same_upd n_t11
    have l_t11 : (upd H_t10 t11 (.dK [])) t11 = some (.dK []) := upd_same
    generalize upd H_t10 t11 (.dK []) = H_t11 at u_t11 l_t11 ⊢
    refine ⟨by show 0 ≤ sizeLine; decide, fun t13a n_t13a => ?_⟩
    have u_t13a : Same H_t11 (upd H_t11 t13a (.tup [])) := same_upd n_t13a
    have l_t13a : (upd H_t11 t13a (.tup [])) t13a = some (.tup []) := upd_same
    generalize upd H_t11 t13a (.tup []) = H_t13a at u_t13a l_t13a ⊢
    refine ⟨by show 2 ≤ sizeLine; decide, fun t13 n_t13 => ?_⟩
    have u_t13 : Same H_t13a (upd H_t13a t13 (.tup [.str "recover", .ref t13a])) := same_upd n_t13
    have l_t13 : (upd H_t13a t13 (.tup [.str "recover", .ref t13a])) t13 = some (.tup [.str "recover", .ref t13a]) := upd_same
    generalize upd H_t13a t13 (.tup [.str "recover", .ref t13a]) = H_t13 at u_t13 l_t13 ⊢
    refine ⟨by show 5 ≤ sizeLine; decide, fun q2 n_q2 => ?_⟩
    have u_q2 : Same H_t13 (upd H_t13 q2 (.lst [.ref t9, .ref t10, .ref t11, .bl true, .ref t13])) := same_upd n_q2
    have l_q2 : (upd H_t13 q2 (.lst [.ref t9, .ref t10, .ref t11, .bl true, .ref t13])) q2 = some (.lst [.ref t9, .ref t10, .ref t11, .bl true, .ref t13]) := upd_same
    generalize upd H_t13 q2 (.lst [.ref t9, .ref t10, .ref t11, .bl true, .ref t13]) = H_q2 at u_q2 l_q2 ⊢
    refine ⟨q1, q2, _, _, rfl, rfl, (u_q2 _ _ (u_t13 _ _ (u_t13a _ _ (u_t11 _ _ (u_t10 _ _ (u_t9 _ _ (u_t9a _ _ l_q1))))))), l_q2, by show 14 ≤ sizeLine; decide, fun q3 n_q3 => ?_⟩
    have u_q3 : Same H_q2 (upd H_q2 q3 (.lst ([.int wh, .int 0, .int (-wh), .str (cutS "abc" none (some r)), .non, .ref t5, .ref t6, .ref t7, .ref t8] ++ [.ref t9, .ref t10, .ref t11, .bl true, .ref t13]))) := same_upd n_q3
    have l_q3 : (upd H_q2 q3 (.lst ([.int wh, .int 0, .int (-wh), .str (cutS "abc" none (some r)), .non, .ref t5, .ref t6, .ref t7, .ref t8] ++ [.ref t9, .ref t10, .ref t11, .bl true, .ref t13]))) q3 = some (.lst ([.int wh, .int 0, .int (-wh), .str (cutS "abc" none (some r)), .non, .ref t5, .ref t6, .ref t7, .ref t8] ++ [.ref t9, .ref t10, .ref t11, .bl true, .ref t13])) := upd_same
    generalize upd H_q2 q3 (.lst ([.int wh, .int 0, .int (-wh), .str (cutS "abc" none (some r)), .non, .ref t5, .ref t6, .ref t7, .ref t8] ++ [.ref t9, .ref t10, .ref t11, .bl true, .ref t13])) = H_q3 at u_q3 l_q3 ⊢
    refine ⟨_, rfl, _, rfl, ?_⟩
    refine ⟨_, rfl, _, rfl, ?_⟩
    refine ⟨by show 2 ≤ sizeLine; decide, fun t14a n_t14a => ?_⟩
    have u_t14a : Same H_q3 (upd H_q3 t14a (.tup [.int wh, .int wh])) := same_upd n_t14a
    have l_t14a : (upd H_q3 t14a (.tup [.int wh, .int wh])) t14a = some (.tup [.int wh, .int wh]) := upd_same
    generalize upd H_q3 t14a (.tup [.int wh, .int wh]) = H_t14a at u_t14a l_t14a ⊢
    refine ⟨by show 2 ≤ sizeLine; decide, fun t14b n_t14b => ?_⟩
    have u_t14b : Same H_t14a (upd H_t14a t14b (.tup [.int 1, .ref t14a])) := same_upd n_t14b
    have l_t14b : (upd H_t14a t14b (.tup [.int 1, .ref t14a])) t14b = some (.tup [.int 1, .ref t14a]) := upd_same
    generalize upd H_t14a t14b (.tup [.int 1, .ref t14a]) = H_t14b at u_t14b l_t14b ⊢
    refine ⟨by show 2 ≤ sizeLine; decide, fun t14 n_t14 => ?_⟩
    have u_t14 : Same H_t14b (upd H_t14b t14 (.tup [.ref t14b, .int 0])) := same_upd n_t14
    have l_t14 : (upd H_t14b t14 (.tup [.ref t14b, .int 0])) t14 = some (.tup [.ref t14b, .int 0]) := upd_same
    generalize upd H_t14b t14 (.tup [.ref t14b, .int 0]) = H_t14 at u_t14 l_t14 ⊢
    refine ⟨by show 1 ≤ sizeLine; decide, fun q4 n_q4 => ?_⟩
    have u_q4 : Same H_t14 (upd H_t14 q4 (.lst [.ref t14])) := same_upd n_q4
    have l_q4 : (upd H_t14 q4 (.lst [.ref t14])) q4 = some (.lst [.ref t14]) := upd_same
    generalize upd H_t14 q4 (.lst [.ref t14]) = H_q4 at u_q4 l_q4 ⊢
    refine ⟨q3, q4, _, _, rfl, rfl, (u_q4 _ _ (u_t14 _ _ (u_t14b _ _ (u_t14a _ _ l_q3)))), l_q4, by show 15 ≤ sizeLine; decide, fun q5 n_q5 => ?_⟩
    have u_q5 : Same H_q4 (upd H_q4 q5 (.lst ([.int wh, .int 0, .int (-wh), .str (cutS "abc" none (some r)), .non, .ref t5, .ref t6, .ref t7, .ref t8] ++ [.ref t9, .ref t10, .ref t11, .bl true, .ref t13] ++ [.ref t14]))) := same_upd n_q5
    have l_q5 : (upd H_q4 q5 (.lst ([.int wh, .int 0, .int (-wh), .str (cutS "abc" none (some r)), .non, .ref t5, .ref t6, .ref t7, .ref t8] ++ [.ref t9, .ref t10, .ref t11, .bl true, .ref t13] ++ [.ref t14]))) q5 = some (.lst ([.int wh, .int 0, .int (-wh), .str (cutS "abc" none (some r)), .non, .ref t5, .ref t6, .ref t7, .ref t8] ++ [.ref t9, .ref t10, .ref t11, .bl true, .ref t13] ++ [.ref t14])) := upd_same
    generalize upd H_q4 q5 (.lst ([.int wh, .int 0, .int (-wh), .str (cutS "abc" none (some r)), .non, .ref t5, .ref t6, .ref t7, .ref t8] ++ [.ref t9, .ref t10, .ref t11, .bl true, .ref t13] ++ [.ref t14])) = H_q5 at u_q5 l_q5 ⊢
    have e_q5 : Same H_q5 H_q5 := Same.refl _
    have e_q4 : Same H_q4 H_q5 := u_q5.trans e_q5
    have e_t14 : Same H_t14 H_q5 := u_q4.trans e_q4
    have e_t14b : Same H_t14b H_q5 := u_t14.trans e_t14
    have e_t14a : Same H_t14a H_q5 := u_t14b.trans e_t14b
    have e_q3 : Same H_q3 H_q5 := u_t14a.trans e_t14a
    have e_q2 : Same H_q2 H_q5 := u_q3.trans e_q3
    have e_t13 : Same H_t13 H_q5 := u_q2.trans e_q2
    have e_t13a : Same H_t13a H_q5 := u_t13.trans e_t13
    have e_t11 : Same H_t11 H_q5 := u_t13a.trans e_t13a
    have e_t10 : Same H_t10 H_q5 := u_t11.trans e_t11
    have e_t9 : Same H_t9 H_q5 := u_t10.trans e_t10
    have e_t9a : Same H_t9a H_q5 := u_t9.trans e_t9
    have e_q1 : Same H_q1 H_q5 := u_t9a.trans e_t9a
    have e_t8 : Same H_t8 H_q5 := u_q1.trans e_q1
    have e_t8b : Same H_t8b H_q5 := u_t8.trans e_t8
    have e_t8a : Same H_t8a H_q5 := u_t8b.trans e_t8b
    have e_t7 : Same H_t7 H_q5 := u_t8a.trans e_t8a
    have e_t7a : Same H_t7a H_q5 := u_t7.trans e_t7
    have e_t6 : Same H_t6 H_q5 := u_t7a.trans e_t7a
    have e_t5 : Same H_t5 H_q5 := u_t6.trans e_t6
    have sb : Same Hb H_q5 := u_t5.trans e_t5
    have dq : Deck H_q5 p c (m + 2) := db.of_same sb
    have fq5 : Hb q5 = none := Same.free (u_t5.trans (u_t6.trans (u_t7a.trans (u_t7.trans (u_t8a.trans (u_t8b.trans (u_t8.trans (u_q1.trans (u_t9a.trans (u_t9.trans (u_t10.trans (u_t11.trans (u_t13a.trans (u_t13.trans (u_q2.trans (u_q3.trans (u_t14a.trans (u_t14b.trans (u_t14.trans (u_q4)))))))))))))))))))) n_q5
    obtain ⟨np, nc⟩ := db.nep fq5
    have f10 : Hb t10 = none := Same.free (u_t5.trans (u_t6.trans (u_t7a.trans (u_t7.trans (u_t8a.trans (u_t8b.trans (u_t8.trans (u_q1.trans (u_t9a.trans (u_t9)))))))))) n_t10
    obtain ⟨np10, nc10⟩ := db.nep f10
    have all : ∀ (n : Nat) (v : V), ([.int wh, .int 0, .int (-wh), .str (cutS "abc" none (some r)), .non, .ref t5, .ref t6, .ref t7, .ref t8] ++ [.ref t9, .ref t10, .ref t11, .bl true, .ref t13] ++ [V.ref t14] : List V)[n]? = some v → Smal K p c H_q5 v := by
      intro n v hv
      match n, hv with
      | 0, hv => cases hv; exact ⟨_, (.int _), by simp [fine, fineAll] <;> first | omega | decide +kernel | exact ⟨by decide +kernel, by omega⟩, by simp [cap, capAll] <;> decide +kernel, by simp [PyData.depth, PyData.depthAll, PyData.depthKv]⟩
      | 1, hv => cases hv; exact ⟨_, (.int _), by simp [fine, fineAll] <;> first | omega | decide +kernel | exact ⟨by decide +kernel, by omega⟩, by simp [cap, capAll] <;> decide +kernel, by simp [PyData.depth, PyData.depthAll, PyData.depthKv]⟩
      | 2, hv => cases hv; exact ⟨_, (.int _), by simp [fine, fineAll] <;> first | omega | decide +kernel | exact ⟨by decide +kernel, by omega⟩, by simp [cap, capAll] <;> decide +kernel, by simp [PyData.depth, PyData.depthAll, PyData.depthKv]⟩
      | 3, hv => cases hv; exact ⟨_, .str _, cut_abc r0 r1⟩
      | 4, hv => cases hv; exact ⟨_, .non, by simp [fine, fineAll] <;> first | omega | decide +kernel | exact ⟨by decide +kernel, by omega⟩, by simp [cap, capAll] <;> decide +kernel, by simp [PyData.depth, PyData.depthAll, PyData.depthKv]⟩
      | 5, hv => cases hv; exact ⟨_, (.tup (SqT.of (e_t5 _ _ l_t5)) .nil), by simp [fine, fineAll] <;> first | omega | decide +kernel | exact ⟨by decide +kernel, by omega⟩, by simp [cap, capAll] <;> decide +kernel, by simp [PyData.depth, PyData.depthAll, PyData.depthKv]⟩
      | 6, hv => cases hv; exact ⟨_, (.tup (SqT.of (e_t6 _ _ l_t6)) (.cons (.int _) .nil)), by simp [fine, fineAll] <;> first | omega | decide +kernel | exact ⟨by decide +kernel, by omega⟩, by simp [cap, capAll] <;> decide +kernel, by simp [PyData.depth, PyData.depthAll, PyData.depthKv]⟩
      | 7, hv => cases hv; exact ⟨_, (.tup (SqT.of (e_t7 _ _ l_t7)) (.cons (.str _) (.cons (.tup (SqT.of (e_t7a _ _ l_t7a)) (.cons (.int _) (.cons (.int _) .nil))) .nil))), by simp [fine, fineAll] <;> first | omega | decide +kernel | exact ⟨by decide +kernel, by omega⟩, by simp [cap, capAll] <;> decide +kernel, by simp [PyData.depth, PyData.depthAll, PyData.depthKv]⟩
      | 8, hv => cases hv; exact ⟨_, (.tup (SqT.of (e_t8 _ _ l_t8)) (.cons (.tup (SqT.of (e_t8b _ _ l_t8b)) (.cons (.int _) (.cons (.tup (SqT.of (e_t8a _ _ l_t8a)) .nil) .nil))) .nil)), by simp [fine, fineAll] <;> first | omega | decide +kernel | exact ⟨by decide +kernel, by omega⟩, by simp [cap, capAll] <;> decide +kernel, by simp [PyData.depth, PyData.depthAll, PyData.depthKv]⟩
      | 9, hv => cases hv; exact ⟨_, (.tup (SqT.of (e_t9 _ _ l_t9)) (.cons (.str _) (.cons (.str _) (.cons (.tup (SqT.of (e_t9a _ _ l_t9a)) (.cons (.int _) (.cons (.int _) .nil))) .nil)))), by simp [fine, fineAll] <;> first | omega | decide +kernel | exact ⟨by decide +kernel, by omega⟩, by simp [cap, capAll] <;> decide +kernel, by simp [PyData.depth, PyData.depthAll, PyData.depthKv]⟩
      | 10, hv => cases hv; exact ⟨_, (.lst (SqL.of (e_t10 _ _ l_t10)) ⟨b_t10, np10, nc10⟩ (.cons (.int _) .nil)), by simp [fine, fineAll] <;> first | omega | decide +kernel | exact ⟨by decide +kernel, by omega⟩, by simp [cap, capAll] <;> decide +kernel, by simp [PyData.depth, PyData.depthAll, PyData.depthKv]⟩
      | 11, hv => cases hv; exact ⟨_, (.dic (e_t11 _ _ l_t11)), by simp [fine, fineAll] <;> first | omega | decide +kernel | exact ⟨by decide +kernel, by omega⟩, by simp [cap, capAll] <;> decide +kernel, by simp [PyData.depth, PyData.depthAll, PyData.depthKv]⟩
      | 12, hv => cases hv; exact ⟨_, (.bl _), by simp [fine, fineAll] <;> first | omega | decide +kernel | exact ⟨by decide +kernel, by omega⟩, by simp [cap, capAll] <;> decide +kernel, by simp [PyData.depth, PyData.depthAll, PyData.depthKv]⟩
      | 13, hv => cases hv; exact ⟨_, (.tup (SqT.of (e_t13 _ _ l_t13)) (.cons (.str _) (.cons (.tup (SqT.of (e_t13a _ _ l_t13a)) .nil) .nil))), by simp [fine, fineAll] <;> first | omega | decide +kernel | exact ⟨by decide +kernel, by omega⟩, by simp [cap, capAll] <;> decide +kernel, by simp [PyData.depth, PyData.depthAll, PyData.depthKv]⟩
      | 14, hv => cases hv; exact ⟨_, (.tup (SqT.of (e_t14 _ _ l_t14)) (.cons (.tup (SqT.of (e_t14b _ _ l_t14b)) (.cons (.int _) (.cons (.tup (SqT.of (e_t14a _ _ l_t14a)) (.cons (.int _) (.cons (.int _) .nil))) .nil))) (.cons (.int _) .nil))), by simp [fine, fineAll] <;> first | omega | decide +kernel | exact ⟨by decide +kernel, by omega⟩, by simp [cap, capAll] <;> decide +kernel, by simp [PyData.depth, PyData.depthAll, PyData.depthKv]⟩
    have kq : Kp p c H H_q5 := (ka.trans kb).trans (.of_same sb)
    refine ⟨p, c, q5, m + 2, _, rfl, dq, by omega, .inl (SqL.of l_q5), np, nc, by show 0 < 15; decide, by show 15 < 1000000; decide, fun H' n v k d hv => ?_⟩
    obtain ⟨dd, g1, g2⟩ := all n v hv
    exact q H' v (kq.trans k) d ⟨dd, Rp.kp g1 dq k, g2⟩
end
end Ehk
set_option Elab.async false
set_option linter.all false
set_option maxRecDepth 100000
set_option maxHeartbeats 4000000
/-! Own exceptions raised; several clauses «except C as n», n the same in all. -/
namespace L2M
open PySem PySem.Spec PyProof.Rows PySem.Ehx L2 L2N
abbrev St := L2.St
/-- raise C(e): the new exception's class, dict and field -/
def tMkR (C : Addr) (sp : Sp) (te : TE) : St → Hp → XK → Prop := fun σ H Q => te σ H fun y H1 => ∀ a, H1 a = none → sp [.ref a, y] (upd H1 a (exo a C none))
  (fun v H2 => v = .non ∧ ∃ (d : Addr) (fs : List (Str × V)), H2 a = some (exo a C (some d)) ∧ H2 d = some (exd d fs) ∧ H1 d = none ∧ Q (.ref C) (some d) (upd (del H2 a) d (.xd fs))) (fun _ _ _ => False)
section
variable {X : Cx} {CX : CXT} {k : Nat} {fI C : Addr} {fd : FuncData} {sp : Sp} {e : Expr} {te : TE} {x ft : Str} {p pos : Pos}
theorem pmk_R (T : Ec X.K C) (iC : PySem.W.findIn X.K (.ref C) "__init__" = some (some (.ref fI))) (tI : PySem.W.typeIn X.K (.ref fI) = some (.type "function"))
    (F1 : FnOk X.prog X.w X.K X.mg X.base CX k fI fd ["self", ft] sp) (hr : Room (k + 1) X.A) (hx : Passes CX X (fun _ _ _ => False)) (hg : Gl X x) (hm : X.mg x = some (.ref C)) (he : PE X e te)
    (hb : ∀ (s : Shared) (a : Addr) (u : Value), BindsTo s fd ⟨[.ref a, u], []⟩ [("self", .ref a), (ft, u)])
    (hdb : (x == ("__debug__" : Str)) = false := by decide) (hs : starEach [e] X.env = (false, eval e X.env) :: starEach [] X.env := by rfl) :
    L2N.PMk X (.Call (.Name x p) [e] [] pos) (tMkR C sp te) := by
  intro pins s σ H Q I h
  obtain ⟨nm, q, N, bs, bm, hdct, sn, sub, ab, col, dd, k0, k1, k2, k3, k5, B, newId, initId, bmB, hC, FB, L⟩ := T.cls
  refine wpAny_Call_Name_kw (ld_glob I hg hm ?_ hdb)
  refine PySem.W.callWith_K (h₀ := X.base) I.ok.mod.kin T.kC ?_ hs (by rfl)
  rw [hs]
  show wpAny _ _ (spliced ((false, eval e X.env) :: backTo pos (starEach [] X.env))) _ _ s
  refine Calls.spliced_cons (thn (he.run pins s σ H _ I h) fun u s1 ⟨v, H1, I1, r1, q1⟩ => ?_)
  refine Calls.spliced_nil ⟨I1.kIn, ?_⟩
  show wpAny _ _ (call (.ref C) [u]) _ _ _
  obtain ⟨hp, g, dr, tk, os⟩ := s1
  have hsz : hp.objs.size ≤ hp.objs.size + 1 := Nat.le_succ _
  have hn : H1 (hp.objs.size + 1) = none := I1.hok.fresh hsz
  have hq := q1 (hp.objs.size + 1) hn
  have kk : ∀ b o, hp.get? b = some o → ((hp.push (argTup [u])).push (rawExc C hp.objs.size)).get? b = some o := fun b o e => Heap.get?_push_of_some _ (Heap.get?_push_of_some _ e)
  have here : ((hp.push (argTup [u])).push (rawExc C hp.objs.size)).get? (hp.objs.size + 1) = some (rawExc C hp.objs.size) := by heap_get
  have I2 : Inv X pins σ (upd H1 (hp.objs.size + 1) (exo (hp.objs.size + 1) C none)) ⟨(hp.push (argTup [u])).push (rawExc C hp.objs.size), g, dr, tk, os⟩ :=
    I1.laid (t' := tk) (a := hp.objs.size + 1) (o := exo (hp.objs.size + 1) C none) (h' := (hp.push (argTup [u])).push (rawExc C hp.objs.size)) kk hsz (exo_ok here)
  have r2 : Vals [V.ref (hp.objs.size + 1), v] [Value.ref (hp.objs.size + 1), u] := .cons rfl (.cons r1 .nil)
  refine wpAny_call (call_ownK FB L (I1.kIn _ _ hC) (by show 1 ≤ sizeLine; decide) (PySem.W.looks_findIn I1.kIn iC) (fun self => PySem.W.bind_fn I1.kIn self tI)
    (codeAny_mono (F1.run _ X.stack _ _ ⟨[Value.ref (hp.objs.size + 1), u], []⟩ [Value.ref (hp.objs.size + 1), u] _ _ (fun _ _ _ => False) (hr.make C [u] []) (I2.env0.make C [u] []) (hb _ _ _) r2 hq) fun r s' hq' => ?_))
  cases r with
  | error er => exact hx pins σ _ _ er s' I2 hq'
  | ok fl =>
    cases fl with
    | ret u' =>
      obtain ⟨v', H2, os2, bare2, un2, hok2, rv, ev, d, fs, ea, ed, hd1, q2⟩ := hq'
      subst ev
      obtain ⟨h2, g2, d2, t2, os'⟩ := s'
      obtain ⟨t0, G, J, kG, ge, hoe, na⟩ := mk_end0 (d2 := d2) (t2 := t2) I1 hsz kk un2 hok2 os2 bare2 ea ed hd1
      refine ⟨rv, hp.objs.size + 1, _, _, ⟨G, g2, d2, t2, os'⟩, _, .ref C, some d, rfl, J, kG, ge, hoe, ⟨rfl, rfl, fun vs hv => ?_⟩, rfl, rfl, na, rfl, bare2, raises_own T.exC T.tyC, q2⟩
      cases hv
      rfl
    | next => exact False.elim hq'
    | brk => exact False.elim hq'
    | cont => exact False.elim hq'
end
/-- what the clauses «except c as n» (slot i) wish of an exception of the body -/
def wManyAs (K : PySem.W.Frag) (i : Nat) (Wout : WX) (D : Ends) : List (Value × (Addr → Value → Option Addr → TS)) → WX
  | [] => Wout
  | (c, ts) :: r => fun cls d σ H => ∃ b, PySem.W.exmOne K cls c = some b ∧
      (b = true → ∀ a, H a = none → ts a cls d { nx := fun σ' H' => D.nx (σ'.set i none) H', rt := D.rt, bk := fun σ' H' => D.bk (σ'.set i none) H', ct := fun σ' H' => D.ct (σ'.set i none) H' } (σ.set i (some (.ref a))) H) ∧
      (b = false → wManyAs K i Wout D r cls d σ H)
inductive HdsAs (X : Cx) (n : Str) : List ExceptHandler → List (Value × (Addr → Value → Option Addr → TS)) → Prop
  | nil : HdsAs X n [] []
  | cons {x : Str} {c : Value} {ts : Addr → Value → Option Addr → TS} {b₀ : Stmt} {suite : List Stmt} {np pos' : Pos} {hds : List ExceptHandler} {l : List (Value × (Addr → Value → Option Addr → TS))} (hc : Names X x c)
      (hsu : ∀ (a : Addr) (oe : Obj) (cls : Value) (d : Option Addr) (pn : List (Addr × Obj)), Zn cls d oe → (∃ vs, oe.data = .fields vs) → PSs (X.suite a ((a, oe) :: pn)) (b₀ :: suite) (ts a cls d)) (r : HdsAs X n hds l) :
      HdsAs X n (.ExceptHandler (some (.Name x np)) (some n) (b₀ :: suite) pos' :: hds) ((c, ts) :: l)
section
variable {X : Cx} {n : Str} {i : Nat} {body : List Stmt} {h₀ : ExceptHandler} {hds : List ExceptHandler} {l : List (Value × (Addr → Value → Option Addr → TS))} {pos : Pos} {tb : WX → TS} {Wout : WX}
theorem ps_try_manyAs (hs : X.stack = X.env :: X.outer) (hf : X.env.frame = some X.env.locals) (hN : X.N.Nodup) (hi : X.N[i]? = some n) (hln : X.env.kindOf n = some .local) (tk : L2N.Takes X Wout)
    (hb : ∀ (W : WX) (pn : List (Addr × Obj)) (xe : Value → Shared → Prop), L2N.Takes (X.tr pn xe) W → PassesOwn (model X.prog X.w) X.A X.env xe → PSs (X.tr pn xe) body (tb W))
    (hh : HdsAs X n (h₀ :: hds) l) : PS X (.Try body (h₀ :: hds) [] [] pos) (fun D σ H => tb (wManyAs X.K i Wout D l) D σ H) := by
  refine ⟨fun pins s σ H D I h => ?_⟩
  have ok := I.ok
  have frm : X.A.frames = some (X.env :: X.outer) := by rw [ok.frames, hs]
  have loc : Loc X.env.scope n := .inl hln
  refine wpAny_Try_except ?_
  refine wpAny_mono ((hb (wManyAs X.K i Wout D l) (X.pn ++ pins) (fun e s1 => wpAny (model X.prog X.w) X.A (noteFrame e X.env) (fun _ s2 => wpAny (model X.prog X.w) X.A (setFlight e none) (fun _ s3 =>
    wpAny (model X.prog X.w) X.A (handleBy e X.env (h₀ :: hds)) (SP X pins D) X.xe s3) X.xe s2) X.xe s1) (fun u s' xx => ?_) PassesOwn.looking).run [] s σ H D (I.toTry _) h) (fun f s1 hsp => ?_) (fun e s1 he => he)
  · obtain ⟨a, B, sI, pins', σ', H', cls, d, rfl, J', nb, up, sky, na, os, ag, w⟩ := xx
    have J : Inv X pins σ' H' sI := J'.ofTry ok
    have sky' : Sky B (X.env :: X.outer) a (Zn cls d) X.env.locals s'.heap := by rw [← hs]; exact sky
    show wpAny (model X.prog X.w) X.A (noteFrame (.ref a) X.env) _ _ _
    refine L2N.Sky.land Zn.steady frm hf sky' fun h3 fl3 up3 => ?_
    have J3 : Inv X pins σ' H' { s' with heap := h3 } := J.landed nb fl3.1 (up.trans up3) os ag
    obtain ⟨oe3, vs3, he3, hz3, hd3⟩ := fl3.there
    have nfr : a ∉ frs (X.env :: X.outer) := fun hm => by
      obtain ⟨_, o', e', hnf⟩ := fl3.2.2.1.mem hm
      rw [he3] at e'
      cases e'
      exact hnf _ hd3
    have nL : a ≠ X.env.locals := fun z => nfr (List.mem_filterMap.mpr ⟨X.env, List.mem_cons_self, by rw [hf, z]⟩)
    have nF : a ∉ X.fs := fun hm => by
      obtain ⟨e, he, q⟩ := List.mem_filterMap.mp hm
      exact nfr (List.mem_filterMap.mpr ⟨e, List.mem_cons_of_mem _ he, q⟩)
    have S3 := J3.suite he3 hd3 na nL nF
    have go : ∀ {hs' : List ExceptHandler} {l' : List (Value × (Addr → Value → Option Addr → TS))}, HdsAs X n hs' l' → wManyAs X.K i Wout D l' cls d σ' H' →
        wpAny (model X.prog X.w) X.A (handleBy (.ref a) X.env hs') (SP X pins D) X.xe { s' with heap := h3 } := by
      intro hs' l' hk
      induction hk with
      | nil =>
        intro w
        refine wpAny_handleBy_nil ?_
        obtain ⟨k1, k2, k3, oe, vs, T, oT, ts', he, hz, hd, h1, hr⟩ := id fl3
        unfold PySem.passOn
        refine wpAny_bind (wpAny_field he hd h1 ?_)
        rw [if_neg (show ¬ ((Value.ref T == Value.none) = true) from by simp)]
        have fin : wpAny (model X.prog X.w) X.A (setFlight (.ref a) X.env.frame) (fun _ s4 => wpAny (model X.prog X.w) X.A (throw (.ref a) : Sem Flow) (SP X pins D) X.xe s4) X.xe { s' with heap := h3 } := by
          rw [hf]
          refine HandSPX.setFlight_upZ fl3 fun h4 hh4 up4 => wpAny_throw (tk _ _ ?_)
          exact ⟨a, B, sI, pins, σ', H', cls, d, rfl, J, nb, (up.trans up3).trans up4, .inr (.inr (by rw [hs]; exact hh4)), na, os, ag, w⟩
        first
          | exact wpAny_bind (wpAny_pure (wpAny_bind fin))
          | exact wpAny_bind fin
      | @cons x c ts b₀ suite np pos' hds2 l2 hc hsu r ih =>
        intro w
        obtain ⟨b, hb1, hyes, hno⟩ := w
        refine wpAny_handleBy_cons (codeAny_handlers_test ?_) (by intro q; cases q)
        have LT : PySem.W.Looks (model X.prog X.w) h3 (typeOf (.ref a)) cls := fun A Q E s k q => wpAny_typeOf_ref (k _ _ he3) (by rw [hz3.1]; exact q)
        have LM := PySem.W.exm_one (M := model X.prog X.w) (J3.kIn) LT hb1
        have test : ∀ {Q : Value → Shared → Prop} {E : Value → Shared → Prop}, Q c { s' with heap := h3 } → wpAny (model X.prog X.w) (X.A.mark (some (.ref a))) (eval (.Name x np) X.env) Q E { s' with heap := h3 } := fun {Q E} q => by
          obtain ⟨hg, hdbg, hm | ⟨hm, hv, hnn⟩⟩ := hc
          · exact ld_glob (X := X.suite a ((a, oe3) :: (X.pn ++ pins))) S3 hg hm q hdbg
          · exact ld_blt (X := X.suite a ((a, oe3) :: (X.pn ++ pins))) S3 hg hm hv q hnn hdbg
        refine test (LM.here ?_)
        cases b with
        | true =>
          refine codeAny_handlers_suite_as ?_
          refine HandSPX.lands_againZ fl3 fun h4 fl4 up4 => ?_
          have J4 : Inv X pins σ' H' { s' with heap := h4 } := J.landed nb fl4.1 ((up.trans up3).trans up4) os ag
          obtain ⟨oe4, vs4, he4, hz4, hd4⟩ := fl4.there
          have S4 := J4.suite he4 hd4 na nL nF
          refine store_ok (X := X.suite a ((a, oe4) :: (X.pn ++ pins))) (v := .ref a) S4 hN hi loc rfl (fun s5 S5 => ?_) (.inr hln)
          refine wpAny_mono ((hsu a oe4 cls d (X.pn ++ pins) hz4 ⟨_, hd4⟩).run [] s5 _ H' _ S5 (hyes rfl a na)) (fun f s6 hsp => ?_) (fun _ _ z => False.elim z)
          have end_ : ∀ {σ6 : St} {H6 : Hp} {Q : Shared → Prop}, Inv (X.suite a ((a, oe4) :: (X.pn ++ pins))) [] σ6 H6 s6 → (∀ s7, Inv X pins (σ6.set i none) H6 s7 → Q s7) →
              wpAny (model X.prog X.w) X.A (do bindName X.env n .none; unbindBehindTheSuite X.env n pos') (fun _ s7 => Q s7) X.xe s6 := fun {σ6 H6 Q} S6 hq => gone_ok (S6.unsuite ok) hN hi hln hq
          cases f with
          | next =>
            obtain ⟨σ6, H6, S6, q6⟩ := hsp
            exact end_ S6 fun s7 J7 => ⟨_, _, J7, q6⟩
          | brk =>
            obtain ⟨σ6, H6, S6, q6⟩ := hsp
            exact end_ S6 fun s7 J7 => ⟨_, _, J7, q6⟩
          | cont =>
            obtain ⟨σ6, H6, S6, q6⟩ := hsp
            exact end_ S6 fun s7 J7 => ⟨_, _, J7, q6⟩
          | ret u =>
            obtain ⟨v6, σ6, H6, S6, r6, q6⟩ := hsp
            exact end_ S6 fun s7 J7 => ⟨_, _, _, J7, r6, q6⟩
        | false =>
          show wpAny _ X.A (handleBy (.ref a) X.env hds2) _ _ _
          exact ih (hno rfl)
    exact go hh w
  · cases f with
    | next =>
      obtain ⟨σ', H', J', q⟩ := hsp
      exact wpAny_execs_nil ⟨σ', H', J'.ofTry ok, q⟩
    | brk =>
      obtain ⟨σ', H', J', q⟩ := hsp
      exact ⟨σ', H', J'.ofTry ok, q⟩
    | cont =>
      obtain ⟨σ', H', J', q⟩ := hsp
      exact ⟨σ', H', J'.ofTry ok, q⟩
    | ret u =>
      obtain ⟨v, σ', H', J', r, q⟩ := hsp
      exact ⟨v, σ', H', J'.ofTry ok, r, q⟩
end
end L2M

set_option Elab.async false
set_option linter.all false
set_option maxRecDepth 100000
set_option maxHeartbeats 4000000
/-! A comprehension over enumerate of a list while an exception is handled. -/
namespace L2K
open PySem PySem.Spec PyProof.Rows L2 HotX L2H
abbrev St := L2.St
section
variable {prog : Program} {w : World} {A : Around} {E : Value → Shared → Prop} {s : Shared}
theorem inner_end {it l x1 : Addr} {i : Nat} {items : Array Value} {Q : Value → Shared → Prop} (hot : HotAt A x1 s.heap) (nx : x1 ≠ it) (hit : s.heap.IsListIter it l i) (hl : s.heap.IsList l items) (hx : items[i]? = none)
    (hE : ∀ h' e, Heap.ExtBut it s.heap h' → (∃ o, h'.get? e = some o ∧ o.cls = .type "StopIteration") → E (.ref e) { s with heap := h' }) : wpAny (model prog w) A (Builtin.SmallTypes.nextOf (.ref it)) Q E s := by
  obtain ⟨hh, o1, vs1, g1, d1, c1⟩ := hot
  obtain ⟨oi, gi, ci, di⟩ := id hit
  obtain ⟨ol, gl, _, nl, dl⟩ := hl
  unfold Builtin.SmallTypes.nextOf
  refine wpAny_bind (wpAny_callSpecial?_slot (name := Str.ofString "__next__") hit.typeIs slot_listiter_next (wpAny_call_entry slot_listiter_next hit.typeIs entry_listiter_next ?_ (args_listiter_next _)))
  show wpAny _ _ (field (.ref it) 0 >>= _) _ _ s
  refine wpAny_bind (wpAny_field gi di (x := .ref l) rfl ?_)
  show wpAny _ _ (if (Value.ref l == Value.none) = true then _ else _) _ _ s
  rw [if_neg (show ¬ ((Value.ref l == Value.none) = true) from Bool.false_ne_true)]
  show wpAny _ _ (field (.ref it) 1 >>= _) _ _ s
  refine wpAny_bind (wpAny_field gi di (x := .int i 0) rfl ?_)
  show wpAny _ _ (seqItems? (.ref l) >>= _) _ _ s
  refine wpAny_bind (wpAny_seqItems gl dl ?_)
  simp only [Int.toNat_natCast, hx]
  refine wpAny_bind (wpAny_rule (wpAny_bind (wpAny_setField gi di (by simp) ?_)))
  show wpAny _ _ (newExc (.type "StopIteration") [] >>= _) _ _ _
  refine wpAny_bind ?_
  simp only [newExc, newTuple]
  refine wpAny_bind (wpAny_newObj_type ?_ (by size_fits))
  refine wpAny_bind (m := firstArgMember _ _) (wpAny_of_eq (a := Value.none) (by first | rfl | (simp only [firstArgMember]; rfl)) ?_)
  refine wpAny_newObj_type ?_ (by size_fits)
  have g2 := (Heap.get?_update_other s.heap (Obj.mapFields (·.setIfInBounds 0 Value.none)) nx.symm).trans g1
  refine raiseNew_hot (x1 := x1) ⟨hh, o1, vs1, Heap.get?_push_of_some _ (Heap.get?_push_of_some _ g2), d1, c1⟩ (Nat.ne_of_lt (Heap.lt_size (Heap.get?_push_of_some _ g2))) (Heap.get?_push_size _ rfl) rfl (by first | (simp; done) | (simp; omega) | (simp only [Array.size_append]; simp; omega)) ?_
  refine hE _ _ (fun b o nb e => ?_) ⟨_, Heap.get?_update_self _ (Heap.get?_push_size _ rfl) rfl, rfl⟩
  have e2 := (Heap.get?_update_other s.heap (Obj.mapFields (·.setIfInBounds 0 Value.none)) (Ne.symm nb)).trans e
  rw [Heap.get?_update_other _ _ (Nat.ne_of_gt (Heap.lt_size (Heap.get?_push_of_some _ e2)))]
  exact Heap.get?_push_of_some _ (Heap.get?_push_of_some _ e2)
theorem enum_end {e it l x1 : Addr} {i : Nat} {items : Array Value} {old : Value} {Q : Option Value → Shared → Prop} (hot : HotAt A x1 s.heap) (nx : x1 ≠ it)
    (he : IsEnum s.heap e it i old) (hit : s.heap.IsListIter it l i) (hl : s.heap.IsList l items) (hx : items[i]? = none)
    (hQ : ∀ h', Heap.ExtBut it s.heap h' → Q none { s with heap := h' }) : wpAny (model prog w) A (pyNext (.ref e)) Q E s := by
  have ty : s.TypeIs (.ref e) "enumerate" := ⟨_, he, rfl⟩
  unfold pyNext
  refine wpAny_bind (wpAny_attempt (wpAny_callSpecial?_slot (name := Str.ofString "__next__") ty F.slot_enumerate_next (wpAny_call_entry F.slot_enumerate_next ty F.entry_enumerate_next ?_ (F.args_enumerate_next_1 _))))
  show wpAny _ _ (field (.ref e) 2 >>= _) _ _ _
  refine wpAny_bind (wpAny_field he rfl (x := .ref it) rfl (wpAny_bind (inner_end hot nx hit hl hx fun h' x xb ⟨o, go, co⟩ => ?_)))
  exact wpAny_bind (wpAny_isInstance (T := "StopIteration") (b := true) ⟨o, go, co⟩ isSubtype_stop (wpAny_pure (hQ _ xb)))
/-- a tuple's iterator at its end while x1 is handled -/
theorem tup_end {it t x1 : Addr} {i : Nat} {items : Array Value} {Q : Option Value → Shared → Prop} (hot : HotAt A x1 s.heap) (nx : x1 ≠ it) (hit : IsTupIter s.heap it t i) (ht : IsTup s.heap t items) (hx : items[i]? = none)
    (hQ : ∀ h', Heap.ExtBut it s.heap h' → Q none { s with heap := h' }) : wpAny (model prog w) A (pyNext (.ref it)) Q E s := by
  obtain ⟨hh, o1, vs1, g1, d1, c1⟩ := hot
  obtain ⟨oi, gi, ci, di⟩ := id hit
  obtain ⟨ol, gl, _, nl, dl⟩ := ht
  unfold pyNext
  refine wpAny_bind (wpAny_attempt (wpAny_callSpecial?_slot (name := Str.ofString "__next__") hit.typeIs slot_tupleiter_next (wpAny_call_entry slot_tupleiter_next hit.typeIs entry_tupleiter_next ?_ (args_tupleiter_next _))))
  show wpAny _ _ (field (.ref it) 0 >>= _) _ _ s
  refine wpAny_bind (wpAny_field gi di (x := .ref t) rfl ?_)
  show wpAny _ _ (if (Value.ref t == Value.none) = true then _ else _) _ _ s
  rw [if_neg (show ¬ ((Value.ref t == Value.none) = true) from Bool.false_ne_true)]
  show wpAny _ _ (field (.ref it) 1 >>= _) _ _ s
  refine wpAny_bind (wpAny_field gi di (x := .int i 0) rfl ?_)
  show wpAny _ _ (seqItems? (.ref t) >>= _) _ _ s
  refine wpAny_bind (wpAny_seqItems gl dl ?_)
  simp only [Int.toNat_natCast, hx]
  refine wpAny_bind (wpAny_rule (wpAny_bind (wpAny_setField gi di (by simp) ?_)))
  show wpAny _ _ (newExc (.type "StopIteration") [] >>= _) _ _ _
  refine wpAny_bind ?_
  simp only [newExc, newTuple]
  refine wpAny_bind (wpAny_newObj_type ?_ (by size_fits))
  refine wpAny_bind (m := firstArgMember _ _) (wpAny_of_eq (a := Value.none) (by first | rfl | (simp only [firstArgMember]; rfl)) ?_)
  refine wpAny_newObj_type ?_ (by size_fits)
  have g2 := (Heap.get?_update_other s.heap (Obj.mapFields (·.setIfInBounds 0 Value.none)) nx.symm).trans g1
  refine raiseNew_hot (x1 := x1) ⟨hh, o1, vs1, Heap.get?_push_of_some _ (Heap.get?_push_of_some _ g2), d1, c1⟩ (Nat.ne_of_lt (Heap.lt_size (Heap.get?_push_of_some _ g2))) (Heap.get?_push_size _ rfl) rfl (by first | (simp; done) | (simp; omega) | (simp only [Array.size_append]; simp; omega)) ?_
  refine wpAny_bind (wpAny_isInstance (T := "StopIteration") (b := true) ⟨_, Heap.get?_update_self _ (Heap.get?_push_size _ rfl) rfl, rfl⟩ isSubtype_stop (wpAny_pure (hQ _ fun b o nb e => ?_)))
  have e2 := (Heap.get?_update_other s.heap (Obj.mapFields (·.setIfInBounds 0 Value.none)) (Ne.symm nb)).trans e
  rw [Heap.get?_update_other _ _ (Nat.ne_of_gt (Heap.lt_size (Heap.get?_push_of_some _ e2)))]
  exact Heap.get?_push_of_some _ (Heap.get?_push_of_some _ e2)
theorem tup_unpack {env : Env} {elts : List Expr} {kk : Nat} {pos : Pos} {t x1 : Addr} {items : Array Value} {Q : Unit → Shared → Prop} (hot : HotAt A x1 s.heap) (ht : IsTup s.heap t items)
    (hn : (assignEach elts env).length = items.size) (hstar : (assignEach elts env).findIdx? (·.1) = none)
    (h : ∀ h', Heap.ExtBut s.heap.objs.size s.heap h' → wpAny (model prog w) A (assignInOrder ((assignEach elts env).map (·.2)) items.toList) Q E { s with heap := h' }) :
    wpAny (model prog w) A (assign (.Tuple elts kk pos) env (.ref t)) Q E s := by
  obtain ⟨hh, o1, vs1, g1, d1, c1⟩ := hot
  have nt : t ≠ s.heap.objs.size := by obtain ⟨o, ho, _⟩ := ht; exact Nat.ne_of_lt (Heap.lt_size ho)
  have n1 : x1 ≠ s.heap.objs.size := Nat.ne_of_lt (Heap.lt_size g1)
  rw [PyProof.Rows.assign_Tuple]
  refine wpAny_bind (wpAny_standAt ?_)
  unfold unpack
  rw [hn, hstar]
  refine wpAny_bind (wpAny_holding ?_)
  unfold unpackItems
  refine wpAny_bind ?_
  unfold notIterableAtAll
  refine wpAny_bind (wpAny_specialOf ht.typeIs slot_tuple_iter.lookup (wpAny_pure ?_))
  simp only [Bool.false_eq_true, if_false]
  refine wpAny_bind (wpAny_holding (iter_tuple ht (wpAny_bind (wpAny_holding (draw_tuple nt items.size 0 _ _ ⟨_, Heap.get?_push_size _ rfl, rfl, rfl⟩ (ht.push _) (by omega) fun h1 it1 sb => ?_)))))
  rw [show List.take items.size (List.drop 0 items.toList) = items.toList from by rw [List.drop_zero]; exact List.take_of_length_le (by simp), if_neg (by simp)]
  have t1 : IsTup h1 t items := (ht.push _).extBut sb.extBut nt
  refine wpAny_bind (wpAny_holding (tup_end (x1 := x1) ⟨hh, o1, vs1, sb.extBut _ _ n1 (Heap.get?_push_of_some _ g1), d1, c1⟩ n1 it1 t1 (by simp) fun h2 xb => ?_))
  simp only [Option.isSome_none, Bool.false_eq_true, if_false]
  exact wpAny_pure (h h2 fun b o nb e => xb b o nb (sb.extBut b o nb (Heap.get?_push_of_some _ e)))
end
/-- (a, b, ..) = a tuple of that length, while an exception is handled -/
theorem pg_tupH {X : Cx} {es : List Expr} {k n : Nat} {t : TGs} {pos : Pos} (hc : HotC X) (h : PGs X es t) (hn : (assignEach es X.env).length = n := by rfl) (hst : (assignEach es X.env).findIdx? (·.1) = none := by rfl) : PG X (.Tuple es k pos) (gTup X.K n t) := by
  refine ⟨fun pins s σ H v u Q I r hw => ?_⟩
  obtain ⟨a, xs, rfl, hq, hl, hw⟩ := hw
  cases r
  obtain ⟨x1, hot⟩ := hc.at I
  obtain ⟨its, rv, ht, hz⟩ := I.tuple hq
  refine tup_unpack hot ht (by simp [hn, ← hl, rv.length]) hst fun h' hx => ?_
  have J : Inv X pins σ H { s with heap := h' } := I.kept (t' := s.toks) fun b o e => hx b o (Nat.ne_of_lt (Heap.lt_size e)) e
  exact h.run pins _ σ H xs _ Q J (by simpa using rv) hw
/-- an enumerate iterator at its turn i -/
def EnAt (h : Heap) (a e it : Addr) (i : Nat) : Prop := (∃ old, IsEnum h e it ((i : Nat) : Int) old) ∧ h.IsListIter it a i ∧ e ≠ it
theorem EnAt.keeps {h h' : Heap} {a e it : Addr} {i : Nat} (st : EnAt h a e it i) (k : ∀ b ∈ [e, it], ∀ o, h.get? b = some o → h'.get? b = some o) : EnAt h' a e it i :=
  let ⟨⟨old, he⟩, hi, hne⟩ := st
  ⟨⟨old, k e (by simp) _ he⟩, hi.at fun o q => k it (by simp) o q, hne⟩
theorem EnAt.objs {h : Heap} {a e it : Addr} {i : Nat} (st : EnAt h a e it i) : ∀ b ∈ [e, it], ∃ o, h.get? b = some o ∧ ∀ v, o.data ≠ .cell v := fun b hb => by
  obtain ⟨⟨old, he⟩, ⟨o, ho, hc, hd⟩, _⟩ := st
  rcases (show b = e ∨ b = it by simpa using hb) with rfl | rfl
  · exact ⟨_, he, fun v q => nomatch q⟩
  · exact ⟨o, ho, fun v q => by rw [hd] at q; cases q⟩
section
variable {X : Cx} {pins : List (Addr × Obj)} {s : Shared} {σ : St} {H : Hp} {E : Value → Shared → Prop} {a e it : Addr} {i : Nat} {elts : List Expr} {kk : Nat} {tpos : Pos}
theorem en_item (I : Inv X pins σ H s) (hf : ∀ b ∈ [e, it], FpOk X pins H b) (st : EnAt s.heap a e it i) (hg : (Ite X.K a).go i H) :
    wpAny (model X.prog X.w) X.A (pyNext (.ref e)) (fun r s1 => ∃ u, r = some u ∧ wpAny (model X.prog X.w) X.A (letOwnedTupleGo (.Tuple elts kk tpos) (.ref e) u)
      (fun _ s2 => ∃ x H', Inv X pins σ H' s2 ∧ RelV x u ∧ (Ite X.K a).yld i H x H' ∧ EnAt s2.heap a e it (i + 1) ∧ ∀ b ∈ [e, it], H' b = none) E s1) E s := by
  obtain ⟨⟨old, he⟩, hit, hne⟩ := st
  obtain ⟨xs, x, hq, hx⟩ := hg
  obtain ⟨its, rv, p, hz⟩ := I.list hq
  obtain ⟨u, hu, ru⟩ := rv.get hx
  have le : e < s.heap.objs.size := Heap.lt_size he
  have li : it < s.heap.objs.size := by obtain ⟨_, q, _⟩ := hit; exact Heap.lt_size q
  have lt : ∀ b ∈ [e, it], b < s.heap.objs.size := fun b hb => by
    rcases (show b = e ∨ b = it by simpa using hb) with rfl | rfl
    · exact le
    · exact li
  refine wpAny_pyNext_enum_item he hit p.isList (x := u) (by simpa using hu) hne fun h1 out it1 tup _ kp => ⟨_, rfl, wpAny_letOwnedTupleGo_enum (s := { s with heap := h1, toks := s.toks + 1 }) out fun h2 in2 sb => ?_⟩
  have tup2 := (sb.2 _ (Nat.ne_of_gt le)).trans tup
  have kp2 : ∀ b ob, b ∉ [e, it] → s.heap.get? b = some ob → h2.get? b = some ob := fun b ob hb q => by
    have n1 : b ≠ e := fun z => hb (by simp [z])
    exact (sb.2 b n1).trans (kp b ob n1 (fun z => hb (by simp [z])) q)
  have J : Inv X pins σ (upd H s.heap.objs.size (.tup [.int (i : Nat), x])) { s with heap := h2, toks := s.toks + 1 } :=
    I.turnedNew (ch := [e, it]) kp2 hf (Nat.le_refl _) ⟨by show 2 ≤ sizeLine; decide, [.int i s.toks, u], .cons ⟨_, rfl⟩ (.cons ru .nil), ⟨_, tup2, rfl, _, rfl⟩⟩
  have e1 : ((i + 1 : Nat) : Int) = (i : Int) + 1 := by omega
  refine ⟨.ref s.heap.objs.size, _, J, rfl, ⟨_, x, rfl, I.hok.fresh (Nat.le_refl _), rfl, fun ys hy => ?_⟩, ⟨⟨u, by rw [e1]; exact in2⟩, it1.at fun o q => (sb.2 it (Ne.symm hne)).trans q, hne⟩, fun b hb => ?_⟩
  · rw [I.list_inj hy hq]
    exact hx
  · rw [upd_ne (Nat.ne_of_lt (lt b hb))]
    exact (hf b hb).1
theorem en_done {x1 : Addr} (hot : HotAt X.A x1 s.heap) (nx : x1 ≠ it) (I : Inv X pins σ H s) (hf : ∀ b ∈ [e, it], FpOk X pins H b) (st : EnAt s.heap a e it i) (hg : (Ite X.K a).stop i H) :
    wpAny (model X.prog X.w) X.A (pyNext (.ref e)) (fun r s1 => r = none ∧ Inv X pins σ H s1) E s := by
  obtain ⟨⟨old, he⟩, hit, hne⟩ := st
  obtain ⟨xs, hq, hx⟩ := hg
  obtain ⟨its, rv, p, hz⟩ := I.list hq
  obtain ⟨f0, f1, f2, f3, f4, f5⟩ := hf it (by simp)
  have hl := rv.length
  exact enum_end hot nx he hit p.isList (by simp; omega) fun h' eb => ⟨rfl, I.turned (t' := s.toks) (fun b o hb q => eb b o hb q) f0 f1 f3 f4 f5⟩
theorem en_start {ex : Expr} {ta : TA} {R : It → Hp → Prop} {p pos : Pos} (hg : Gl X "enumerate") (hm : X.mg "enumerate" = none) (ha : PA X [ex] ta) (hs : starEach [ex] X.env = [(false, eval ex X.env)]) (I : Inv X pins σ H s) (h : iEnum X.K ta σ H R) :
    wpAny (model X.prog X.w) X.A (eval (.Call (.Name "enumerate" p) [ex] [] pos) X.env) (fun v s1 => wpAny (model X.prog X.w) X.A (pyIter v) (fun itv s2 => ∃ (a e it : Addr) (H' : Hp), itv = .ref e ∧ Inv X pins σ H' s2 ∧ EnAt s2.heap a e it 0 ∧ (∀ b ∈ [e, it], FpOk X pins H' b) ∧ R (Ite X.K a) H') X.xe s1) X.xe s := by
  refine Call_ (ld_blt I hg hm boot_enumerate (PyProof.Rows.callWith_type1 (thn (ha.run pos pins s σ H _ I h) fun us s1 ⟨vs, H1, I1, r1, q1⟩ => ?_) hs rfl))
  obtain ⟨a, xs, rfl, hq, q⟩ := q1
  cases r1 with
  | cons r rr =>
    cases rr
    cases r
    obtain ⟨its, rv, p', hz⟩ := I1.list hq
    refine call_enumerate_list p'.isList fun h' he hit hsz hk => wpAny_pyIter_enum he ⟨a, s1.heap.objs.size + 1, s1.heap.objs.size, H1, rfl, I1.kept (t' := s1.toks) hk, ⟨⟨.none, he⟩, hit, Nat.succ_ne_self _⟩, fun b hb => ?_, q⟩
    have hle : s1.heap.objs.size ≤ b := by
      rcases (show b = s1.heap.objs.size + 1 ∨ b = s1.heap.objs.size by simpa using hb) with z | z
      · rw [z]; exact Nat.le_succ _
      · rw [z]; exact Nat.le_refl _
    exact I1.fpOk hle (I1.hok.fresh hle)
end
section
variable {X : Cx}
/-- the block's context, the pinned objects of the def around kept -/
abbrev blkP (X : Cx) (s : Shared) (H : Hp) (scope : Scope) (cenv : Env) (fp : List Addr) : Cx := { X.blk s H scope cenv fp with pn := X.pn }
theorem to_blkP {s0 s : Shared} {H0 H : Hp} {scope : Scope} {ce : Env} {fp : List Addr} {σ : St} (I : Inv (X.blk s0 H0 scope ce fp) [] σ H s) (h : ∀ p ∈ X.pn, s.heap.get? p.1 = some p.2 ∧ H p.1 = none ∧ p.1 ≠ ce.locals ∧ p.1 ∉ frs X.stack ∧ ∀ v, p.2.data ≠ .cell v) : Inv (blkP X s0 H0 scope ce fp) [] σ H s :=
  ⟨⟨I.ok.mod, I.ok.kind, I.ok.glob, I.ok.blt, I.ok.above, I.ok.inj, I.ok.has, I.ok.cab, I.ok.hd, I.ok.frames, I.ok.stk, I.ok.exf, I.ok.bs, I.ok.bsz, I.ok.noex, I.ok.exfs, I.ok.funs, I.ok.frf⟩,
    I.os, I.bare, I.base, I.loc, I.cell, I.free, I.freeC, fun p hp => h p (by simpa using hp), I.hok, I.len⟩
theorem pe_lcEnH {elt ex : Expr} {elts ifs : List Expr} {kk : Nat} {scope : Scope} {own : List (Str × Nat)} {tpos cp cpos pos : Pos} {ta : TA} {g : TG} {tt : TT} {te : TE} (hc : HotC X) (hN : X.N.Nodup) (hgl : Gl X "enumerate") (hm : X.mg "enumerate" = none) (ha : PA X [ex] ta) (ok : BlkOk X.N X.env.scope scope own)
    (hg : ∀ (s : Shared) (H : Hp) (C : Addr) (cl : List (Str × Addr)) (fp : List Addr), PG (blkP X s H scope (compEnvC scope cl C X.env) fp) (.Tuple elts kk tpos) g)
    (ht : ∀ (s : Shared) (H : Hp) (C : Addr) (cl : List (Str × Addr)) (fp : List Addr), PTs (blkP X s H scope (compEnvC scope cl C X.env) fp) ifs tt)
    (he : ∀ (s : Shared) (H : Hp) (C : Addr) (cl : List (Str × Addr)) (fp : List Addr), PE (blkP X s H scope (compEnvC scope cl C X.env) fp) elt te)
    (hst : starEach [ex] X.env = [(false, eval ex X.env)] := by rfl) (hs : ∀ x, foldedSetIterable (.Call (.Name "enumerate" cp) [ex] [] cpos) X.env x = pure x := by intro _; rfl) :
    PE X (.ListComp elt [⟨.Tuple elts kk tpos, .Call (.Name "enumerate" cp) [ex] [] cpos, ifs, 0⟩] scope pos) (tLc (iEnum X.K ta) g tt te (own.map (·.2))) := by
  refine ⟨fun pins s σ H Q I h => ?_⟩
  rw [eval_ListComp]
  obtain ⟨p, ⟨hh, v1, d1, c1⟩, hp⟩ := hc
  have pm : p ∈ X.pn ++ pins := List.mem_append_left _ hp
  have has : ∀ y ∈ scope.names, y.2 = .free → ∃ c, X.env.cells.lookup y.1 = some c := fun y hy e => I.ok.has _ (ok.free y hy e)
  refine wpAny_comprehension_free (use := none) rfl hs (closure_ok has) ok.kind (fun y hy e => by rw [ok.uniq y hy, e]) (thn (en_start hgl hm ha hst I h) fun xv s1 hx => thn hx fun itv s2 h2 => ?_)
  obtain ⟨a, e, it, H2, rfl, I2, st2, f2, q⟩ := h2
  refine wpAny_newObj_type (newEnv_comp ?_) (by show 0 ≤ sizeLine; decide)
  generalize hD : s2.heap.objs.size = D
  have freeD : H2 D = none := I2.hok.fresh (Nat.le_of_eq hD)
  obtain ⟨W, ⟨m0, w0⟩, turn⟩ := q D freeD
  generalize hs3 : ({ s2 with heap := s2.heap.push { cls := .type "list", data := .seq ([] : List Value).toArray } } : Shared) = s3
  have h3 : s3.heap = s2.heap.push { cls := .type "list", data := .seq ([] : List Value).toArray } := by rw [← hs3]
  have I3 : Inv X pins σ (upd H2 D (.lst [])) s3 := by
    rw [← hs3]
    refine I2.laid (t' := s2.toks) (fun b o z => Heap.get?_push_of_some _ z) (Nat.le_of_eq hD) ⟨Nat.zero_le _, [], 0, .nil, ?_⟩
    rw [← hD]
    exact Heap.get?_push_size _ rfl
  have f3 : ∀ b ∈ [e, it], FpOk X pins (upd H2 D (.lst [])) b ∧ b < s3.heap.objs.size := fun b hb => by
    obtain ⟨o, z, _⟩ := st2.objs b hb
    have lt := Heap.lt_size z
    refine ⟨⟨?_, (f2 b hb).2⟩, by rw [h3, Heap.size_push]; exact Nat.lt_succ_of_lt lt⟩
    rw [upd_ne (by rw [← hD]; exact Nat.ne_of_lt lt)]
    exact (f2 b hb).1
  have st3 : EnAt s3.heap a e it 0 := st2.keeps fun b _ o z => by rw [h3]; exact Heap.get?_push_of_some _ z
  have I4 := block_start I3 ok hN f3
  generalize hcl : cellsFrom (s3.heap.objs.size + 1) scope.names (cloFrom X.env.cells scope.names []) = cl at I4
  have pg := hg s3 (upd H2 D (.lst [])) s3.heap.objs.size cl [e, it]
  have pt := ht s3 (upd H2 D (.lst [])) s3.heap.objs.size cl [e, it]
  have pe := he s3 (upd H2 D (.lst [])) s3.heap.objs.size cl [e, it]
  have p3 := I3.pin p pm
  have kp4 : ∀ b o, s3.heap.get? b = some o → (pushCells (s3.heap.push { cls := .type "dict", data := .dict #[] }) scope.names).get? b = some o := fun b o z => pushCells_keeps _ _ _ _ (Heap.get?_push_of_some _ z)
  show codeAny _ _ (.compStart (.ListComp elt [⟨.Tuple elts kk tpos, .Call (.Name "enumerate" cp) [ex] [] cpos, ifs, 0⟩] scope pos) 0 (.ref e) (.ref D) (compEnvC scope cl s3.heap.objs.size X.env)) (compPost (model X.prog X.w) X.A X.xe none _ (.ref D) s3.heap.objs.size) { s3 with heap := pushCells (s3.heap.push { cls := .type "dict", data := .dict #[] }) scope.names }
  have nfp : ∀ b ∈ [e, it], (upd H2 D (.lst [])) b = none := fun b hb => (f3 b hb).1.1
  generalize hce : compEnvC scope cl s3.heap.objs.size X.env = ce at I4 pg pt pe ⊢
  have cL : ce.locals = s3.heap.objs.size := by subst hce; rfl
  generalize hH3 : upd H2 D (.lst []) = H3 at I3 I4 pg pt pe w0 nfp f3 p3
  generalize hs4 : ({ s3 with heap := pushCells (s3.heap.push { cls := .type "dict", data := .dict #[] }) scope.names } : Shared) = s4 at I4 ⊢
  have k4 : ∀ b o, s3.heap.get? b = some o → s4.heap.get? b = some o := fun b o z => by rw [← hs4]; exact kp4 b o z
  have st4 : EnAt s4.heap a e it 0 := st3.keeps fun b _ o z => k4 b o z
  have J4 : Inv (blkP X s3 H3 scope ce [e, it]) [] (wipe σ (own.map (·.2))) H3 s4 := to_blkP I4 fun r hr => by
    have r3 := I3.pin r (List.mem_append_left _ hr)
    refine ⟨k4 _ _ r3.1, r3.2.1, ?_, fun hm => ?_, r3.2.2.2.2⟩
    · show r.1 ≠ ce.locals
      rw [cL]
      exact Nat.ne_of_lt (Heap.lt_size r3.1)
    · exact (List.mem_cons.mp (I3.stkSub r.1 hm)).elim r3.2.2.1 r3.2.2.2.1
  have stat : ∀ {σ' : St} {H' : Hp} {s' : Shared}, Inv (blkP X s3 H3 scope ce [e, it]) [] σ' H' s' → (∀ b ∈ [e, it], H' b = none) → ∀ b ∈ [e, it], FpOk (blkP X s3 H3 scope ce [e, it]) [] H' b := fun {σ' H' s'} I' hn b hb =>
    ⟨hn b hb, (I'.ok.exf b hb).1, I'.ok.exfs b hb, .inl hb, fun x c z => (I'.ok.exf b hb).2 x c z, fun r hr => (f3 b hb).1.2.2.2.2.2 r (List.mem_append_left _ (show r ∈ X.pn from by simpa using hr))⟩
  have hotAt : ∀ {σ' : St} {H' : Hp} {s' : Shared}, Inv (blkP X s3 H3 scope ce [e, it]) [] σ' H' s' → HotAt X.A p.1 s'.heap := fun {σ' H' s'} I' => ⟨hh, p.2, v1, (I'.pin p (List.mem_append_left _ hp)).1, d1, c1⟩
  have nit : p.1 ≠ it := (f3 it (by simp)).1.2.2.2.2.2 p pm
  refine codeAny_compStart_list ?_ (wpAny_pyIter_enum (Exists.choose_spec st4.1) ?_)
  all_goals
    refine compLoop_any (fun n s' => ∃ i H', Inv (blkP X s3 H3 scope ce [e, it]) [] (wipe σ (own.map (·.2))) H' s' ∧ EnAt s'.heap a e it i ∧ (∀ b ∈ [e, it], H' b = none) ∧ W i n H') ?_ m0 ⟨0, H3, J4, st4, nfp, w0⟩
    rintro n s5 ⟨i, H5, I5, st5, n5, w5⟩
    rcases turn i n H5 w5 with ⟨stop, qq⟩ | ⟨go, Nx, hNx, step⟩
    · refine thnF (en_done (X := blkP X s3 H3 scope ce [e, it]) (E := fun _ _ => False) (hotAt I5) nit I5 (stat I5 n5) st5 stop) fun r s6 ⟨hr, I6⟩ => ?_
      subst hr
      have I7 : Inv X pins σ H5 s6 := I3.call' (ch := [e, it]) I6.os I6.base I6.hok I6.bare fun b hb => ⟨(f3 b hb).1.2.2.2.1, (f3 b hb).1.2.1, (f3 b hb).1.2.2.2.2.1, (f3 b hb).1.2.2.2.2.2⟩
      have nC : H5 s3.heap.objs.size = none := by
        have z : H5 ce.locals = none := I6.free
        rw [cL] at z
        exact z
      obtain ⟨m, hn, _⟩ := I6.loc
      have hn : s6.heap.Ns ce.locals m := hn
      rw [cL] at hn
      obtain ⟨g0, g1, g2, g3, g4, g5⟩ := I3.fpOk (Nat.le_refl _) nC
      exact ⟨m, hn, fun h'' sb => ⟨.ref D, H5, I7.turned (t' := s6.toks) (fun b o hb z => (sb.2 b hb).trans z) g0 g1 g3 g4 g5, rfl, qq⟩⟩
    · refine thnF (en_item (X := blkP X s3 H3 scope ce [e, it]) (E := fun _ _ => False) (elts := elts) (kk := kk) (tpos := tpos) I5 (stat I5 n5) st5 go) fun r s6 ⟨u, hr, h6⟩ => ?_
      subst hr
      refine thnF h6 fun _ s7 ⟨x, H7, I7, r7, y7, st7, n7⟩ => ?_
      refine thnF (pg.run _ s7 _ H7 x u _ (I7.pinned (stat I7 n7) st7.objs) r7 (step x H7 y7)) fun _ s8 ⟨σ8, H8, I8, hw8, q8⟩ => ?_
      refine thnF (pt.run _ s8 σ8 H8 _ I8 q8) fun b s9 ⟨H9, I9, q9⟩ => ?_
      have len8 : (wipe σ (own.map (·.2))).length = σ8.length := by rw [← hw8, wipe_length]
      have fin : ∀ {s' : Shared} {H' : Hp}, Inv (blkP X s3 H3 scope ce [e, it]) ([] ++ pinsAt [e, it] s7.heap) σ8 H' s' → Nx H' → ∃ m, m < n ∧ ∃ i H', Inv (blkP X s3 H3 scope ce [e, it]) [] (wipe σ (own.map (·.2))) H' s' ∧ EnAt s'.heap a e it i ∧ (∀ b ∈ [e, it], H' b = none) ∧ W i m H' := fun {s' H'} I' nx => by
        obtain ⟨m', hm, w'⟩ := hNx H' nx
        have stay : ∀ b ∈ [e, it], ∀ o, s7.heap.get? b = some o → s'.heap.get? b = some o ∧ H' b = none := fun b hb o z =>
          let y := I'.pin (b, o) (List.mem_append_right _ (List.mem_append_right _ (mem_pinsAt hb z)))
          ⟨y.1, y.2.1⟩
        refine ⟨m', hm, i + 1, H', (I'.unpinned (pins := [])).weak len8 (fun j v z => ?_), st7.keeps fun b hb o z => (stay b hb o z).1, fun b hb => ?_, w'⟩
        · rw [← hw8] at z
          exact (wipe_some z).1
        · obtain ⟨o, z, _⟩ := st7.objs b hb
          exact (stay b hb o z).2
      cases b with
      | false =>
        simp only [Bool.false_eq_true, if_false] at q9 ⊢
        exact fin I9 q9
      | true =>
        simp only [if_true] at q9 ⊢
        refine thnF (pe.run _ s9 σ8 H9 _ I9 q9) fun z s10 ⟨yv, H10, I10, r10, acc, hD10, hz10, nx⟩ => ?_
        exact app_ok (X := blkP X s3 H3 scope ce [e, it]) I10 hD10 hz10 r10 fun s11 I11 => fin I11 nx
end
end L2K

set_option Elab.async false
set_option linter.all false
set_option maxRecDepth 100000
set_option maxHeartbeats 4000000
/-! Defs that are given the exception which is handled. -/
namespace L2K
open PySem PySem.Spec PyProof.Rows L2 HotX L2H
/-- a def's promise of the exception p that is handled around the call -/
structure FnX (P : Program) (w : World) (K : PySem.W.Frag) (mg : Str → Option Value) (base : Heap) (CX : CXT) (k : Nat) (f : Addr) (fd : FuncData) (ps : List Str) (sp : Addr → Value → Option Addr → Sp) : Prop where
  len : ∀ a cls d vs H Q E, sp a cls d vs H Q E → vs.length = ps.length
  run : ∀ (A : Around) (outer : List Env) (s : Shared) (H : Hp) (args : Args) (us : List Value) (vs : List V) (Q : VK) (E : XK) (p : Addr × Obj) (cls : Value) (d : Option Addr), RoomH k A → Hot1 A p → Zc cls d p.2 → (∃ us, p.2.data = .fields us) → PinOk outer H s p → Env0 P w K mg base A outer s H → BindsTo s fd args (ps.zip us) → Vals vs us → sp p.1 cls d vs H Q E →
    codeAny (model P w) A (.call (.ref f) args) (CR CX outer P w H s Q E) s
theorem Fun.okX {CX : CXT} {P : Program} {w : World} {K : PySem.W.Frag} {mg : Str → Option Value} {base : Heap} {x qual : Str} {st : Stmt} {f : Addr} {fd : FuncData} {N ps : List Str} {k : Nat} {sp : Addr → Value → Option Addr → Sp} (F : Fun K x qual st f fd) (S : FnScope N ps (defScope st)) (len : ∀ a cls d vs H Q E, sp a cls d vs H Q E → vs.length = ps.length)
    (hbody : ∀ (cdv : Value) (A : Around) (outer : List Env) (s : Shared) (H : Hp) (vs : List V) (Q : VK) (E : XK) (p : Addr × Obj) (cls : Value) (d : Option Addr), Hot1 A p → Zc cls d p.2 → (∃ us, p.2.data = .fields us) → RoomH k (A.deeper (envOfC qual (defScope st) s.heap.objs.size f cdv)) → sp p.1 cls d vs H Q E →
      ∃ t, PSs (cxH CX P w K mg base N qual (defScope st) f cdv A outer s H E p) (defBody st) t ∧ t { nx := fun _ H' => Q .non H', rt := Q } (L2.start N vs) H) : FnX P w K mg base CX (k + 1) f fd ps sp := by
  obtain ⟨oc, od, kV, doc, pm, an, cdv, ct, osl, rfl, lk, hcd⟩ := F.ex
  refine ⟨len, fun A outer s H args us vs Q E p cls d hr hot hz hf pin e0 hb r hsp => ?_⟩
  have KX : K.In s.heap := e0.mod.kin.keeps fun b o e => (e0.bs b o e).1
  have nl : s.heap.NoLimit := e0.mod.nolimit.keeps fun b o e => (e0.bs b o e).1
  refine codeAny_call_function hr.depth (KX _ _ lk) rfl S.co S.gen rfl (PySem.W.codeRec_of KX hcd) (hb _ _ _ _ ?_)
  refine wpAny_newFunctionEnv_cells S.kind (fun ⟨n, v⟩ hy => ?_) fun env he s1 x => ?_
  · rcases S.par n (List.of_mem_zip hy).1 with q | q
    · exact .inl q
    · exact .inr ⟨q, PySem.W.cellsFrom_some _ _ _ (.inl q)⟩
  subst he
  refine ⟨nl.keeps x.toInCall.keep, codeAny_func ?_⟩
  obtain ⟨t, ht, hq⟩ := hbody cdv A outer s H vs Q E p cls d hot hz hf (hr.deeper _) hsp
  refine wpAny_mono (ht.run [] s1 (L2.start N vs) H _ (inv_startH S pin e0 (len _ _ _ _ _ _ _ hsp) r x) hq) (fun fl s' hs => ?_) fun e s' hs => hs
  cases fl with
  | ret u =>
    obtain ⟨v, σ', H', J, rv, q⟩ := hs
    exact ⟨v, H', J.os, J.bare, J.base, J.hok, rv, q⟩
  | next =>
    obtain ⟨σ', H', J, q⟩ := hs
    exact ⟨.non, H', J.os, J.bare, J.base, J.hok, rfl, q⟩
  | brk =>
    obtain ⟨_, _, _, q⟩ := hs
    exact False.elim q
  | cont =>
    obtain ⟨_, _, _, q⟩ := hs
    exact False.elim q
section
variable {X : Cx} {CX : CXT} {k : Nat} {f : Addr} {fd : FuncData} {ps : List Str} {sp : Addr → Value → Option Addr → Sp} {E : St → XK} {x : Str} {q pos : Pos} {e : Expr} {es : List Expr} {t : TA} {p : Addr × Obj} {cls : Value} {d : Option Addr}
/-- f(e, ..), p handled here -/
theorem pe_callX (F : FnX X.prog X.w X.K X.mg X.base CX k f fd ps sp) (hr : RoomH k X.A) (hot : Hot1 X.A p) (hz : Zc cls d p.2) (hf : ∃ us, p.2.data = .fields us) (hp : p ∈ X.pn) (hg : Gl X x) (hm : X.mg x = some (.ref f)) (hk : PySem.W.keepIn X.K (.ref f) = true) (hb : Binds X.K fd ps []) (hx : ∀ σ, PassesAt CX X σ (E σ))
    (ha : PA X (e :: es) t) (hdb : (x == ("__debug__" : Str)) = false := by decide) (he : starEach (e :: es) X.env = (false, eval e X.env) :: starEach es X.env := by rfl) (hpl : (backTo pos (starEach es X.env)).any (·.1) = false := by rfl) :
    PE X (.Call (.Name x q) (e :: es) [] pos) (tCallS (sp p.1 cls d) E t) := by
  refine ⟨fun pins s σ H Q I h => ?_⟩
  refine wpAny_Call_Name_kw (ld_glob I hg hm ?_ hdb)
  refine PySem.W.callWith_K (h₀ := X.base) I.ok.mod.kin hk (thn (ha.run pos pins s σ H _ I h) fun us s1 ⟨vs, H1, J, r, z⟩ => ⟨J.kIn, ?_⟩) he hpl
  have hl : us.length = ps.length := by rw [← r.length]; exact F.len _ _ _ _ _ _ _ z
  have b := hb s1 us J.kIn (by rw [List.append_nil]; exact hl)
  rw [List.append_nil] at b
  have P1 := J.pin p (List.mem_append_left _ hp)
  have pin : PinOk X.stack H1 s1 p := ⟨P1.1, P1.2.1, fun hm => (List.mem_cons.mp (J.stkSub p.1 hm)).elim P1.2.2.1 P1.2.2.2.1, P1.2.2.2.2⟩
  refine wpAny_call (codeAny_mono (F.run X.A X.stack s1 H1 ⟨us, []⟩ us vs Q (E σ) p cls d hr hot hz hf pin J.env0 b r z) fun r s' hq => ?_)
  cases r with
  | error er => exact hx σ pins H1 s1 er s' J hq
  | ok fl =>
    cases fl with
    | ret u => exact J.after hq
    | next => exact False.elim hq
    | brk => exact False.elim hq
    | cont => exact False.elim hq
end
/-- isinstance(e, c), e the pinned exception, its dict at dd -/
def rIsP (K : PySem.W.Frag) (C dd a : Addr) : List V → Hp → VK → Prop := fun xs H Q => ∃ (fs : List (Str × V)) (c : V) (cv : Value) (b : Bool), xs = [.ref a, c] ∧ H dd = some (.xd fs) ∧ (∀ u, RelV c u → u = cv) ∧ PySem.W.kitOne K (.ref C) cv = some b ∧ Q (.bl b) H
theorem call_isP {X : Cx} {C dd : Addr} {p : Addr × Obj} (G : Eg X.K) (T : Ec X.K C) (hp : p ∈ X.pn) (hz : Zc (.ref C) (some dd) p.2) (hf : ∃ vs, p.2.data = .fields vs) : CallR X (.builtin "isinstance") (rIsP X.K C dd p.1) := by
  intro pins s σ H xs us Q I r h
  obtain ⟨fs, c, cv, b, rfl, hd, hcv, e, q⟩ := h
  obtain ⟨u1, u2, rfl, rx, rt⟩ := vals2 r
  cases rx
  obtain rfl := hcv _ rt
  have hx : ObjOk X.prog X.w H s.heap dd (.xd fs) := I.hok dd _ hd
  obtain ⟨mA, hns, hr⟩ := hx
  obtain ⟨od, ho, hl⟩ := lookIn_ns hns
  obtain ⟨vs, hd2⟩ := hf
  have J : PySem.W.InstAt s.heap p.1 p.2 C (some od) := ⟨(I.pin p (List.mem_append_left _ hp)).1, hz.1, by unfold PySem.W.notCls; rw [hd2] <;> rfl, by rw [hz.2]; exact ho⟩
  exact PySem.W.kia_one (PySem.W.kitx_exc (cls_some T.hdC) T.ga T.gg T.exC T.cl G.hn G.ht T.ob) I.kIn J e (fun z => nomatch z) fun tk => ⟨.bl b, H, I.kept (t' := tk) fun _ _ z => z, rfl, q⟩
end L2K

set_option Elab.async false
set_option linter.all false
set_option maxRecDepth 100000
set_option maxHeartbeats 8000000
namespace Ehk
open PySem PySem.Spec PyProof.Rows L2
section
variable {P : Program} {w : World} {K : PySem.W.Frag} {mg : Str → Option Value} {base : Heap} {cE : Addr} {c i : Nat → Addr} {fd : Nat → FuncData}
/-! ### _law_kinds of the exception that is handled -/
def spKindsX (c : Nat → Addr) : Addr → Value → Option Addr → Sp := fun a cls d vs H Q _ => ∃ (j : Nat) (dd : Addr) (fs : List (Str × V)), vs = [.ref a] ∧ j < 17 ∧ cls = .ref (c j) ∧ d = some dd ∧ H dd = some (.xd fs) ∧ ∀ H' q, Same H H' → H' q = some (.lst [.int (j : Nat)]) → Q (.ref q) H'
theorem ok_kindsX {f : Addr} {fa : FuncData} {k : Nat} (F : Fun K "_law_kinds" "_law_kinds" sKinds f fa) (T : Txt K mg cE c i fd) : L2K.FnX P w K mg base CX0 (k + 1) f fa ["_law_e"] (spKindsX c) := by
  refine L2K.Fun.okX F scKinds (fun a cls d vs H Q E h => ?_) (fun cdv A outer s H vs Q E p cls d hot hz hf hr h => ?_)
  · obtain ⟨j, dd, fs, rfl, _⟩ := h
    rfl
  · obtain ⟨j, dd, fs, rfl, hj, rfl, rfl, hx, q⟩ := h
    have hm : p ∈ [p] := List.mem_singleton.mpr rfl
    have hc : L2H.HotC (L2H.cxH CX0 P w K mg base ["_law_e", "_law_some", "_law_k", "_law_so"] "_law_kinds" (defScope sKinds) f cdv A outer s H E p) := ⟨p, hot, hm⟩
    refine ⟨_, pss_cons (ps_set (i := 1) scKinds.nd rfl (.inl rfl) (pe_lst (pa_cons (pe_callB (L2K.call_isP T.eg (T.ec j hj) hm hz hf) (by rfl) T.isi boot_isinstance (pa_cons (pv 0) (pa_cons (pe_glob (v := .ref (c 0)) (by rfl) T.g0 rfl) pa_nil)))
        (pa_cons (pe_callB (L2K.call_isP T.eg (T.ec j hj) hm hz hf) (by rfl) T.isi boot_isinstance (pa_cons (pv 0) (pa_cons (pe_glob (v := .ref (c 1)) (by rfl) T.g1 rfl) pa_nil)))
        (pa_cons (pe_callB (L2K.call_isP T.eg (T.ec j hj) hm hz hf) (by rfl) T.isi boot_isinstance (pa_cons (pv 0) (pa_cons (pe_glob (v := .ref (c 2)) (by rfl) T.g2 rfl) pa_nil)))
        pa_nil)))))
      (pss_cons (ps_set (i := 1) scKinds.nd rfl (.inl rfl) (pe_op op_cat (pv 1) (pe_lst (pa_cons (pe_callB (L2K.call_isP T.eg (T.ec j hj) hm hz hf) (by rfl) T.isi boot_isinstance (pa_cons (pv 0) (pa_cons (pe_glob (v := .ref (c 3)) (by rfl) T.g3 rfl) pa_nil)))
        (pa_cons (pe_callB (L2K.call_isP T.eg (T.ec j hj) hm hz hf) (by rfl) T.isi boot_isinstance (pa_cons (pv 0) (pa_cons (pe_glob (v := .ref (c 4)) (by rfl) T.g4 rfl) pa_nil)))
        (pa_cons (pe_callB (L2K.call_isP T.eg (T.ec j hj) hm hz hf) (by rfl) T.isi boot_isinstance (pa_cons (pv 0) (pa_cons (pe_glob (v := .ref (c 5)) (by rfl) T.g5 rfl) pa_nil)))
        pa_nil))))))
      (pss_cons (ps_set (i := 1) scKinds.nd rfl (.inl rfl) (pe_op op_cat (pv 1) (pe_lst (pa_cons (pe_callB (L2K.call_isP T.eg (T.ec j hj) hm hz hf) (by rfl) T.isi boot_isinstance (pa_cons (pv 0) (pa_cons (pe_glob (v := .ref (c 6)) (by rfl) T.g6 rfl) pa_nil)))
        (pa_cons (pe_callB (L2K.call_isP T.eg (T.ec j hj) hm hz hf) (by rfl) T.isi boot_isinstance (pa_cons (pv 0) (pa_cons (pe_glob (v := .ref (c 7)) (by rfl) T.g7 rfl) pa_nil)))
        (pa_cons (pe_callB (L2K.call_isP T.eg (T.ec j hj) hm hz hf) (by rfl) T.isi boot_isinstance (pa_cons (pv 0) (pa_cons (pe_glob (v := .ref (c 8)) (by rfl) T.g8 rfl) pa_nil)))
        pa_nil))))))
      (pss_cons (ps_set (i := 1) scKinds.nd rfl (.inl rfl) (pe_op op_cat (pv 1) (pe_lst (pa_cons (pe_callB (L2K.call_isP T.eg (T.ec j hj) hm hz hf) (by rfl) T.isi boot_isinstance (pa_cons (pv 0) (pa_cons (pe_glob (v := .ref (c 9)) (by rfl) T.g9 rfl) pa_nil)))
        (pa_cons (pe_callB (L2K.call_isP T.eg (T.ec j hj) hm hz hf) (by rfl) T.isi boot_isinstance (pa_cons (pv 0) (pa_cons (pe_glob (v := .ref (c 10)) (by rfl) T.g10 rfl) pa_nil)))
        (pa_cons (pe_callB (L2K.call_isP T.eg (T.ec j hj) hm hz hf) (by rfl) T.isi boot_isinstance (pa_cons (pv 0) (pa_cons (pe_glob (v := .ref (c 11)) (by rfl) T.g11 rfl) pa_nil)))
        pa_nil))))))
      (pss_cons (ps_set (i := 1) scKinds.nd rfl (.inl rfl) (pe_op op_cat (pv 1) (pe_lst (pa_cons (pe_callB (L2K.call_isP T.eg (T.ec j hj) hm hz hf) (by rfl) T.isi boot_isinstance (pa_cons (pv 0) (pa_cons (pe_glob (v := .ref (c 12)) (by rfl) T.g12 rfl) pa_nil)))
        (pa_cons (pe_callB (L2K.call_isP T.eg (T.ec j hj) hm hz hf) (by rfl) T.isi boot_isinstance (pa_cons (pv 0) (pa_cons (pe_glob (v := .ref (c 13)) (by rfl) T.g13 rfl) pa_nil)))
        (pa_cons (pe_callB (L2K.call_isP T.eg (T.ec j hj) hm hz hf) (by rfl) T.isi boot_isinstance (pa_cons (pv 0) (pa_cons (pe_glob (v := .ref (c 14)) (by rfl) T.g14 rfl) pa_nil)))
        pa_nil))))))
      (pss_cons (ps_set (i := 1) scKinds.nd rfl (.inl rfl) (pe_op op_cat (pv 1) (pe_lst (pa_cons (pe_callB (L2K.call_isP T.eg (T.ec j hj) hm hz hf) (by rfl) T.isi boot_isinstance (pa_cons (pv 0) (pa_cons (pe_glob (v := .ref (c 15)) (by rfl) T.g15 rfl) pa_nil)))
        (pa_cons (pe_callB (L2K.call_isP T.eg (T.ec j hj) hm hz hf) (by rfl) T.isi boot_isinstance (pa_cons (pv 0) (pa_cons (pe_glob (v := .ref (c 16)) (by rfl) T.g16 rfl) pa_nil)))
        pa_nil)))))
      (pss_one (ps_ret (L2K.pe_lcEnH (own := [("_law_k", 2), ("_law_so", 3)]) (g := gTup K 2 (gCons (gName 2) (gCons (gName 3) gNil))) (tt := tB (tVar 3)) hc scKinds.nd (by rfl) T.enu (pa_cons (pv 1) pa_nil)
        (blkOk_by (N := ["_law_e", "_law_some", "_law_k", "_law_so"]) (sc := defScope sKinds) (by decide +kernel))
        (fun _ _ _ _ _ => L2K.pg_tupH ⟨p, hot, hm⟩ (pgs_cons (pg_name (i := 2) scKinds.nd rfl (.inl rfl)) (pgs_cons (pg_name (i := 3) scKinds.nd rfl (.inl rfl)) pgs_nil)))
        (fun _ _ _ _ _ => pts_one (pt_val (pv 3))) (fun _ _ _ _ _ => pv 2))))))))), ?_⟩
    refine ⟨_, rfl, fs, .ref (c 0), _, _, rfl, hx, fun u h => h, T.kit j 0 hj (by decide), ?_⟩
    refine ⟨_, rfl, fs, .ref (c 1), _, _, rfl, hx, fun u h => h, T.kit j 1 hj (by decide), ?_⟩
    refine ⟨_, rfl, fs, .ref (c 2), _, _, rfl, hx, fun u h => h, T.kit j 2 hj (by decide), ?_⟩
    refine ⟨by show 3 ≤ sizeLine; decide, fun p1 n1 => ?_⟩
    have u1 : Same H (upd H p1 (.lst [.bl (decide (j = 0)), .bl (decide (j = 1)), .bl (decide (j = 2))])) := same_upd n1
    have l1 : (upd H p1 (.lst [.bl (decide (j = 0)), .bl (decide (j = 1)), .bl (decide (j = 2))])) p1 = some (.lst [.bl (decide (j = 0)), .bl (decide (j = 1)), .bl (decide (j = 2))]) := upd_same
    generalize upd H p1 (.lst [.bl (decide (j = 0)), .bl (decide (j = 1)), .bl (decide (j = 2))]) = G1 at u1 l1 ⊢
    replace hx := u1 _ _ hx
    refine ⟨_, rfl, ?_⟩
    refine ⟨_, rfl, fs, .ref (c 3), _, _, rfl, hx, fun u h => h, T.kit j 3 hj (by decide), ?_⟩
    refine ⟨_, rfl, fs, .ref (c 4), _, _, rfl, hx, fun u h => h, T.kit j 4 hj (by decide), ?_⟩
    refine ⟨_, rfl, fs, .ref (c 5), _, _, rfl, hx, fun u h => h, T.kit j 5 hj (by decide), ?_⟩
    refine ⟨by show 3 ≤ sizeLine; decide, fun p2 n2 => ?_⟩
    have u2 : Same G1 (upd G1 p2 (.lst [.bl (decide (j = 3)), .bl (decide (j = 4)), .bl (decide (j = 5))])) := same_upd n2
    have l2 : (upd G1 p2 (.lst [.bl (decide (j = 3)), .bl (decide (j = 4)), .bl (decide (j = 5))])) p2 = some (.lst [.bl (decide (j = 3)), .bl (decide (j = 4)), .bl (decide (j = 5))]) := upd_same
    generalize upd G1 p2 (.lst [.bl (decide (j = 3)), .bl (decide (j = 4)), .bl (decide (j = 5))]) = G2 at u2 l2 ⊢
    replace hx := u2 _ _ hx
    have lp2 := u2 _ _ l1
    refine ⟨p1, p2, _, _, rfl, rfl, lp2, l2, by show 6 ≤ sizeLine; decide, fun p3 n3 => ?_⟩
    have u3 : Same G2 (upd G2 p3 (.lst ([.bl (decide (j = 0)), .bl (decide (j = 1)), .bl (decide (j = 2))] ++ [.bl (decide (j = 3)), .bl (decide (j = 4)), .bl (decide (j = 5))]))) := same_upd n3
    have l3 : (upd G2 p3 (.lst ([.bl (decide (j = 0)), .bl (decide (j = 1)), .bl (decide (j = 2))] ++ [.bl (decide (j = 3)), .bl (decide (j = 4)), .bl (decide (j = 5))]))) p3 = some (.lst [.bl (decide (j = 0)), .bl (decide (j = 1)), .bl (decide (j = 2)), .bl (decide (j = 3)), .bl (decide (j = 4)), .bl (decide (j = 5))]) := upd_same
    generalize upd G2 p3 (.lst ([.bl (decide (j = 0)), .bl (decide (j = 1)), .bl (decide (j = 2))] ++ [.bl (decide (j = 3)), .bl (decide (j = 4)), .bl (decide (j = 5))])) = G3 at u3 l3 ⊢
    replace hx := u3 _ _ hx
    refine ⟨_, rfl, ?_⟩
    refine ⟨_, rfl, fs, .ref (c 6), _, _, rfl, hx, fun u h => h, T.kit j 6 hj (by decide), ?_⟩
    refine ⟨_, rfl, fs, .ref (c 7), _, _, rfl, hx, fun u h => h, T.kit j 7 hj (by decide), ?_⟩
    refine ⟨_, rfl, fs, .ref (c 8), _, _, rfl, hx, fun u h => h, T.kit j 8 hj (by decide), ?_⟩
    refine ⟨by show 3 ≤ sizeLine; decide, fun p4 n4 => ?_⟩
    have u4 : Same G3 (upd G3 p4 (.lst [.bl (decide (j = 6)), .bl (decide (j = 7)), .bl (decide (j = 8))])) := same_upd n4
    have l4 : (upd G3 p4 (.lst [.bl (decide (j = 6)), .bl (decide (j = 7)), .bl (decide (j = 8))])) p4 = some (.lst [.bl (decide (j = 6)), .bl (decide (j = 7)), .bl (decide (j = 8))]) := upd_same
    generalize upd G3 p4 (.lst [.bl (decide (j = 6)), .bl (decide (j = 7)), .bl (decide (j = 8))]) = G4 at u4 l4 ⊢
    replace hx := u4 _ _ hx
    have lp4 := u4 _ _ l3
    refine ⟨p3, p4, _, _, rfl, rfl, lp4, l4, by show 9 ≤ sizeLine; decide, fun p5 n5 => ?_⟩
    have u5 : Same G4 (upd G4 p5 (.lst ([.bl (decide (j = 0)), .bl (decide (j = 1)), .bl (decide (j = 2)), .bl (decide (j = 3)), .bl (decide (j = 4)), .bl (decide (j = 5))] ++ [.bl (decide (j = 6)), .bl (decide (j = 7)), .bl (decide (j = 8))]))) := same_upd n5
    have l5 : (upd G4 p5 (.lst ([.bl (decide (j = 0)), .bl (decide (j = 1)), .bl (decide (j = 2)), .bl (decide (j = 3)), .bl (decide (j = 4)), .bl (decide (j = 5))] ++ [.bl (decide (j = 6)), .bl (decide (j = 7)), .bl (decide (j = 8))]))) p5 = some (.lst [.bl (decide (j = 0)), .bl (decide (j = 1)), .bl (decide (j = 2)), .bl (decide (j = 3)), .bl (decide (j = 4)), .bl (decide (j = 5)), .bl (decide (j = 6)), .bl (decide (j = 7)), .bl (decide (j = 8))]) := upd_same
    generalize upd G4 p5 (.lst ([.bl (decide (j = 0)), .bl (decide (j = 1)), .bl (decide (j = 2)), .bl (decide (j = 3)), .bl (decide (j = 4)), .bl (decide (j = 5))] ++ [.bl (decide (j = 6)), .bl (decide (j = 7)), .bl (decide (j = 8))])) = G5 at u5 l5 ⊢
    replace hx := u5 _ _ hx
    refine ⟨_, rfl, ?_⟩
    refine ⟨_, rfl, fs, .ref (c 9), _, _, rfl, hx, fun u h => h, T.kit j 9 hj (by decide), ?_⟩
    refine ⟨_, rfl, fs, .ref (c 10), _, _, rfl, hx, fun u h => h, T.kit j 10 hj (by decide), ?_⟩
    refine ⟨_, rfl, fs, .ref (c 11), _, _, rfl, hx, fun u h => h, T.kit j 11 hj (by decide), ?_⟩
    refine ⟨by show 3 ≤ sizeLine; decide, fun p6 n6 => ?_⟩
    have u6 : Same G5 (upd G5 p6 (.lst [.bl (decide (j = 9)), .bl (decide (j = 10)), .bl (decide (j = 11))])) := same_upd n6
    have l6 : (upd G5 p6 (.lst [.bl (decide (j = 9)), .bl (decide (j = 10)), .bl (decide (j = 11))])) p6 = some (.lst [.bl (decide (j = 9)), .bl (decide (j = 10)), .bl (decide (j = 11))]) := upd_same
    generalize upd G5 p6 (.lst [.bl (decide (j = 9)), .bl (decide (j = 10)), .bl (decide (j = 11))]) = G6 at u6 l6 ⊢
    replace hx := u6 _ _ hx
    have lp6 := u6 _ _ l5
    refine ⟨p5, p6, _, _, rfl, rfl, lp6, l6, by show 12 ≤ sizeLine; decide, fun p7 n7 => ?_⟩
    have u7 : Same G6 (upd G6 p7 (.lst ([.bl (decide (j = 0)), .bl (decide (j = 1)), .bl (decide (j = 2)), .bl (decide (j = 3)), .bl (decide (j = 4)), .bl (decide (j = 5)), .bl (decide (j = 6)), .bl (decide (j = 7)), .bl (decide (j = 8))] ++ [.bl (decide (j = 9)), .bl (decide (j = 10)), .bl (decide (j = 11))]))) := same_upd n7
    have l7 : (upd G6 p7 (.lst ([.bl (decide (j = 0)), .bl (decide (j = 1)), .bl (decide (j = 2)), .bl (decide (j = 3)), .bl (decide (j = 4)), .bl (decide (j = 5)), .bl (decide (j = 6)), .bl (decide (j = 7)), .bl (decide (j = 8))] ++ [.bl (decide (j = 9)), .bl (decide (j = 10)), .bl (decide (j = 11))]))) p7 = some (.lst [.bl (decide (j = 0)), .bl (decide (j = 1)), .bl (decide (j = 2)), .bl (decide (j = 3)), .bl (decide (j = 4)), .bl (decide (j = 5)), .bl (decide (j = 6)), .bl (decide (j = 7)), .bl (decide (j = 8)), .bl (decide (j = 9)), .bl (decide (j = 10)), .bl (decide (j = 11))]) := upd_same
    generalize upd G6 p7 (.lst ([.bl (decide (j = 0)), .bl (decide (j = 1)), .bl (decide (j = 2)), .bl (decide (j = 3)), .bl (decide (j = 4)), .bl (decide (j = 5)), .bl (decide (j = 6)), .bl (decide (j = 7)), .bl (decide (j = 8))] ++ [.bl (decide (j = 9)), .bl (decide (j = 10)), .bl (decide (j = 11))])) = G7 at u7 l7 ⊢
    replace hx := u7 _ _ hx
    refine ⟨_, rfl, ?_⟩
    refine ⟨_, rfl, fs, .ref (c 12), _, _, rfl, hx, fun u h => h, T.kit j 12 hj (by decide), ?_⟩
    refine ⟨_, rfl, fs, .ref (c 13), _, _, rfl, hx, fun u h => h, T.kit j 13 hj (by decide), ?_⟩
    refine ⟨_, rfl, fs, .ref (c 14), _, _, rfl, hx, fun u h => h, T.kit j 14 hj (by decide), ?_⟩
    refine ⟨by show 3 ≤ sizeLine; decide, fun p8 n8 => ?_⟩
    have u8 : Same G7 (upd G7 p8 (.lst [.bl (decide (j = 12)), .bl (decide (j = 13)), .bl (decide (j = 14))])) := same_upd n8
    have l8 : (upd G7 p8 (.lst [.bl (decide (j = 12)), .bl (decide (j = 13)), .bl (decide (j = 14))])) p8 = some (.lst [.bl (decide (j = 12)), .bl (decide (j = 13)), .bl (decide (j = 14))]) := upd_same
    generalize upd G7 p8 (.lst [.bl (decide (j = 12)), .bl (decide (j = 13)), .bl (decide (j = 14))]) = G8 at u8 l8 ⊢
    replace hx := u8 _ _ hx
    have lp8 := u8 _ _ l7
    refine ⟨p7, p8, _, _, rfl, rfl, lp8, l8, by show 15 ≤ sizeLine; decide, fun p9 n9 => ?_⟩
    have u9 : Same G8 (upd G8 p9 (.lst ([.bl (decide (j = 0)), .bl (decide (j = 1)), .bl (decide (j = 2)), .bl (decide (j = 3)), .bl (decide (j = 4)), .bl (decide (j = 5)), .bl (decide (j = 6)), .bl (decide (j = 7)), .bl (decide (j = 8)), .bl (decide (j = 9)), .bl (decide (j = 10)), .bl (decide (j = 11))] ++ [.bl (decide (j = 12)), .bl (decide (j = 13)), .bl (decide (j = 14))]))) := same_upd n9
    have l9 : (upd G8 p9 (.lst ([.bl (decide (j = 0)), .bl (decide (j = 1)), .bl (decide (j = 2)), .bl (decide (j = 3)), .bl (decide (j = 4)), .bl (decide (j = 5)), .bl (decide (j = 6)), .bl (decide (j = 7)), .bl (decide (j = 8)), .bl (decide (j = 9)), .bl (decide (j = 10)), .bl (decide (j = 11))] ++ [.bl (decide (j = 12)), .bl (decide (j = 13)), .bl (decide (j = 14))]))) p9 = some (.lst [.bl (decide (j = 0)), .bl (decide (j = 1)), .bl (decide (j = 2)), .bl (decide (j = 3)), .bl (decide (j = 4)), .bl (decide (j = 5)), .bl (decide (j = 6)), .bl (decide (j = 7)), .bl (decide (j = 8)), .bl (decide (j = 9)), .bl (decide (j = 10)), .bl (decide (j = 11)), .bl (decide (j = 12)), .bl (decide (j = 13)), .bl (decide (j = 14))]) := upd_same
    generalize upd G8 p9 (.lst ([.bl (decide (j = 0)), .bl (decide (j = 1)), .bl (decide (j = 2)), .bl (decide (j = 3)), .bl (decide (j = 4)), .bl (decide (j = 5)), .bl (decide (j = 6)), .bl (decide (j = 7)), .bl (decide (j = 8)), .bl (decide (j = 9)), .bl (decide (j = 10)), .bl (decide (j = 11))] ++ [.bl (decide (j = 12)), .bl (decide (j = 13)), .bl (decide (j = 14))])) = G9 at u9 l9 ⊢
    replace hx := u9 _ _ hx
    refine ⟨_, rfl, ?_⟩
    refine ⟨_, rfl, fs, .ref (c 15), _, _, rfl, hx, fun u h => h, T.kit j 15 hj (by decide), ?_⟩
    refine ⟨_, rfl, fs, .ref (c 16), _, _, rfl, hx, fun u h => h, T.kit j 16 hj (by decide), ?_⟩
    refine ⟨by show 2 ≤ sizeLine; decide, fun p10 n10 => ?_⟩
    have u10 : Same G9 (upd G9 p10 (.lst [.bl (decide (j = 15)), .bl (decide (j = 16))])) := same_upd n10
    have l10 : (upd G9 p10 (.lst [.bl (decide (j = 15)), .bl (decide (j = 16))])) p10 = some (.lst [.bl (decide (j = 15)), .bl (decide (j = 16))]) := upd_same
    generalize upd G9 p10 (.lst [.bl (decide (j = 15)), .bl (decide (j = 16))]) = G10 at u10 l10 ⊢
    replace hx := u10 _ _ hx
    have lp10 := u10 _ _ l9
    refine ⟨p9, p10, _, _, rfl, rfl, lp10, l10, by show 17 ≤ sizeLine; decide, fun p11 n11 => ?_⟩
    have u11 : Same G10 (upd G10 p11 (.lst ([.bl (decide (j = 0)), .bl (decide (j = 1)), .bl (decide (j = 2)), .bl (decide (j = 3)), .bl (decide (j = 4)), .bl (decide (j = 5)), .bl (decide (j = 6)), .bl (decide (j = 7)), .bl (decide (j = 8)), .bl (decide (j = 9)), .bl (decide (j = 10)), .bl (decide (j = 11)), .bl (decide (j = 12)), .bl (decide (j = 13)), .bl (decide (j = 14))] ++ [.bl (decide (j = 15)), .bl (decide (j = 16))]))) := same_upd n11
    have l11 : (upd G10 p11 (.lst ([.bl (decide (j = 0)), .bl (decide (j = 1)), .bl (decide (j = 2)), .bl (decide (j = 3)), .bl (decide (j = 4)), .bl (decide (j = 5)), .bl (decide (j = 6)), .bl (decide (j = 7)), .bl (decide (j = 8)), .bl (decide (j = 9)), .bl (decide (j = 10)), .bl (decide (j = 11)), .bl (decide (j = 12)), .bl (decide (j = 13)), .bl (decide (j = 14))] ++ [.bl (decide (j = 15)), .bl (decide (j = 16))]))) p11 = some (.lst [.bl (decide (j = 0)), .bl (decide (j = 1)), .bl (decide (j = 2)), .bl (decide (j = 3)), .bl (decide (j = 4)), .bl (decide (j = 5)), .bl (decide (j = 6)), .bl (decide (j = 7)), .bl (decide (j = 8)), .bl (decide (j = 9)), .bl (decide (j = 10)), .bl (decide (j = 11)), .bl (decide (j = 12)), .bl (decide (j = 13)), .bl (decide (j = 14)), .bl (decide (j = 15)), .bl (decide (j = 16))]) := upd_same
    generalize upd G10 p11 (.lst ([.bl (decide (j = 0)), .bl (decide (j = 1)), .bl (decide (j = 2)), .bl (decide (j = 3)), .bl (decide (j = 4)), .bl (decide (j = 5)), .bl (decide (j = 6)), .bl (decide (j = 7)), .bl (decide (j = 8)), .bl (decide (j = 9)), .bl (decide (j = 10)), .bl (decide (j = 11)), .bl (decide (j = 12)), .bl (decide (j = 13)), .bl (decide (j = 14))] ++ [.bl (decide (j = 15)), .bl (decide (j = 16))])) = G11 at u11 l11 ⊢
    replace hx := u11 _ _ hx
    have lb : G11 p11 = some (.lst (bools j)) := l11
    have uu : Same H G11 := u1.trans (u2.trans (u3.trans (u4.trans (u5.trans (u6.trans (u7.trans (u8.trans (u9.trans (u10.trans (u11))))))))))
    refine ⟨_, rfl, p11, bools j, rfl, SqL.of lb, fun D hD => lc_enum (K := K) (a := p11) (xs := bools j) (fun n H' => Same G11 H' ∧ H' D = some (.lst (hit j n))) ⟨same_upd hD, upd_same⟩ (fun n H' _ z => SqL.of (z.1 _ _ lb)) ?_ ?_⟩
    · rintro n v H' Tt hv ⟨z1, z2⟩ nT
      obtain ⟨rfl, hn⟩ := bools_at hv
      have nDT : D ≠ Tt := ne_of_none z2 nT
      refine ⟨Tt, _, rfl, SqT.of upd_same, rfl, _, _, rfl, _, _, rfl, rfl, rfl, _, rfl, _, rfl, ?_⟩
      have e1 : (upd H' Tt (.tup [.int (n : Nat), .bl (decide (j = n))])) D = some (.lst (hit j n)) := by rw [upd_ne nDT]; exact z2
      have s1 : Same H' (upd H' Tt (.tup [.int (n : Nat), .bl (decide (j = n))])) := same_upd nT
      by_cases e : j = n
      · subst e
        rw [decide_eq_true rfl]
        rw [decide_eq_true rfl] at e1 s1
        refine iteT ⟨_, rfl, _, e1, ?_, ?_⟩
        · unfold hit; rw [if_neg (Nat.lt_irrefl _)]; decide
        · refine ⟨fun b o hb => ?_, ?_⟩
          · have nb : b ≠ D := fun z => by rw [z, hD] at hb; cases hb
            rw [upd_ne nb]
            exact s1 _ _ (z1 _ _ hb)
          · rw [upd_same]
            unfold hit
            rw [if_neg (Nat.lt_irrefl _), if_pos (Nat.lt_succ_self _)]
            rfl
      · rw [decide_eq_false e]
        rw [decide_eq_false e] at e1 s1
        refine iteF ⟨z1.trans s1, ?_⟩
        rw [e1]
        unfold hit
        by_cases l : j < n
        · rw [if_pos l, if_pos (Nat.lt_succ_of_lt l)]
        · rw [if_neg l, if_neg (by omega)]
    · rintro H' ⟨z1, z2⟩
      refine q H' D (uu.trans z1) ?_
      rw [z2]
      unfold hit
      rw [show (bools j).length = 17 from by simp [bools], if_pos hj]
end
end Ehk
set_option Elab.async false
set_option linter.all false
set_option maxRecDepth 100000
set_option maxHeartbeats 8000000
namespace Ehk
open PySem PySem.Spec PyProof.Rows L2
theorem itT {b : Bool} {A B : Prop} (h : b = true) (a : A) : if b = true then A else B := by rw [if_pos h]; exact a
theorem itF {b : Bool} {A B : Prop} (h : b = false) (a : B) : if b = true then A else B := by rw [h, if_neg Bool.false_ne_true]; exact a
theorem takesN {X : Cx} : L2N.Takes X (fun _ _ _ _ => False) := fun _ _ ⟨_, _, _, _, _, _, _, _, _, _, _, _, _, _, _, _, w⟩ => w.elim
theorem passX {X : Cx} {σ : L2.St} {E : XK} : PassesAt CX0 X σ E := fun _ _ _ _ _ _ z => False.elim z
theorem xfc_of {K : PySem.W.Frag} {C : Addr} (T : Ec K C) : XfC K C := ⟨T.ga, T.gg, T.exC, T.hdC⟩
/-- which except clause takes which of the three -/
structure Exs (K : PySem.W.Frag) (cE : Addr) (c : Nat → Addr) : Prop where
  e12 : PySem.W.exmOne K (.ref (c 12)) (.ref cE) = some true
  e15 : PySem.W.exmOne K (.ref (c 15)) (.ref cE) = some false
  f15 : PySem.W.exmOne K (.ref (c 15)) (.ref (c 15)) = some true
  e16 : PySem.W.exmOne K (.ref (c 16)) (.ref cE) = some false
  f16 : PySem.W.exmOne K (.ref (c 16)) (.ref (c 15)) = some false
  g16 : PySem.W.exmOne K (.ref (c 16)) (.ref (c 16)) = some true
def capD (x : Str) (j : Nat) : PyData := .list [.list [.int (j : Nat)], .str x]
def spCaught (K : PySem.W.Frag) : Sp := fun vs H Q _ => ∃ (v : V) (N : Addr → Prop) (d : PyData), (∀ a, N a → a ≠ sysModules) ∧ vs = [v] ∧ Rp K N H v d ∧ Shows d ∧
  ∀ H' r, Same H H' → Dp K H' (.ref r) (.list [capD d.shown 12, capD d.shown 15, capD d.shown 16]) → Q (.ref r) H'
def tsCap (K : PySem.W.Frag) (c : Nat → Addr) (a : Addr) (cls : Value) (d : Option Addr) (te : TE) : TS :=
  tDrop (tBM K "list" rAppend (tVar 1) (tCons (tLst (tCons (tCallS (spKindsX c a cls d) (fun _ _ _ _ => False) (tCons (tVar 3) tNil)) (tCons (tCB (rRepr K) (tCons te tNil)) tNil))) tNil))
def clCap (K : PySem.W.Frag) (cE : Addr) (c : Nat → Addr) : List (Value × (Addr → Value → Option Addr → TS)) :=
  [(.ref cE, fun a cls d => tsCap K c a cls d (tVar 0)), (.ref (c 15), fun a cls d => tsCap K c a cls d (tXf a cls d (c 15) "name" (tVar 3))), (.ref (c 16), fun a cls d => tsCap K c a cls d (tXf a cls d (c 16) "node" (tVar 3)))]
def tbCap (K : PySem.W.Frag) (c : Nat → Addr) (W : WX) : TS := tSeq (tIfS (tTest (tOp rEq (tVar 2) (tC (.int 0)))) (fun _ σ H => L2M.tMkR (c 12) (spIni K (fld 12)) (tVar 0) σ H fun cls d H' => W cls d σ H') tNext)
  (tSeq (tIfS (tTest (tOp rEq (tVar 2) (tC (.int 1)))) (fun _ σ H => L2M.tMkR (c 15) (spIni K (fld 15)) (tVar 0) σ H fun cls d H' => W cls d σ H') tNext)
  (fun _ σ H => L2M.tMkR (c 16) (spIni K (fld 16)) (tVar 0) σ H fun cls d H' => W cls d σ H'))
def tTry (K : PySem.W.Frag) (cE : Addr) (c : Nat → Addr) : TS := fun D σ H => tbCap K c (L2M.wManyAs K 3 (fun _ _ _ _ => False) D (clCap K cE c)) D σ H
def jn : Nat → Nat
  | 0 => 12
  | 1 => 15
  | _ => 16
theorem jn_lt (n : Nat) : jn n < 17 := by
  match n with
  | 0 => decide
  | 1 => decide
  | n + 2 => exact (by decide : 16 < 17)
/-- what has been found after i turns -/
def Cap (H : Hp) (l : Addr) (x : Str) (its : List V) (i : Nat) : Prop := H l = some (.lst its) ∧ its.length = i ∧
  ∀ n u, its[n]? = some u → ∃ q r, u = .ref q ∧ q ≠ l ∧ r ≠ l ∧ H q = some (.lst [.ref r, .str x]) ∧ H r = some (.lst [.int (jn n : Nat)])
theorem cap_suite {c : Nat → Addr} {K : PySem.W.Frag} {a l dd : Addr} {fs : List (Str × V)} {i : Nat} {x : Str} {G : Hp} {its : List V} {te : TE} {D : Ends} {σ : L2.St} (hl : σ[1]? = some (some (.ref l))) (he : σ[3]? = some (some (.ref a))) (hi : i < 3)
    (hd : G dd = some (.xd fs)) (cp : Cap G l x its i) (hrep : ∀ (G' : Hp) (Q : VK), Same G G' → Q (.str x) G' → tCB (rRepr K) (tCons te tNil) σ G' Q)
    (q : ∀ G' its', (∀ b o, b ≠ l → G b = some o → G' b = some o) → Cap G' l x its' (i + 1) → D.nx σ G') : tsCap K c a (.ref (c (jn i))) (some dd) te D σ G := by
  refine ⟨.ref l, hl, .inl ⟨rfl, its, SqL.of cp.1⟩, .ref a, he, jn i, dd, fs, rfl, jn_lt i, rfl, rfl, hd, fun G1 r s1 h1 => hrep G1 _ s1 ?_⟩
  refine ⟨by show 2 ≤ sizeLine; decide, fun p np => ?_⟩
  obtain ⟨c1, c2, c3⟩ := cp
  have g1 : G1 l = some (.lst its) := s1 _ _ c1
  have pl : p ≠ l := fun z => by rw [z, g1] at np; cases np
  have s2 : Same G1 (upd G1 p (.lst [.ref r, .str x])) := same_upd np
  have rl : r ≠ l := fun z => by
    rw [z, g1] at h1
    cases h1
    obtain ⟨q, r', e, _⟩ := c3 0 _ rfl
    cases e
  refine ⟨l, its, .ref p, rfl, rfl, s2 _ _ g1, ?_, q _ (its ++ [.ref p]) (fun b o nb e => ?_) ⟨upd_same, by rw [List.length_append, c2]; rfl, fun n u hu => ?_⟩⟩
  · rw [c2]
    exact Nat.lt_of_lt_of_le hi (by decide)
  · rw [upd_ne nb]
    exact s2 _ _ (s1 _ _ e)
  · by_cases hn : n < its.length
    · rw [List.getElem?_append_left hn] at hu
      obtain ⟨q', r', e1, e2, e3, e4, e5⟩ := c3 n u hu
      exact ⟨q', r', e1, e2, e3, by rw [upd_ne e2]; exact s2 _ _ (s1 _ _ e4), by rw [upd_ne e3]; exact s2 _ _ (s1 _ _ e5)⟩
    · have e : n = its.length := by
        have := (List.getElem?_eq_some_iff.mp hu).1
        rw [List.length_append] at this
        have h1' : ([V.ref p] : List V).length = 1 := rfl
        omega
      subst e
      rw [List.getElem?_append_right (Nat.le_refl _), Nat.sub_self] at hu
      cases hu
      refine ⟨p, r, rfl, pl, rl, by rw [upd_ne pl, upd_same], ?_⟩
      rw [upd_ne rl, c2]
      exact s2 _ _ h1
/-- the new exception in the air: its dict alone is kept -/
theorem air {H : Hp} {a dx C : Addr} {f : Str} {y : V} (ha : H a = none) (hd : (upd H a (exo a C none)) dx = none) (hne : dx ≠ a) :
    Same H (upd (del (upd (upd (upd H a (exo a C none)) dx (exd dx [(f, y)])) a (exo a C (some dx))) a) dx (.xd [(f, y)])) ∧ H dx = none := by
  have hd' : H dx = none := by rw [upd_ne hne] at hd; exact hd
  refine ⟨fun b o e => ?_, hd'⟩
  have n1 : b ≠ a := ne_of_none e ha
  have n2 : b ≠ dx := ne_of_none e hd'
  rw [upd_ne n2, del_ne n1, upd_ne n1, upd_ne n2, upd_ne n1]
  exact e
theorem raised {K : PySem.W.Frag} {C : Addr} {f : Str} {te : TE} {σ : L2.St} {H : Hp} {y : V} {Q : XK} (T : Ec K C) (Tf : Ef K C f) (ht : ∀ R : VK, R y H → te σ H R)
    (q : ∀ (dx : Addr) (G : Hp), Same H G → H dx = none → G dx = some (.xd [(f, y)]) → Q (.ref C) (some dx) G) : L2M.tMkR C (spIni K f) te σ H Q := by
  refine ht _ fun a ha => ⟨a, C, y, rfl, T, Tf, upd_same, fun dx hdx hne => ⟨rfl, dx, [(f, y)], upd_same, by rw [upd_ne hne, upd_same], (air (f := f) (y := y) ha hdx hne).2, ?_⟩⟩
  exact q dx _ (air ha hdx hne).1 (air (f := f) (y := y) ha hdx hne).2 upd_same
section
variable {P : Program} {w : World} {K : PySem.W.Frag} {mg : Str → Option Value} {base : Heap} {cE : Addr} {c i : Nat → Addr} {fd : Nat → FuncData}
theorem scCaught : FnScope ["_law_x", "_law_found", "_law_k", "_law_e"] ["_law_x"] (defScope sCaught) := ⟨rfl, rfl, rfl, by decide +kernel, rfl, by decide +kernel, by decide +kernel⟩
abbrev capX (P : Program) (w : World) (K : PySem.W.Frag) (mg : Str → Option Value) (base : Heap) (f : Addr) (cdv : Value) (A : Around) (outer : List Env) (s : Shared) (H : Hp) (E : XK) : Cx := (cxOf CX0 P w K mg base ["_law_x", "_law_found", "_law_k", "_law_e"] "_law_caught" (defScope sCaught) f cdv A outer s H E).nox
theorem ok_caught {f fK : Addr} {fa faK : FuncData} (F : Fun K "_law_caught" "_law_caught" sCaught f fa) (T : Txt K mg cE c i fd) (S : Exs K cE c) (FK : Fun K "_law_kinds" "_law_kinds" sKinds fK faK) (gK : mg "_law_kinds" = some (.ref fK)) (kK : PySem.W.keepIn K (.ref fK) = true) (bK : Binds K faK ["_law_e"] []) :
    FnG P w K mg base CX0 4 f fa ["_law_x"] (spCaught K) := by
  have GK : L2K.FnX P w K mg base CX0 1 fK faK ["_law_e"] (spKindsX c) := ok_kindsX FK T
  refine F.okG scCaught (fun vs H Q E h => ?_) (fun cdv A outer s H vs Q E hr hgd h => ?_)
  · obtain ⟨v, N, d, _, rfl, _⟩ := h
    rfl
  · obtain ⟨v, N, d, hN, rfl, hv, hsh, q⟩ := h
    have hu : (cxOf CX0 P w K mg base ["_law_x", "_law_found", "_law_k", "_law_e"] "_law_caught" (defScope sCaught) f cdv A outer s H E).nox.A.units + 64 < cLine := hr.units
    have hgx : (cxOf CX0 P w K mg base ["_law_x", "_law_found", "_law_k", "_law_e"] "_law_caught" (defScope sCaught) f cdv A outer s H E).nox.A.guards = some [] := guards_deeper hgd
    have r1 : Room 1 (A.deeper (envOfC "_law_caught" (defScope sCaught) s.heap.objs.size f cdv)) := hr.mono (by decide)
    have r2 : Room 2 (A.deeper (envOfC "_law_caught" (defScope sCaught) s.heap.objs.size f cdv)) := hr.mono (by decide)
    refine ⟨_, pss_cons (ps_set (i := 1) scCaught.nd rfl (.inl rfl) (pe_lst pa_nil))
      (pss_cons (ps_for PassesOwn.never rfl (pi_range1 (by rfl) T.ran (pa_cons pe_int pa_nil)) (pg_name (i := 2) scCaught.nd rfl (.inl rfl))
        (pss_one (show PS _ _ (tTry K cE c) from L2M.ps_try_manyAs (i := 3) (tb := tbCap K c) (l := clCap K cE c) (Wout := fun _ _ _ _ => False) rfl rfl scCaught.nd rfl rfl takesN
          (fun W pn xe tk _ => pss_cons (ps_if (pt_cmpR op_eq (pv 2) pe_int (nomark _)) (pss_one (L2N.ps_raise rfl tk (L2M.pmk_R (T.ec 12 (by decide)) (T.iC 12 (by decide) (by decide)) (T.iT 12 (by decide) (by decide)) (T.ini P w base 12 (by decide) (by decide)) r2 pass0 (by rfl) T.g12 (pv 0) (T.bP 12 (by decide) (by decide))))) pss_nil)
            (pss_cons (ps_if (pt_cmpR op_eq (pv 2) pe_int (nomark _)) (pss_one (L2N.ps_raise rfl tk (L2M.pmk_R (T.ec 15 (by decide)) (T.iC 15 (by decide) (by decide)) (T.iT 15 (by decide) (by decide)) (T.ini P w base 15 (by decide) (by decide)) r2 pass0 (by rfl) T.g15 (pv 0) (T.bP 15 (by decide) (by decide))))) pss_nil)
            (pss_one (L2N.ps_raise rfl tk (L2M.pmk_R (T.ec 16 (by decide)) (T.iC 16 (by decide) (by decide)) (T.iT 16 (by decide) (by decide)) (T.ini P w base 16 (by decide) (by decide)) r2 pass0 (by rfl) T.g16 (pv 0) (T.bP 16 (by decide) (by decide)))))))
          (.cons (c := .ref cE) (ts := fun a cls d => tsCap K c a cls d (tVar 0)) ⟨by rfl, by decide, .inl T.gE⟩
            (fun a oe cls dd pn hz hf => pss_one (by unfold tsCap; exact (ps_expr (pe_bm PySem.F.plainAttrs_list PySem.F.slot_list_append PySem.F.type_list_append mt_append (pv 1) (pa_cons (pe_lst (pa_cons
              (L2K.pe_callX (p := (a, oe)) (E := fun _ _ _ _ => False) GK (L2H.roomH_mark r1 _) (hf.elim fun us e => ⟨rfl, us, e, hz.2.2 us e⟩) hz.zc hf List.mem_cons_self (by rfl) gK kK bK (fun _ => passX) (pa_cons (pv 3) pa_nil))
              (pa_cons (pe_callB (call_repr (by exact hgx) (by exact hu)) (by rfl) T.rep boot_repr (pa_cons (pv 0) pa_nil)) pa_nil))) pa_nil)))))
          (.cons (c := .ref (c 15)) (ts := fun a cls d => tsCap K c a cls d (tXf a cls d (c 15) "name" (tVar 3))) ⟨by rfl, by decide, .inl T.g15⟩
            (fun a oe cls dd pn hz hf => pss_one (by unfold tsCap; exact (ps_expr (pe_bm PySem.F.plainAttrs_list PySem.F.slot_list_append PySem.F.type_list_append mt_append (pv 1) (pa_cons (pe_lst (pa_cons
              (L2K.pe_callX (p := (a, oe)) (E := fun _ _ _ _ => False) GK (L2H.roomH_mark r1 _) (hf.elim fun us e => ⟨rfl, us, e, hz.2.2 us e⟩) hz.zc hf List.mem_cons_self (by rfl) gK kK bK (fun _ => passX) (pa_cons (pv 3) pa_nil))
              (pa_cons (pe_callB (call_repr (by exact hgx) (by exact hu)) (by rfl) T.rep boot_repr (pa_cons (pe_xf (C := c 15) (xfc_of (T.ec 15 (by decide))) (T.ef 15 (by decide) (by decide)).no hz.zc hf (pv 3)) pa_nil)) pa_nil))) pa_nil)))))
          (.cons (c := .ref (c 16)) (ts := fun a cls d => tsCap K c a cls d (tXf a cls d (c 16) "node" (tVar 3))) ⟨by rfl, by decide, .inl T.g16⟩
            (fun a oe cls dd pn hz hf => pss_one (by unfold tsCap; exact (ps_expr (pe_bm PySem.F.plainAttrs_list PySem.F.slot_list_append PySem.F.type_list_append mt_append (pv 1) (pa_cons (pe_lst (pa_cons
              (L2K.pe_callX (p := (a, oe)) (E := fun _ _ _ _ => False) GK (L2H.roomH_mark r1 _) (hf.elim fun us e => ⟨rfl, us, e, hz.2.2 us e⟩) hz.zc hf List.mem_cons_self (by rfl) gK kK bK (fun _ => passX) (pa_cons (pv 3) pa_nil))
              (pa_cons (pe_callB (call_repr (by exact hgx) (by exact hu)) (by rfl) T.rep boot_repr (pa_cons (pe_xf (C := c 16) (xfc_of (T.ec 16 (by decide))) (T.ef 16 (by decide) (by decide)).no hz.zc hf (pv 3)) pa_nil)) pa_nil))) pa_nil)))))
          .nil))))))
      (pss_one (ps_ret (pv 1)))), ?_⟩
    refine ⟨by show 0 ≤ sizeLine; decide, fun l nl => ?_⟩
    have u0 : Same H (upd H l (.lst [])) := same_upd nl
    have l0 : (upd H l (.lst [])) l = some (.lst []) := upd_same
    show tSeq _ _ _ _ (upd H l (.lst []))
    generalize upd H l (.lst []) = H0 at u0 l0 ⊢
    refine ⟨3, rfl, by decide, by decide, for_range (lo := 0) (n := 3) (fun i σ H' => ∃ (ko eo : Option V) (its : List V), σ = [some v, some (.ref l), ko, eo] ∧ Same H H' ∧ Cap H' l d.shown its i)
      ⟨none, none, [], rfl, u0, l0, rfl, fun n u hu => by cases hu⟩ ?_ ?_⟩
    · rintro i σ H' hi ⟨ko, eo, its, rfl, s1, cp⟩
      have fin : ∀ {j : Nat} {f : Str} {te : TE} {D : Ends} {dx : Addr} {G : Hp} {a : Addr} {k0 : V}, j = jn i → Same H' G → H' dx = none → G dx = some (.xd [(f, v)]) →
          (∀ (G' : Hp) (Q : VK), Same G G' → Q (.str d.shown) G' → tCB (rRepr K) (tCons te tNil) [some v, some (.ref l), some k0, some (.ref a)] G' Q) →
          (∀ G' its', Same H G' → Cap G' l d.shown its' (i + 1) → D.nx [some v, some (.ref l), some k0, some (.ref a)] G') →
          tsCap K c a (.ref (c j)) (some dx) te D [some v, some (.ref l), some k0, some (.ref a)] G := by
        intro j f te D dx G a k0 ej sG hdx hd hrep q
        subst ej
        obtain ⟨c1, c2, c3⟩ := cp
        refine cap_suite rfl rfl hi hd ⟨sG _ _ c1, c2, fun n u hu => ?_⟩ hrep fun G' its' k cp' => ?_
        · obtain ⟨q', r', e1, e2, e3, e4, e5⟩ := c3 n u hu
          exact ⟨q', r', e1, e2, e3, sG _ _ e4, sG _ _ e5⟩
        · refine q G' its' (fun b o e => k b o (fun z => ?_) (sG _ _ (s1 _ _ e))) cp'
          rw [z, nl] at e
          cases e
      have rp : ∀ {G' : Hp}, Same H' G' → Rp K N G' v d := fun k => hv.same (s1.trans k)
      match i, hi with
      | 0, _ =>
        refine ⟨_, rfl, rfl, _, rfl, itT (by decide) ?_⟩
        refine raised (y := v) (T.ec 12 (by decide)) (T.ef 12 (by decide) (by decide)) (fun R r => ⟨v, rfl, r⟩) fun dx G sG hdx hd => ?_
        exact ⟨true, S.e12, (fun _ a ha => fin (f := fld 12) (j := 12) rfl sG hdx hd (fun G' Q' k r => ⟨v, rfl, N, v, d, hN, rfl, rp (sG.trans k), hsh, r⟩) fun G' its' k cp' => ⟨_, none, its', rfl, k, cp'⟩), fun z => Bool.noConfusion z⟩
      | 1, _ =>
        refine ⟨_, rfl, rfl, _, rfl, itF (by decide) ?_⟩
        refine ⟨_, rfl, rfl, _, rfl, itT (by decide) ?_⟩
        refine raised (y := v) (T.ec 15 (by decide)) (T.ef 15 (by decide) (by decide)) (fun R r => ⟨v, rfl, r⟩) fun dx G sG hdx hd => ?_
        exact ⟨false, S.e15, (fun z => Bool.noConfusion z), fun _ => ⟨true, S.f15, (fun _ a ha => fin (f := fld 15) (j := 15) rfl sG hdx hd (fun G' Q' k r => ⟨.ref a, rfl, rfl, rfl, dx, _, v, rfl, k _ _ hd, rfl, N, v, d, hN, rfl, rp (sG.trans k), hsh, r⟩) fun G' its' k cp' => ⟨_, none, its', rfl, k, cp'⟩), fun z => Bool.noConfusion z⟩⟩
      | 2, _ =>
        refine ⟨_, rfl, rfl, _, rfl, itF (by decide) ?_⟩
        refine ⟨_, rfl, rfl, _, rfl, itF (by decide) ?_⟩
        dsimp only [tNext]
        refine raised (y := v) (T.ec 16 (by decide)) (T.ef 16 (by decide) (by decide)) (fun R r => ⟨v, rfl, r⟩) fun dx G sG hdx hd => ?_
        exact ⟨false, S.e16, (fun z => Bool.noConfusion z), fun _ => ⟨false, S.f16, (fun z => Bool.noConfusion z), fun _ => ⟨true, S.g16, (fun _ a ha => fin (f := fld 16) (j := 16) rfl sG hdx hd (fun G' Q' k r => ⟨.ref a, rfl, rfl, rfl, dx, _, v, rfl, k _ _ hd, rfl, N, v, d, hN, rfl, rp (sG.trans k), hsh, r⟩) fun G' its' k cp' => ⟨_, none, its', rfl, k, cp'⟩), fun z => Bool.noConfusion z⟩⟩⟩
    · rintro σ H' ⟨ko, eo, its, rfl, s1, c1, c2, c3⟩
      refine ⟨_, rfl, q H' l s1 ?_⟩
      match its, c2, c1, c3 with
      | [a, b, e], _, c1, c3 =>
        obtain ⟨q0, r0, rfl, _, _, a1, a2⟩ := c3 0 _ rfl
        obtain ⟨q1, r1, rfl, _, _, b1, b2⟩ := c3 1 _ rfl
        obtain ⟨q2, r2, rfl, _, _, e1, e2⟩ := c3 2 _ rfl
        exact .lst (SqL.of c1) (.cons (.lst (SqL.of a1) (.cons (.lst (SqL.of a2) (.cons (.int _) .nil)) (.cons (.str _) .nil)))
          (.cons (.lst (SqL.of b1) (.cons (.lst (SqL.of b2) (.cons (.int _) .nil)) (.cons (.str _) .nil)))
          (.cons (.lst (SqL.of e1) (.cons (.lst (SqL.of e2) (.cons (.int _) .nil)) (.cons (.str _) .nil))) .nil)))
end
end Ehk

set_option Elab.async false
set_option linter.all false
set_option maxRecDepth 100000
set_option maxHeartbeats 8000000
namespace Ehk
open PySem PySem.Spec PyProof.Rows L2
theorem dpa_pt {K : PySem.W.Frag} {H : Hp} : ∀ (its : List V) (ds : List PyData), its.length = ds.length → (∀ (k : Nat) (v : V) (d : PyData), its[k]? = some v → ds[k]? = some d → Dp K H v d) → DpAll K H its ds
  | [], [], _, _ => .nil
  | [], _ :: _, e, _ => by cases e
  | _ :: _, [], e, _ => by cases e
  | v :: vs, d :: ds, e, h => .cons (h 0 v d rfl rfl) (dpa_pt vs ds (by simpa using e) fun k v' d' h1 h2 => h (k + 1) v' d' (by simpa using h1) (by simpa using h2))
theorem dpa_app {K : PySem.W.Frag} {H : Hp} : ∀ {xs ys : List V} {ds es : List PyData}, DpAll K H xs ds → DpAll K H ys es → DpAll K H (xs ++ ys) (ds ++ es)
  | _, _, _, _, .nil, h => h
  | _, _, _, _, .cons a b, h => .cons a (dpa_app b h)
mutual
theorem Dp.same {K : PySem.W.Frag} {H H' : Hp} (e : Same H H') : ∀ (d : PyData) (v : V), Dp K H v d → Dp K H' v d
  | .none, _, h => by cases h; exact .non
  | .bool b, _, h => by cases h; exact .bl b
  | .int i, _, h => by cases h; exact .int i
  | .str x, _, h => by cases h; exact .str x
  | .list ds, _, h => by
    cases h with
    | lst a c => exact .lst (e.seq a) (Dp.sameAll e ds _ c)
  | .tuple ds, _, h => by
    cases h with
    | tup a c => exact .tup (e.seqT a) (Dp.sameAll e ds _ c)
  | .dict kvs, _, h => by cases h
theorem Dp.sameAll {K : PySem.W.Frag} {H H' : Hp} (e : Same H H') : ∀ (ds : List PyData) (vs : List V), DpAll K H vs ds → DpAll K H' vs ds
  | [], _, h => by cases h; exact .nil
  | d :: ds, _, h => by
    cases h with
    | cons h1 h2 => exact .cons (Dp.same e d _ h1) (Dp.sameAll e ds _ h2)
end
theorem neD {K : PySem.W.Frag} {x y : V} {d : PyData} {H : Hp} {Q : VK} (hx : Dp K H x d) (hy : Dp K H y d) (hs : SeqAt.shaped d = true) (q : Q (.bl false) H) : rNeD K x y H Q := by
  refine ⟨d, d, hx, hy, hs, hs, ?_⟩
  rw [SeqAt.eqv_refl d (SeqAt.canLay_of_shaped hs)]
  exact q
/-- rows so far of a list comprehension -/
def Rows (H : Hp) (D : Addr) (F : Nat → List V) (n : Nat) : Prop := ∃ its, H D = some (.lst its) ∧ its.length = n ∧ ∀ k v, its[k]? = some v → ∃ q, v = .ref q ∧ q ≠ D ∧ H q = some (.lst (F k))
theorem Rows.step {H H' : Hp} {D q : Addr} {F : Nat → List V} {n : Nat} (r : Rows H D F n) (k : Same H H') (hq : H' q = some (.lst (F n))) (nq : q ≠ D) : ∃ acc, H' D = some (.lst acc) ∧ acc.length = n ∧ Rows (upd H' D (.lst (acc ++ [.ref q]))) D F (n + 1) := by
  obtain ⟨its, h1, h2, h3⟩ := r
  refine ⟨its, k _ _ h1, h2, its ++ [.ref q], upd_same, by rw [List.length_append, h2]; rfl, fun j v hv => ?_⟩
  by_cases hj : j < its.length
  · rw [List.getElem?_append_left hj] at hv
    obtain ⟨q', e1, e2, e3⟩ := h3 j v hv
    exact ⟨q', e1, e2, by rw [upd_ne e2]; exact k _ _ e3⟩
  · have e : j = its.length := by
      have := (List.getElem?_eq_some_iff.mp hv).1
      rw [List.length_append] at this
      have h1' : ([V.ref q] : List V).length = 1 := rfl
      omega
    subst e
    rw [List.getElem?_append_right (Nat.le_refl _), Nat.sub_self] at hv
    cases hv
    exact ⟨q, rfl, nq, by rw [upd_ne nq, hq, h2]⟩
theorem Rows.data {K : PySem.W.Frag} {H : Hp} {D : Addr} {F : Nat → List V} {fd : Nat → PyData} {n : Nat} (hF : ∀ j q, H q = some (.lst (F j)) → Dp K H (.ref q) (fd j)) (r : Rows H D F n) :
    ∃ its, H D = some (.lst its) ∧ its.length = n ∧ DpAll K H its ((List.range n).map fd) := by
  obtain ⟨its, h1, h2, h3⟩ := r
  refine ⟨its, h1, h2, dpa_pt _ _ (by simp [h2]) fun k v d hv hd => ?_⟩
  obtain ⟨q, rfl, _, hq⟩ := h3 k v hv
  rw [List.getElem?_map] at hd
  have hk : k < n := by rw [← h2]; exact (List.getElem?_eq_some_iff.mp hv).1
  rw [List.getElem?_range hk] at hd
  cases hd
  exact hF k q hq
theorem lc_rows {K : PySem.W.Frag} {u : Addr} {xs : List V} {te : TE} {σ : L2.St} {G : Hp} {F : Nat → List V} {fd : Nat → PyData} {Q : VK} {N : Nat} (hN : xs.length = N) (hu : G u = some (.lst xs)) (hz : N < 1000) (hF : ∀ j (H : Hp) q, H q = some (.lst (F j)) → Dp K H (.ref q) (fd j))
    (h0 : ∀ j, ∃ v r, F j = v :: r ∧ ∀ q, v ≠ V.ref q) (hw : ∀ x, wipe ((wipe σ [9]).set 9 x) [9] = wipe σ [9])
    (ht : ∀ j x H' (R : VK), xs[j]? = some x → Same G H' → (∀ H'' q, Same H' H'' → H'' q = some (.lst (F j)) → R (.ref q) H'') → te ((wipe σ [9]).set 9 (some x)) H' R)
    (q : ∀ H' D, Same G H' → Dp K H' (.ref D) (.list ((List.range N).map fd)) → Q (.ref D) H') : ∀ D, G D = none → ∃ W : Nat → Nat → Hp → Prop, (∃ m, W 0 m (upd G D (.lst []))) ∧ ∀ i m H, W i m H →
      ((Itl K u).stop i H ∧ Q (.ref D) H) ∨ ((Itl K u).go i H ∧ ∃ Nx : Hp → Prop, (∀ H', Nx H' → ∃ m', m' < m ∧ W (i + 1) m' H') ∧ ∀ x H', (Itl K u).yld i H x H' → gName 9 x (wipe σ [9]) H' fun σ2 H2 => wipe σ2 [9] = wipe σ [9] ∧ tYes σ2 H2 fun b H3 =>
        if b = true then te σ2 H3 fun y H4 => ∃ acc, H4 D = some (.lst acc) ∧ acc.length < sizeLine ∧ Nx (upd H4 D (.lst (acc ++ [y]))) else Nx H3) := by
  subst hN
  intro D hD
  refine lc_list (K := K) (a := u) (xs := xs) (Qd := fun H => Q (.ref D) H) (fun n H' => Same G H' ∧ Rows H' D F n) ⟨same_upd hD, [], upd_same, rfl, fun k v hv => by cases hv⟩ (fun n H' _ z => SqL.of (z.1 _ _ hu)) ?_ ?_
  · rintro n x H' hx ⟨k, r⟩
    refine ⟨hw _, ?_⟩
    dsimp only [tYes]
    rw [if_pos rfl]
    refine ht n x H' _ hx k fun H'' q' k2 hq => ?_
    have nD : q' ≠ D := fun z => by
      obtain ⟨its, h1, h2, h3⟩ := r
      obtain ⟨v, r', e, hv⟩ := h0 n
      have h4 := k2 _ _ h1
      rw [← z, hq] at h4
      cases h4
      obtain ⟨b, e2, _⟩ := h3 0 v (by rw [e]; rfl)
      exact hv b e2
    obtain ⟨acc, a1, a2, a3⟩ := r.step k2 hq nD
    refine ⟨acc, a1, ?_, fun b o hb => ?_, a3⟩
    · rw [a2]
      have := (List.getElem?_eq_some_iff.mp hx).1
      have h3 : 1000 ≤ sizeLine := by decide
      omega
    · rw [upd_ne (fun z => by rw [z, hD] at hb; cases hb)]
      exact k2 _ _ (k _ _ hb)
  · rintro H' ⟨k, r⟩
    obtain ⟨its, h1, h2, h3⟩ := Rows.data (K := K) (fd := fd) (fun j q' => hF j H' q') r
    exact q H' D k (.lst (SqL.of h1) h3)
theorem lc_nums {σ : L2.St} {G : Hp} {n : Nat} {Q : VK} (hz : n < 1000) (hw : ∀ x, wipe ((wipe σ [10]).set 10 x) [10] = wipe σ [10]) (hl : ∀ x, ((wipe σ [10]).set 10 (some x))[10]? = some (some x))
    (q : ∀ H' D its, Same G H' → H' D = some (.lst its) → its.length = n → (∀ K : PySem.W.Frag, DpAll K H' its ((List.range n).map fun j => .list [.int (j : Nat)])) → Q (.ref D) H') : ∀ D, G D = none → ∃ W : Nat → Nat → Hp → Prop, (∃ m, W 0 m (upd G D (.lst []))) ∧ ∀ i m H, W i m H →
      ((Itr 0 n).stop i H ∧ Q (.ref D) H) ∨ ((Itr 0 n).go i H ∧ ∃ Nx : Hp → Prop, (∀ H', Nx H' → ∃ m', m' < m ∧ W (i + 1) m' H') ∧ ∀ x H', (Itr 0 n).yld i H x H' → gName 10 x (wipe σ [10]) H' fun σ2 H2 => wipe σ2 [10] = wipe σ [10] ∧ tYes σ2 H2 fun b H3 =>
        if b = true then tLst (tCons (tVar 10) tNil) σ2 H3 fun y H4 => ∃ acc, H4 D = some (.lst acc) ∧ acc.length < sizeLine ∧ Nx (upd H4 D (.lst (acc ++ [y]))) else Nx H3) := by
  intro D hD
  refine lc_range (lo := 0) (n := n) (Qd := fun H => Q (.ref D) H) (fun m H' => Same G H' ∧ Rows H' D (fun j => [V.int (j : Nat)]) m) ⟨same_upd hD, [], upd_same, rfl, fun k v hv => by cases hv⟩ ?_ ?_
  · rintro m H' hm ⟨k, r⟩
    refine ⟨hw _, ?_⟩
    dsimp only [tYes]
    rw [if_pos rfl]
    refine ⟨_, hl _, by show 1 ≤ sizeLine; decide, fun p np => ?_⟩
    have k2 : Same H' (upd H' p (.lst [.int (0 + (m : Nat))])) := same_upd np
    have nD : p ≠ D := fun z => by
      obtain ⟨its, h1, _⟩ := r
      rw [z, h1] at np
      cases np
    obtain ⟨acc, a1, a2, a3⟩ := r.step k2 (by rw [upd_same]; show some (HO.lst [V.int (0 + ((m : Nat) : Int))]) = some (HO.lst [V.int (m : Nat)]); rw [Int.zero_add]) nD
    refine ⟨acc, a1, ?_, fun b o hb => ?_, a3⟩
    · rw [a2]
      have h3 : 1000 ≤ sizeLine := by decide
      omega
    · rw [upd_ne (fun z => by rw [z, hD] at hb; cases hb)]
      exact k2 _ _ (k _ _ hb)
  · rintro H' ⟨k, r⟩
    obtain ⟨its, h1, h2, h3⟩ := id r
    refine q H' D its k h1 h2 fun K => ?_
    obtain ⟨its', e1, e2, e3⟩ := Rows.data (K := K) (fd := fun j => .list [.int (j : Nat)]) (fun j q' hq => .lst (SqL.of hq) (.cons (.int _) .nil)) r
    rw [h1] at e1
    cases e1
    exact e3
end Ehk

set_option Elab.async false
set_option linter.all false
set_option maxRecDepth 100000
set_option maxHeartbeats 16000000
namespace Ehk
open PySem PySem.Spec PyProof.Rows L2
/-- a def of the law as it stands -/
structure Df (K : PySem.W.Frag) (mg : Str → Option Value) (x : Str) (st : Stmt) (ps : List Str) (f : Addr) (fd : FuncData) : Prop where
  F : Fun K x x st f fd
  g : mg x = some (.ref f)
  b : Binds K fd ps []
theorem psAs {X : Cx} {st : Stmt} (t : TS) (h : PS X st t) : PS X st t := h
theorem pssAs {X : Cx} {st : List Stmt} (t : TS) (h : PSs X st t) : PSs X st t := h
abbrev E1 : XK := fun _ _ _ => False
def spLaw (K : PySem.W.Frag) : Sp := fun vs H Q _ => ∃ (a : Addr) (ns : List Int), vs = [.ref a] ∧ SqL K H a (ns.map V.int) ∧ ns.length ≤ 63 ∧ ∀ H', Q (.bl true) H'
def b4 (a b c d : Bool) : TE := tLst (tCons (tC (.bl a)) (tCons (tC (.bl b)) (tCons (tC (.bl c)) (tCons (tC (.bl d)) tNil))))
def t1 (K : PySem.W.Frag) : TS := tPar 3 4 (tCons (tCall (spArg K) [] E1 (tCons (tVar 1) tNil)) (tCons (tCall (spArg K) [] E1 (tCons (tVar 1) tNil)) tNil))
def t2 (c : Nat → Addr) : TS := tPar 5 6 (tCons (tCall (spAll c) [] E1 (tCons (tVar 3) tNil)) (tCons (tCall (spAll c) [] E1 (tCons (tVar 4) tNil)) tNil))
def no : TS := tRet (tC (.bl false))
def tK (K : PySem.W.Frag) (c : Nat → Addr) : TE := tLc (iList K (tOp rCat (tVar 5) (tVar 6))) (gName 9) tYes (tCall (spKinds c) [] E1 (tCons (tVar 9) tNil)) [9]
def tR17 : TE := tOp rRepB (tLc (iRng1 (tCons (tC (.int 17)) tNil)) (gName 10) tYes (tLst (tCons (tVar 10) tNil)) [10]) (tC (.int 2))
def tFa (K : PySem.W.Frag) (cE : Addr) : TE := tLc (iList K (tVar 5)) (gName 9) tYes (tCall (spFam K cE) [] E1 (tCons (tVar 9) tNil)) [9]
def tFe (K : PySem.W.Frag) (cE : Addr) : TE := tCall (spFam K cE) [] E1 (tCons (fun σ H Q => tC (.str "a") σ H fun _ H1 => tNewE cE H1 Q) tNil)
def t3 (K : PySem.W.Frag) (c : Nat → Addr) : TS := tIfS (tTest (tOp (rNeD K) (tK K c) tR17)) no tNext
def t4 : TS := tAsg (tOp rCat (tOp rRepB (tLst (tCons (b4 true true false false) tNil)) (tC (.int 15))) (tLst (tCons (b4 false false true false) (tCons (b4 false false false true) tNil)))) (gName 7)
def t5 (K : PySem.W.Frag) (cE : Addr) : TS := tIfS (tOr (tTest (tOp (rNeD K) (tFa K cE) (tVar 7))) (tTest (tOp (rNeD K) (tFe K cE) (tOp (rIxL K) (tVar 7) (tC (.int 0)))))) no tNext
def t6 (c : Nat → Addr) : TS := tAsg (tLstB (tCons (tCall (spAttr c) [] E1 (tCons (tVar 5) tNil)) (tCons (tCall (spAttr c) [] E1 (tCons (tVar 6) tNil)) (tCons (tCall spKw [] E1 (tCons (tVar 3) tNil)) tNil)))) (gName 8)
def r12 (i : Nat) : TE := tOp rRepB (tLst (tCons (tVar i) tNil)) (tC (.int 12))
def t7 (K : PySem.W.Frag) : TS := tIfS (tTest (tOp rNe (tCB (rRepr K) (tCons (tVar 8) tNil)) (tCB (rRepr K) (tCons (tLstB (tCons (r12 3) (tCons (r12 4) (tCons (r12 3) tNil)))) tNil)))) no tNext
def cp1 (K : PySem.W.Frag) (n : Int) : TE := tLst (tCons (tLst (tCons (tC (.int n)) tNil)) (tCons (tCB (rRepr K) (tCons (tVar 3) tNil)) tNil))
def t8 (K : PySem.W.Frag) : TS := tIfS (tTest (tOp (rNeD K) (tCall (spCaught K) [] E1 (tCons (tVar 3) tNil)) (tLst (tCons (cp1 K 12) (tCons (cp1 K 15) (tCons (cp1 K 16) tNil)))))) no tNext
def tTurn (K : PySem.W.Frag) (cE : Addr) (c : Nat → Addr) : TS := tSeq (t1 K) (tSeq (t2 c) (tSeq (t3 K c) (tSeq t4 (tSeq (t5 K cE) (tSeq (t6 c) (tSeq (t7 K) (t8 K)))))))
def tEnd (K : PySem.W.Frag) : TS := tRet (tOp rEq (tCB (rRepr K) (tCons (tTup (tCons (tC (.int 300)) (tCons (tC (.int (-1))) tNil))) tNil)) (tC (.str "(300, -1)")))
abbrev NL : List Str := ["_law_script", "_law_deck_here", "_law_turn", "_law_x", "_law_y", "_law_some", "_law_others", "_law_due", "_law_told", "_law_e", "_law_k"]
section
variable {P : Program} {w : World} {K : PySem.W.Frag} {mg : Str → Option Value} {base : Heap} {cE : Addr} {c i : Nat → Addr} {fd : Nat → FuncData}
theorem scLaw : FnScope NL ["_law_script"] (defScope sLaw) := ⟨rfl, rfl, rfl, by decide +kernel, rfl, by decide +kernel, by decide +kernel⟩
abbrev σL (a p : V) (t x y so ot du to : Option V) : L2.St := [some a, some p, t, x, y, so, ot, du, to, none, none]
abbrev NS : Addr → Prop := fun a => a ≠ sysModules
def Sm (K : PySem.W.Frag) (H : Hp) (v : V) (d : PyData) : Prop := Rp K NS H v d ∧ fine d = true ∧ cap d ≤ 1000 ∧ d.depth ≤ 5
theorem Sm.same {H H' : Hp} {v : V} {d : PyData} (s : Sm K H v d) (k : Same H H') : Sm K H' v d := ⟨s.1.same k, s.2⟩
theorem Smal.sm {p cc : Addr} {H : Hp} {v : V} (s : Smal K p cc H v) : ∃ d, Sm K H v d := by
  obtain ⟨d, h1, h2⟩ := s
  exact ⟨d, Rp.imp (fun a xs n s => ⟨s, n.1⟩) (fun a xs s => s) (fun a s => s) d v h1, h2⟩
theorem run1 {D : Ends} {a : V} {p cc : Addr} {m : Nat} {t x0 y0 so ot du to : Option V} {H : Hp} (hd : Deck H p cc m) (hm : m < 900) (q : ∀ H' x y dx dy, Deck H' p cc (m + 6) → Sm K H' x dx → Sm K H' y dy → D.nx (σL a (.ref p) t (some x) (some y) so ot du to) H') :
    t1 K D (σL a (.ref p) t x0 y0 so ot du to) H := by
  refine ⟨_, rfl, p, cc, m, rfl, hd, by omega, fun H1 x k1 d1 s1 => ⟨_, rfl, p, cc, m + 3, rfl, d1, by omega, fun H2 y k2 d2 s2 => ⟨x, y, rfl, ?_⟩⟩⟩
  obtain ⟨e, r, f⟩ := s1
  obtain ⟨dx, sx⟩ := Smal.sm (K := K) (p := p) (cc := cc) ⟨e, Rp.kp r d1 k2, f⟩
  obtain ⟨dy, sy⟩ := Smal.sm s2
  exact q H2 x y dx dy d2 sx sy
theorem run2 {D : Ends} {a p x y : V} {t so ot du to : Option V} {H : Hp} (q : ∀ H' ps ps2 rs rs2, Same H H' → H' ps = some (.lst (rs.map V.ref)) → Errs c H' rs x → H' ps2 = some (.lst (rs2.map V.ref)) → Errs c H' rs2 y → D.nx (σL a p t (some x) (some y) (some (.ref ps)) (some (.ref ps2)) du to) H') :
    t2 c D (σL a p t (some x) (some y) so ot du to) H := by
  refine ⟨_, rfl, x, rfl, fun H1 ps rs k1 l1 e1 => ⟨_, rfl, y, rfl, fun H2 ps2 rs2 k2 l2 e2 => ⟨_, _, rfl, ?_⟩⟩⟩
  exact q H2 ps ps2 rs rs2 (k1.trans k2) (k2 _ _ l1) (e1.same k2) l2 e2
def kD : List PyData := (List.range 17).map fun j => .list [.int (j : Nat)]
theorem kD2 : (List.range 34).map (fun j => PyData.list [.int ((j % 17 : Nat) : Int)]) = kD ++ kD := by rfl
theorem errs_at {H : Hp} {rs rs2 : List Addr} {x y v : V} {j : Nat} (e : Errs c H rs x) (e2 : Errs c H rs2 y) (h : (rs.map V.ref ++ rs2.map V.ref)[j]? = some v) : ∃ r d, v = .ref r ∧ Exn H r (c (j % 17)) d := by
  have l1 := e.1
  have l2 := e2.1
  by_cases hj : j < 17
  · rw [List.getElem?_append_left (by rw [List.length_map, l1]; exact hj), List.getElem?_map] at h
    cases hr : rs[j]? with
    | none => rw [hr] at h; cases h
    | some r =>
      rw [hr] at h
      cases h
      obtain ⟨d, hd⟩ := e.exn hj hr
      exact ⟨r, d, rfl, by rw [Nat.mod_eq_of_lt hj]; exact hd⟩
  · rw [List.getElem?_append_right (by rw [List.length_map, l1]; omega), List.getElem?_map, List.length_map, l1] at h
    cases hr : rs2[j - 17]? with
    | none => rw [hr] at h; cases h
    | some r =>
      rw [hr] at h
      cases h
      have hlt : j - 17 < 17 := by
        have z := (List.getElem?_eq_some_iff.mp hr).1
        rw [l2] at z
        exact z
      obtain ⟨d, hd⟩ := e2.exn hlt hr
      have em : j % 17 = j - 17 := by omega
      exact ⟨r, d, rfl, by rw [em]; exact hd⟩
theorem cmp3 {a p x y : V} {t du to : Option V} {H : Hp} {ps ps2 : Addr} {rs rs2 : List Addr} {R : VK} (h1 : H ps = some (.lst (rs.map V.ref))) (e1 : Errs c H rs x) (h2 : H ps2 = some (.lst (rs2.map V.ref))) (e2 : Errs c H rs2 y)
    (q : ∀ H', Same H H' → R (.bl false) H') : tOp (rNeD K) (tK K c) tR17 (σL a p t (some x) (some y) (some (.ref ps)) (some (.ref ps2)) du to) H R := by
  have len : (rs.map V.ref ++ rs2.map V.ref).length = 34 := by rw [List.length_append, List.length_map, List.length_map, e1.1, e2.1]
  refine ⟨_, rfl, _, rfl, ps, ps2, _, _, rfl, rfl, h1, h2, ?_, fun u nu => ?_⟩
  · rw [List.length_map, List.length_map, e1.1, e2.1]; decide
  have k0 : Same H (upd H u (.lst (rs.map V.ref ++ rs2.map V.ref))) := same_upd nu
  refine ⟨u, rfl, ⟨_, SqL.of upd_same⟩, ?_⟩
  refine lc_rows (K := K) (te := tCall (spKinds c) [] E1 (tCons (tVar 9) tNil)) (σ := σL a p t (some x) (some y) (some (.ref ps)) (some (.ref ps2)) du to) (Q := fun v G => tR17 (σL a p t (some x) (some y) (some (.ref ps)) (some (.ref ps2)) du to) G fun v2 G2 => rNeD K v v2 G2 R)
    (N := 34) (F := fun j => [.int ((j % 17 : Nat) : Int)]) (fd := fun j => .list [.int ((j % 17 : Nat) : Int)]) len upd_same (by decide) (fun j H q hq => .lst (SqL.of hq) (.cons (.int _) .nil)) (fun j => ⟨_, _, rfl, fun q z => nomatch z⟩) (fun x => rfl) ?_ ?_
  · intro j v H' R hv k r
    obtain ⟨b, d, rfl, hb⟩ := errs_at (e1.same (k0.trans k)) (e2.same (k0.trans k)) hv
    exact ⟨_, rfl, b, j % 17, d, rfl, Nat.mod_lt _ (by decide), hb, fun H'' q' k2 hq => r H'' q' k2 hq⟩
  · intro H1 Dl k1 d1
    rw [kD2] at d1
    refine ⟨17, rfl, by decide, by decide, ?_⟩
    refine lc_nums (n := 17) (σ := σL a p t (some x) (some y) (some (.ref ps)) (some (.ref ps2)) du to) (Q := fun v G => rRepB v (.int 2) G fun v2 G2 => rNeD K (.ref Dl) v2 G2 R) (by decide) (fun _ => rfl) (fun _ => rfl) fun H2 D2 its k2 hD2 hlen hd2 => ?_
    refine ⟨D2, 2, its, rfl, rfl, hD2, by decide, by decide, by rw [hlen]; decide, fun l nl ns => ?_⟩
    have e : (List.replicate (2 : Int).toNat its).flatten = its ++ its := by
      show (List.replicate 2 its).flatten = _
      simp [List.replicate_succ]
    rw [e]
    have k3 : Same H2 (upd H2 l (.lst (its ++ its))) := same_upd nl
    refine neD (d := .list (kD ++ kD)) (Dp.same (k2.trans k3) _ _ d1) (.lst (SqL.of upd_same) (Dp.sameAll k3 _ _ (dpa_app (hd2 K) (hd2 K)))) (by decide +kernel) ?_
    exact q _ (k0.trans (k1.trans (k2.trans k3)))
theorem run3 {D : Ends} {a p x y : V} {t du to : Option V} {H : Hp} {ps ps2 : Addr} {rs rs2 : List Addr} (h1 : H ps = some (.lst (rs.map V.ref))) (e1 : Errs c H rs x) (h2 : H ps2 = some (.lst (rs2.map V.ref))) (e2 : Errs c H rs2 y)
    (q : ∀ H', Same H H' → D.nx (σL a p t (some x) (some y) (some (.ref ps)) (some (.ref ps2)) du to) H') : t3 K c D (σL a p t (some x) (some y) (some (.ref ps)) (some (.ref ps2)) du to) H :=
  cmp3 h1 e1 h2 e2 fun H' k => ⟨false, rfl, itF rfl (q H' k)⟩
def fB (j : Nat) : List V := [.bl (decide (j < 15)), .bl (decide (j < 15)), .bl (decide (j = 15)), .bl (decide (j = 16))]
def fD (j : Nat) : PyData := .list [.bool (decide (j < 15)), .bool (decide (j < 15)), .bool (decide (j = 15)), .bool (decide (j = 16))]
theorem fD_eq : (List.range 17).map fD = List.replicate 15 (fD 0) ++ [fD 15, fD 16] := by rfl
theorem fB_dp {H : Hp} {q : Addr} {j : Nat} (h : H q = some (.lst (fB j))) : Dp K H (.ref q) (fD j) := .lst (SqL.of h) (.cons (.bl _) (.cons (.bl _) (.cons (.bl _) (.cons (.bl _) .nil))))
theorem dpa_rep {H : Hp} {v : V} {d : PyData} (h : Dp K H v d) : ∀ n : Nat, DpAll K H (List.replicate n [v]).flatten (List.replicate n d)
  | 0 => .nil
  | n + 1 => .cons h (dpa_rep h n)
theorem run4 {D : Ends} {a p : V} {t x y so ot du to : Option V} {H : Hp}
    (q : ∀ H' l its q1, Same H H' → H' l = some (.lst its) → atI its 0 = some (.ref q1) → Dp K H' (.ref q1) (fD 0) → Dp K H' (.ref l) (.list ((List.range 17).map fD)) → D.nx (σL a p t x y so ot (some (.ref l)) to) H') : t4 D (σL a p t x y so ot du to) H := by
  refine ⟨by show 4 ≤ sizeLine; decide, fun q1 n_q1 => ?_⟩
  have u_q1 : Same H (upd H q1 (.lst [.bl true, .bl true, .bl false, .bl false])) := same_upd n_q1
  have l_q1 : (upd H q1 (.lst [.bl true, .bl true, .bl false, .bl false])) q1 = some (.lst [.bl true, .bl true, .bl false, .bl false]) := upd_same
  generalize upd H q1 (.lst [.bl true, .bl true, .bl false, .bl false]) = H_q1 at u_q1 l_q1 ⊢
  refine ⟨by show 1 ≤ sizeLine; decide, fun q2 n_q2 => ?_⟩
  have u_q2 : Same H_q1 (upd H_q1 q2 (.lst [.ref q1])) := same_upd n_q2
  have l_q2 : (upd H_q1 q2 (.lst [.ref q1])) q2 = some (.lst [.ref q1]) := upd_same
  generalize upd H_q1 q2 (.lst [.ref q1]) = H_q2 at u_q2 l_q2 ⊢
  refine ⟨q2, 15, _, rfl, rfl, l_q2, by decide, by decide, by show 1 * 15 ≤ sizeLine; decide, fun q3 n_q3 _ => ?_⟩
  have u_q3 : Same H_q2 (upd H_q2 q3 (.lst (List.replicate (15 : Int).toNat [V.ref q1]).flatten)) := same_upd n_q3
  have l_q3 : (upd H_q2 q3 (.lst (List.replicate (15 : Int).toNat [V.ref q1]).flatten)) q3 = some (.lst (List.replicate 15 [V.ref q1]).flatten) := upd_same
  generalize upd H_q2 q3 (.lst (List.replicate (15 : Int).toNat [V.ref q1]).flatten) = H_q3 at u_q3 l_q3 ⊢
  refine ⟨by show 4 ≤ sizeLine; decide, fun q4 n_q4 => ?_⟩
  have u_q4 : Same H_q3 (upd H_q3 q4 (.lst [.bl false, .bl false, .bl true, .bl false])) := same_upd n_q4
  have l_q4 : (upd H_q3 q4 (.lst [.bl false, .bl false, .bl true, .bl false])) q4 = some (.lst [.bl false, .bl false, .bl true, .bl false]) := upd_same
  generalize upd H_q3 q4 (.lst [.bl false, .bl false, .bl true, .bl false]) = H_q4 at u_q4 l_q4 ⊢
  refine ⟨by show 4 ≤ sizeLine; decide, fun q5 n_q5 => ?_⟩
  have u_q5 : Same H_q4 (upd H_q4 q5 (.lst [.bl false, .bl false, .bl false, .bl true])) := same_upd n_q5
  have l_q5 : (upd H_q4 q5 (.lst [.bl false, .bl false, .bl false, .bl true])) q5 = some (.lst [.bl false, .bl false, .bl false, .bl true]) := upd_same
  generalize upd H_q4 q5 (.lst [.bl false, .bl false, .bl false, .bl true]) = H_q5 at u_q5 l_q5 ⊢
  refine ⟨by show 2 ≤ sizeLine; decide, fun q6 n_q6 => ?_⟩
  have u_q6 : Same H_q5 (upd H_q5 q6 (.lst [.ref q4, .ref q5])) := same_upd n_q6
  have l_q6 : (upd H_q5 q6 (.lst [.ref q4, .ref q5])) q6 = some (.lst [.ref q4, .ref q5]) := upd_same
  generalize upd H_q5 q6 (.lst [.ref q4, .ref q5]) = H_q6 at u_q6 l_q6 ⊢
  refine ⟨q3, q6, _, _, rfl, rfl, u_q6 _ _ (u_q5 _ _ (u_q4 _ _ l_q3)), l_q6, by show 17 ≤ sizeLine; decide, fun q7 n_q7 => ?_⟩
  have u_q7 : Same H_q6 (upd H_q6 q7 (.lst ((List.replicate 15 [V.ref q1]).flatten ++ [V.ref q4, V.ref q5]))) := same_upd n_q7
  have k1 : Same H_q1 (upd H_q6 q7 (.lst ((List.replicate 15 [V.ref q1]).flatten ++ [V.ref q4, V.ref q5]))) := u_q2.trans (u_q3.trans (u_q4.trans (u_q5.trans (u_q6.trans u_q7))))
  have d0 : Dp K (upd H_q6 q7 (.lst ((List.replicate 15 [V.ref q1]).flatten ++ [V.ref q4, V.ref q5]))) (.ref q1) (fD 0) := fB_dp (j := 0) (k1 _ _ l_q1)
  refine q _ q7 _ q1 (u_q1.trans k1) upd_same (by rfl) d0 ?_
  rw [fD_eq]
  exact .lst (SqL.of upd_same) (dpa_app (dpa_rep d0 15) (.cons (fB_dp (j := 15) (u_q7 _ _ (u_q6 _ _ (u_q5 _ _ l_q4)))) (.cons (fB_dp (j := 16) (u_q7 _ _ (u_q6 _ _ l_q5))) .nil)))
theorem fam17 {H : Hp} {rs : List Addr} {x v : V} {j : Nat} (e : Errs c H rs x) (h : (rs.map V.ref)[j]? = some v) : ∃ r d, v = .ref r ∧ j < 17 ∧ Exn H r (c j) d := by
  rw [List.getElem?_map] at h
  cases hr : rs[j]? with
  | none => rw [hr] at h; cases h
  | some r =>
    rw [hr] at h
    cases h
    have z := (List.getElem?_eq_some_iff.mp hr).1
    rw [e.1] at z
    obtain ⟨d, hd⟩ := e.exn z hr
    exact ⟨r, d, rfl, z, hd⟩
theorem cmp5 {a p x y : V} {t ot to : Option V} {H : Hp} {ps l : Addr} {rs : List Addr} {R : VK} (T : Txt K mg cE c i fd) (h1 : H ps = some (.lst (rs.map V.ref))) (e1 : Errs c H rs x) (hd : Dp K H (.ref l) (.list ((List.range 17).map fD)))
    (q : ∀ H', Same H H' → R (.bl false) H') : tOp (rNeD K) (tFa K cE) (tVar 7) (σL a p t (some x) (some y) (some (.ref ps)) ot (some (.ref l)) to) H R := by
  refine ⟨_, rfl, ps, rfl, ⟨_, SqL.of h1⟩, ?_⟩
  refine lc_rows (K := K) (te := tCall (spFam K cE) [] E1 (tCons (tVar 9) tNil)) (σ := σL a p t (some x) (some y) (some (.ref ps)) ot (some (.ref l)) to) (Q := fun v G => tVar 7 (σL a p t (some x) (some y) (some (.ref ps)) ot (some (.ref l)) to) G fun v2 G2 => rNeD K v v2 G2 R)
    (N := 17) (F := fB) (fd := fD) (by rw [List.length_map, e1.1]) h1 (by decide) (fun j H q hq => fB_dp hq) (fun j => ⟨_, _, rfl, fun q z => nomatch z⟩) (fun x => rfl) ?_ ?_
  · intro j v H' R hv k r
    obtain ⟨b, d, rfl, hj, hb⟩ := fam17 (e1.same k) hv
    exact ⟨_, rfl, b, c j, d, _, _, _, _, rfl, hb, T.ec j hj, T.kE j hj, T.kV j hj, T.kK j hj, T.kI j hj, fun H'' q' k2 hq => r H'' q' k2 hq⟩
  · intro H1 Dl k1 d1
    exact ⟨_, rfl, neD d1 (Dp.same k1 _ _ hd) (by decide +kernel) (q _ k1)⟩
theorem cmp5b {a p : V} {t x y so ot to : Option V} {H : Hp} {l q1 : Addr} {its : List V} {R : VK} (T : Txt K mg cE c i fd) (hl : H l = some (.lst its)) (ha : atI its 0 = some (.ref q1)) (hd : Dp K H (.ref q1) (fD 0))
    (q : ∀ H', Same H H' → R (.bl false) H') : tOp (rNeD K) (tFe K cE) (tOp (rIxL K) (tVar 7) (tC (.int 0))) (σL a p t x y so ot (some (.ref l)) to) H R := by
  refine fun e ne => ⟨e, cE, none, true, true, false, false, rfl, upd_same, T.ecE, T.eE, T.eV, T.eK, T.eI, fun H' r k hr => ⟨_, rfl, l, its, 0, .ref q1, rfl, rfl, SqL.of (k _ _ (same_upd ne _ _ hl)), ha, ?_⟩⟩
  exact neD (d := fD 0) (fB_dp (j := 0) hr) (Dp.same ((same_upd ne).trans k) _ _ hd) (by decide +kernel) (q _ ((same_upd ne).trans k))
theorem run5 {D : Ends} {a p x y : V} {t ot to : Option V} {H : Hp} {ps l q1 : Addr} {rs : List Addr} {its : List V} (T : Txt K mg cE c i fd) (h1 : H ps = some (.lst (rs.map V.ref))) (e1 : Errs c H rs x) (hd : Dp K H (.ref l) (.list ((List.range 17).map fD))) (hl : H l = some (.lst its)) (ha : atI its 0 = some (.ref q1)) (hq : Dp K H (.ref q1) (fD 0))
    (q : ∀ H', Same H H' → D.nx (σL a p t (some x) (some y) (some (.ref ps)) ot (some (.ref l)) to) H') : t5 K cE D (σL a p t (some x) (some y) (some (.ref ps)) ot (some (.ref l)) to) H := by
  refine cmp5 T h1 e1 hd fun H1 k1 => ⟨false, rfl, itF rfl ?_⟩
  exact cmp5b T (k1 _ _ hl) ha (Dp.same k1 _ _ hq) fun H2 k2 => ⟨false, rfl, itF rfl (q _ (k1.trans k2))⟩
theorem run6 {D : Ends} {a p x y : V} {t du to : Option V} {H : Hp} {ps ps2 : Addr} {rs rs2 : List Addr} (h1 : H ps = some (.lst (rs.map V.ref))) (e1 : Errs c H rs x) (h2 : H ps2 = some (.lst (rs2.map V.ref))) (e2 : Errs c H rs2 y)
    (q : ∀ H' l a1 a2 a3, Same H H' → l ≠ sysModules → a1 ≠ sysModules → a2 ≠ sysModules → a3 ≠ sysModules → H' l = some (.lst [.ref a1, .ref a2, .ref a3]) → H' a1 = some (.lst (List.replicate 12 x)) → H' a2 = some (.lst (List.replicate 12 y)) → H' a3 = some (.lst (List.replicate 12 x)) →
      D.nx (σL a p t (some x) (some y) (some (.ref ps)) (some (.ref ps2)) du (some (.ref l))) H') : t6 c D (σL a p t (some x) (some y) (some (.ref ps)) (some (.ref ps2)) du to) H := by
  refine ⟨_, rfl, ps, rs, x, rfl, h1, e1, fun H1 a1 k1 s1 _ r1 => ⟨_, rfl, ps2, rs2, y, rfl, k1 _ _ h2, e2.same k1, fun H2 a2 k2 s2 _ r2 => ⟨_, rfl, x, rfl, fun H3 a3 k3 s3 _ r3 => ⟨by show 3 ≤ sizeLine; decide, fun l nl sl => ?_⟩⟩⟩⟩
  have kl : Same H3 (upd H3 l (.lst [.ref a1, .ref a2, .ref a3])) := same_upd nl
  exact q _ l a1 a2 a3 (k1.trans (k2.trans (k3.trans kl))) sl s1 s2 s3 upd_same (kl _ _ (k3 _ _ (k2 _ _ r1))) (kl _ _ (k3 _ _ r2)) (kl _ _ r3)
def rows3 (dx dy : PyData) : PyData := .list [.list (List.replicate 12 dx), .list (List.replicate 12 dy), .list (List.replicate 12 dx)]
theorem rpa_rep {H : Hp} {v : V} {d : PyData} (h : Rp K NS H v d) : ∀ n : Nat, RpAll K NS H (List.replicate n v) (List.replicate n d)
  | 0 => .nil
  | n + 1 => .cons h (rpa_rep h n)
theorem rows3_rp {H : Hp} {l a1 a2 a3 : Addr} {x y : V} {dx dy : PyData} (sl : l ≠ sysModules) (s1 : a1 ≠ sysModules) (s2 : a2 ≠ sysModules) (s3 : a3 ≠ sysModules) (hl : H l = some (.lst [.ref a1, .ref a2, .ref a3])) (h1 : H a1 = some (.lst (List.replicate 12 x))) (h2 : H a2 = some (.lst (List.replicate 12 y))) (h3 : H a3 = some (.lst (List.replicate 12 x)))
    (hx : Rp K NS H x dx) (hy : Rp K NS H y dy) : Rp K NS H (.ref l) (rows3 dx dy) :=
  .lst (SqL.of hl) sl (.cons (.lst (SqL.of h1) s1 (rpa_rep hx 12)) (.cons (.lst (SqL.of h2) s2 (rpa_rep hy 12)) (.cons (.lst (SqL.of h3) s3 (rpa_rep hx 12)) .nil)))
theorem rows3_shows {dx dy : PyData} (fx : fine dx = true) (cx : cap dx ≤ 1000) (tx : dx.depth ≤ 5) (fy : fine dy = true) (cy : cap dy ≤ 1000) (ty : dy.depth ≤ 5) : Shows (rows3 dx dy) := by
  refine shows_of ?_ ?_ ?_
  · simp [rows3, fine, fineAll, List.replicate, fx, fy]
  · simp only [rows3, cap, capAll, List.replicate]
    omega
  · simp only [rows3, PyData.depth, PyData.depthAll, List.replicate]
    omega
theorem Sm.shows {H : Hp} {v : V} {d : PyData} (s : Sm K H v d) : Shows d := shows_of s.2.1 (by have := s.2.2.1; omega) (by have := s.2.2.2; omega)
theorem run7 {D : Ends} {a p x y : V} {t so ot du : Option V} {H : Hp} {l a1 a2 a3 : Addr} {dx dy : PyData} (sx : Sm K H x dx) (sy : Sm K H y dy) (sl : l ≠ sysModules) (s1 : a1 ≠ sysModules) (s2 : a2 ≠ sysModules) (s3 : a3 ≠ sysModules) (hl : H l = some (.lst [.ref a1, .ref a2, .ref a3])) (h1 : H a1 = some (.lst (List.replicate 12 x))) (h2 : H a2 = some (.lst (List.replicate 12 y))) (h3 : H a3 = some (.lst (List.replicate 12 x)))
    (q : ∀ H', Same H H' → D.nx (σL a p t (some x) (some y) so ot du (some (.ref l))) H') : t7 K D (σL a p t (some x) (some y) so ot du (some (.ref l))) H := by
  have sh : Shows (rows3 dx dy) := rows3_shows sx.2.1 sx.2.2.1 sx.2.2.2 sy.2.1 sy.2.2.1 sy.2.2.2
  refine ⟨_, rfl, NS, _, _, fun a z => z, rfl, rows3_rp sl s1 s2 s3 hl h1 h2 h3 sx.1 sy.1, sh, ?_⟩
  refine ⟨_, rfl, by show 1 ≤ sizeLine; decide, fun b1 n_b1 => ⟨b1, 12, [x], rfl, rfl, upd_same, by decide, by decide, by show 1 * 12 ≤ sizeLine; decide, fun c1 n_c1 s_c1 => ?_⟩⟩
  have u_c1 : Same H (upd (upd H b1 (.lst [x])) c1 (.lst (List.replicate (12 : Int).toNat [x]).flatten)) := (same_upd n_b1).trans (same_upd n_c1)
  have l_c1 : (upd (upd H b1 (.lst [x])) c1 (.lst (List.replicate (12 : Int).toNat [x]).flatten)) c1 = some (.lst (List.replicate 12 x)) := upd_same
  generalize upd (upd H b1 (.lst [x])) c1 (.lst (List.replicate (12 : Int).toNat [x]).flatten) = G_c1 at u_c1 l_c1 ⊢
  refine ⟨_, rfl, by show 1 ≤ sizeLine; decide, fun b2 n_b2 => ⟨b2, 12, [y], rfl, rfl, upd_same, by decide, by decide, by show 1 * 12 ≤ sizeLine; decide, fun c2 n_c2 s_c2 => ?_⟩⟩
  have u_c2 : Same G_c1 (upd (upd G_c1 b2 (.lst [y])) c2 (.lst (List.replicate (12 : Int).toNat [y]).flatten)) := (same_upd n_b2).trans (same_upd n_c2)
  have l_c2 : (upd (upd G_c1 b2 (.lst [y])) c2 (.lst (List.replicate (12 : Int).toNat [y]).flatten)) c2 = some (.lst (List.replicate 12 y)) := upd_same
  generalize upd (upd G_c1 b2 (.lst [y])) c2 (.lst (List.replicate (12 : Int).toNat [y]).flatten) = G_c2 at u_c2 l_c2 ⊢
  refine ⟨_, rfl, by show 1 ≤ sizeLine; decide, fun b3 n_b3 => ⟨b3, 12, [x], rfl, rfl, upd_same, by decide, by decide, by show 1 * 12 ≤ sizeLine; decide, fun c3 n_c3 s_c3 => ?_⟩⟩
  have u_c3 : Same G_c2 (upd (upd G_c2 b3 (.lst [x])) c3 (.lst (List.replicate (12 : Int).toNat [x]).flatten)) := (same_upd n_b3).trans (same_upd n_c3)
  have l_c3 : (upd (upd G_c2 b3 (.lst [x])) c3 (.lst (List.replicate (12 : Int).toNat [x]).flatten)) c3 = some (.lst (List.replicate 12 x)) := upd_same
  generalize upd (upd G_c2 b3 (.lst [x])) c3 (.lst (List.replicate (12 : Int).toNat [x]).flatten) = G_c3 at u_c3 l_c3 ⊢
  refine ⟨by show 3 ≤ sizeLine; decide, fun m nm sm => ?_⟩
  have um : Same G_c3 (upd G_c3 m (.lst [.ref c1, .ref c2, .ref c3])) := same_upd nm
  have kk : Same H (upd G_c3 m (.lst [.ref c1, .ref c2, .ref c3])) := u_c1.trans (u_c2.trans (u_c3.trans um))
  refine ⟨NS, _, rows3 dx dy, fun a z => z, rfl, rows3_rp sm s_c1 s_c2 s_c3 upd_same (um _ _ (u_c3 _ _ (u_c2 _ _ l_c1))) (um _ _ (u_c3 _ _ l_c2)) (um _ _ l_c3) (sx.1.same kk) (sy.1.same kk), sh, rfl, ?_⟩
  refine ⟨_, rfl, itF (by rw [decide_eq_true rfl]; rfl) (q _ kk)⟩
def capDs (s : Str) : PyData := .list [capD s 12, capD s 15, capD s 16]
theorem capDs_shaped {s : Str} (h : PyData.strOk s = true) : SeqAt.shaped (capDs s) = true := by
  simp [SeqAt.shaped, capDs, capD, PyData.canLay0, PyData.canLayAll0, PyData.depth, PyData.depthAll, h]
theorem run8 {D : Ends} {a p x : V} {t y so ot du to : Option V} {H : Hp} {dx : PyData} (sx : Sm K H x dx) (q : ∀ H', Same H H' → D.nx (σL a p t (some x) y so ot du to) H') : t8 K D (σL a p t (some x) y so ot du to) H := by
  refine ⟨_, rfl, x, NS, dx, fun a z => z, rfl, sx.1, sx.shows, fun H1 r k1 d1 => ?_⟩
  have sx := sx.same k1
  refine ⟨by show 1 ≤ sizeLine; decide, fun b1 n_b1 => ⟨_, rfl, NS, x, dx, fun a z => z, rfl, (sx.same (same_upd n_b1)).1, sx.shows, by show 2 ≤ sizeLine; decide, fun a1 n_a1 => ?_⟩⟩
  have u_a1 : Same H1 (upd (upd H1 b1 (.lst [.int 12])) a1 (.lst [.ref b1, .str dx.shown])) := (same_upd n_b1).trans (same_upd n_a1)
  have d_a1 : Dp K (upd (upd H1 b1 (.lst [.int 12])) a1 (.lst [.ref b1, .str dx.shown])) (.ref a1) (capD dx.shown 12) := .lst (SqL.of upd_same) (.cons (.lst (SqL.of (same_upd n_a1 _ _ upd_same)) (.cons (.int _) .nil)) (.cons (.str _) .nil))
  generalize upd (upd H1 b1 (.lst [.int 12])) a1 (.lst [.ref b1, .str dx.shown]) = G1 at u_a1 d_a1 ⊢
  replace sx := sx.same u_a1
  refine ⟨by show 1 ≤ sizeLine; decide, fun b2 n_b2 => ⟨_, rfl, NS, x, dx, fun a z => z, rfl, (sx.same (same_upd n_b2)).1, sx.shows, by show 2 ≤ sizeLine; decide, fun a2 n_a2 => ?_⟩⟩
  have u_a2 : Same G1 (upd (upd G1 b2 (.lst [.int 15])) a2 (.lst [.ref b2, .str dx.shown])) := (same_upd n_b2).trans (same_upd n_a2)
  have d_a2 : Dp K (upd (upd G1 b2 (.lst [.int 15])) a2 (.lst [.ref b2, .str dx.shown])) (.ref a2) (capD dx.shown 15) := .lst (SqL.of upd_same) (.cons (.lst (SqL.of (same_upd n_a2 _ _ upd_same)) (.cons (.int _) .nil)) (.cons (.str _) .nil))
  generalize upd (upd G1 b2 (.lst [.int 15])) a2 (.lst [.ref b2, .str dx.shown]) = G2 at u_a2 d_a2 ⊢
  replace sx := sx.same u_a2
  refine ⟨by show 1 ≤ sizeLine; decide, fun b3 n_b3 => ⟨_, rfl, NS, x, dx, fun a z => z, rfl, (sx.same (same_upd n_b3)).1, sx.shows, by show 2 ≤ sizeLine; decide, fun a3 n_a3 => ?_⟩⟩
  have u_a3 : Same G2 (upd (upd G2 b3 (.lst [.int 16])) a3 (.lst [.ref b3, .str dx.shown])) := (same_upd n_b3).trans (same_upd n_a3)
  have d_a3 : Dp K (upd (upd G2 b3 (.lst [.int 16])) a3 (.lst [.ref b3, .str dx.shown])) (.ref a3) (capD dx.shown 16) := .lst (SqL.of upd_same) (.cons (.lst (SqL.of (same_upd n_a3 _ _ upd_same)) (.cons (.int _) .nil)) (.cons (.str _) .nil))
  generalize upd (upd G2 b3 (.lst [.int 16])) a3 (.lst [.ref b3, .str dx.shown]) = G3 at u_a3 d_a3 ⊢
  replace sx := sx.same u_a3
  refine ⟨by show 3 ≤ sizeLine; decide, fun m nm => ?_⟩
  have um : Same G3 (upd G3 m (.lst [.ref a1, .ref a2, .ref a3])) := same_upd nm
  have kk : Same H1 (upd G3 m (.lst [.ref a1, .ref a2, .ref a3])) := u_a1.trans (u_a2.trans (u_a3.trans um))
  refine neD (d := capDs dx.shown) (Dp.same kk _ _ d1) (.lst (SqL.of upd_same) (.cons (Dp.same (u_a2.trans (u_a3.trans um)) _ _ d_a1) (.cons (Dp.same (u_a3.trans um) _ _ d_a2) (.cons (Dp.same um _ _ d_a3) .nil)))) (capDs_shaped (shown_ok dx sx.2.1)) ⟨false, rfl, itF rfl (q _ (k1.trans kk))⟩
theorem runT {D : Ends} {a : V} {p cc : Addr} {m : Nat} {t x y so ot du to : Option V} {H : Hp} (T : Txt K mg cE c i fd) (hd : Deck H p cc m) (hm : m < 900)
    (q : ∀ H' x y so ot du to, Deck H' p cc (m + 6) → D.nx (σL a (.ref p) t x y so ot du to) H') : tTurn K cE c D (σL a (.ref p) t x y so ot du to) H := by
  refine run1 hd hm fun H1 vx vy dx dy d1 sx sy => run2 fun H2 ps ps2 rs rs2 k2 l1 e1 l2 e2 => run3 l1 e1 l2 e2 fun H3 k3 => ?_
  refine run4 (K := K) fun H4 l its q1 k4 hl ha hq hdl => ?_
  have j3 := k3.trans k4
  refine run5 T (j3 _ _ l1) (e1.same j3) hdl hl ha hq fun H5 k5 => ?_
  have j5 := j3.trans k5
  refine run6 (j5 _ _ l1) (e1.same j5) (j5 _ _ l2) (e2.same j5) fun H6 lt a1 a2 a3 k6 sl s1 s2 s3 ht h1 h2 h3 => ?_
  have j6 := k2.trans (j5.trans k6)
  refine run7 (sx.same j6) (sy.same j6) sl s1 s2 s3 ht h1 h2 h3 fun H7 k7 => ?_
  exact run8 (sx.same (j6.trans k7)) fun H8 k8 => q H8 _ _ _ _ _ _ (d1.of_same (j6.trans (k7.trans k8)))
theorem runE {D : Ends} {σ : L2.St} {H : Hp} (q : ∀ H', D.rt (.bl true) H') : tEnd K D σ H := by
  refine ⟨by show 2 ≤ sizeLine; decide, fun p np => ?_⟩
  refine ⟨NS, _, .tuple [.int 300, .int (-1)], fun a z => z, rfl, .tup (SqT.of upd_same) (.cons (.int _) (.cons (.int _) .nil)), shows_of (by decide +kernel) (by decide +kernel) (by simp [PyData.depth, PyData.depthAll]), rfl, ?_⟩
  have e : PyData.shown (.tuple [.int 300, .int (-1)]) = ("(300, -1)" : Str) := by decide +kernel
  rw [e, decide_eq_true rfl]
  exact q _
theorem ok_law {fdk fdr fpk far fal fki ffa fat fkw fca f : Addr} {ddk ddr dpk dar dal dki dfa dat dkw dca fa : FuncData} {tM tL : Tok} (F : Fun K "law" "law" sLaw f fa) (T : Txt K mg cE c i fd) (S : Exs K cE c)
    (DD : Df K mg "_law_deck" sDeck ["_law_script"] fdk ddk) (DR : Df K mg "_law_draw" sDraw ["_law_deck_here", "_law_many"] fdr ddr) (DP : Df K mg "_law_pick" sPick ["_law_deck_here", "_law_some"] fpk dpk) (DA : Df K mg "_law_argument" sArg ["_law_deck_here"] far dar)
    (DL : Df K mg "_law_all" sAll ["_law_x"] fal dal) (DK : Df K mg "_law_kinds" sKinds ["_law_e"] fki dki) (DF : Df K mg "_law_families" sFam ["_law_e"] ffa dfa) (DT : Df K mg "_law_attributes" sAttr ["_law_some"] fat dat) (DW : Df K mg "_law_by_keywords" sKw ["_law_x"] fkw dkw) (DC : Df K mg "_law_caught" sCaught ["_law_x"] fca dca)
    (gM : mg "MAX_STATES" = some (.int 300 tM)) (gL : mg "LOST" = some (.int (-1) tL)) : FnG P w K mg base CX0 5 f fa ["_law_script"] (spLaw K) := by
  have GD : FnOk P w K mg base CX0 1 fdk ddk ["_law_script"] (spDeck K) := ok_deck DD.F T.lis
  have GA : FnOk P w K mg base CX0 3 far dar ["_law_deck_here"] (spArg K) := ok_arg DA.F DR.F DR.b DR.g DP.F DP.b DP.g T.len
  have GL : FnOk P w K mg base CX0 3 fal dal ["_law_x"] (spAll c) := ok_all DL.F T
  have GK : FnOk P w K mg base CX0 1 fki dki ["_law_e"] (spKinds c) := ok_kinds DK.F T
  have GF : FnOk P w K mg base CX0 1 ffa dfa ["_law_e"] (spFam K cE) := ok_fam DF.F T
  have GT : FnOk P w K mg base CX0 1 fat dat ["_law_some"] (spAttr c) := ok_attr DT.F T
  have GW : FnOk P w K mg base CX0 3 fkw dkw ["_law_x"] spKw := ok_kw DW.F T
  have GC : FnG P w K mg base CX0 4 fca dca ["_law_x"] (spCaught K) := ok_caught DC.F T S DK.F DK.g DK.F.kp DK.b
  refine F.okG scLaw (fun vs H Q E h => ?_) (fun cdv A outer s H vs Q E r4 hgd h => ?_)
  · obtain ⟨a, ns, rfl, _⟩ := h
    rfl
  · have hu : (cxOf CX0 P w K mg base NL "law" (defScope sLaw) f cdv A outer s H E).nox.A.units + 64 < cLine := r4.units
    have hgx : (cxOf CX0 P w K mg base NL "law" (defScope sLaw) f cdv A outer s H E).nox.A.guards = some [] := guards_deeper hgd
    have r3 : Room 3 (A.deeper (envOfC "law" (defScope sLaw) s.heap.objs.size f cdv)) := r4.mono (by decide)
    have r1 : Room 1 (A.deeper (envOfC "law" (defScope sLaw) s.heap.objs.size f cdv)) := r4.mono (by decide)
    obtain ⟨a, ns, rfl, hs, hl, q⟩ := h
    refine ⟨_, pss_cons (ps_set (i := 1) scLaw.nd rfl (.inl rfl) (pe_call GD r1 (by rfl) DD.g DD.F.kp DD.b .nil pass0 (pa_cons (pv 0) pa_nil)))
      (pss_cons (ps_for PassesOwn.never rfl (pi_range1 (by rfl) T.ran (pa_cons pe_int pa_nil)) (pg_name (i := 2) scLaw.nd rfl (.inl rfl)) (pssAs (tTurn K cE c)
      (pss_cons (psAs (t1 K) (ps_par (i := 3) (j := 4) rfl scLaw.nd rfl rfl (by decide) rfl rfl (pa_cons (pe_call GA r3 (by rfl) DA.g DA.F.kp DA.b .nil pass0 (pa_cons (pv 1) pa_nil)) (pa_cons (pe_call GA r3 (by rfl) DA.g DA.F.kp DA.b .nil pass0 (pa_cons (pv 1) pa_nil)) pa_nil)) rfl))
      (pss_cons (psAs (t2 c) (ps_par (i := 5) (j := 6) rfl scLaw.nd rfl rfl (by decide) rfl rfl (pa_cons (pe_call GL r3 (by rfl) DL.g DL.F.kp DL.b .nil pass0 (pa_cons (pv 3) pa_nil)) (pa_cons (pe_call GL r3 (by rfl) DL.g DL.F.kp DL.b .nil pass0 (pa_cons (pv 4) pa_nil)) pa_nil)) rfl))
      (pss_cons (psAs (t3 K c) (ps_if (pt_cmpR (op_neD hu) (pe_lc (own := [("_law_e", 9)]) (g := gName 9) (tt := tYes) rfl scLaw.nd (pi_list (pe_op op_cat (pv 5) (pv 6))) (blkOk_by (N := NL) (sc := defScope sLaw) (by decide +kernel)) (fun _ _ _ _ _ => pg_name (i := 9) scLaw.nd rfl (.inl rfl)) (fun _ _ _ _ _ => pts_nil) (fun _ _ _ _ _ => (pe_call GK r1 (by rfl) DK.g DK.F.kp DK.b .nil pass0 (pa_cons (pv 9) pa_nil)))) (pe_op op_repB (pe_lc (own := [("_law_k", 10)]) (g := gName 10) (tt := tYes) rfl scLaw.nd (pi_range1 (by rfl) T.ran (pa_cons pe_int pa_nil)) (blkOk_by (N := NL) (sc := defScope sLaw) (by decide +kernel)) (fun _ _ _ _ _ => pg_name (i := 10) scLaw.nd rfl (.inl rfl)) (fun _ _ _ _ _ => pts_nil) (fun _ _ _ _ _ => (pe_lst (pa_cons (pv 10) pa_nil)))) pe_int) (nomark _)) (pss_one (ps_ret pe_bl)) pss_nil))
      (pss_cons (psAs (t4) (ps_set (i := 7) scLaw.nd rfl (.inl rfl) (pe_op op_cat (pe_op op_repB (pe_lst (pa_cons (pe_lst (pa_cons pe_bl (pa_cons pe_bl (pa_cons pe_bl (pa_cons pe_bl pa_nil))))) pa_nil)) pe_int) (pe_lst (pa_cons (pe_lst (pa_cons pe_bl (pa_cons pe_bl (pa_cons pe_bl (pa_cons pe_bl pa_nil))))) (pa_cons (pe_lst (pa_cons pe_bl (pa_cons pe_bl (pa_cons pe_bl (pa_cons pe_bl pa_nil))))) pa_nil))))))
      (pss_cons (psAs (t5 K cE) (ps_if (pw_or (pt_cmpR (op_neD hu) (pe_lc (own := [("_law_e", 9)]) (g := gName 9) (tt := tYes) rfl scLaw.nd (pi_list (pv 5)) (blkOk_by (N := NL) (sc := defScope sLaw) (by decide +kernel)) (fun _ _ _ _ _ => pg_name (i := 9) scLaw.nd rfl (.inl rfl)) (fun _ _ _ _ _ => pts_nil) (fun _ _ _ _ _ => (pe_call GF r1 (by rfl) DF.g DF.F.kp DF.b .nil pass0 (pa_cons (pv 9) pa_nil)))) (pv 7) (nomark _)) (pw_or1 (pt_cmpR (op_neD hu) (pe_call GF r1 (by rfl) DF.g DF.F.kp DF.b .nil pass0 (pa_cons (pe_exO PySem.F.excBase_ValueError T.xE T.gE T.ecE.kC (by rfl) pe_str) pa_nil)) (pe_ix ix_list (pv 7) pe_int (fun _ _ => rfl)) (nomark _)))).pt (pss_one (ps_ret pe_bl)) pss_nil))
      (pss_cons (psAs (t6 c) (ps_set (i := 8) scLaw.nd rfl (.inl rfl) (pe_lstB (pa_cons (pe_call GT r1 (by rfl) DT.g DT.F.kp DT.b .nil pass0 (pa_cons (pv 5) pa_nil)) (pa_cons (pe_call GT r1 (by rfl) DT.g DT.F.kp DT.b .nil pass0 (pa_cons (pv 6) pa_nil)) (pa_cons (pe_call GW r3 (by rfl) DW.g DW.F.kp DW.b .nil pass0 (pa_cons (pv 3) pa_nil)) pa_nil))))))
      (pss_cons (psAs (t7 K) (ps_if (pt_cmpR op_ne (pe_callB (call_repr (by exact hgx) (by exact hu)) (by rfl) T.rep boot_repr (pa_cons (pv 8) pa_nil)) (pe_callB (call_repr (by exact hgx) (by exact hu)) (by rfl) T.rep boot_repr (pa_cons (pe_lstB (pa_cons (pe_op op_repB (pe_lst (pa_cons (pv 3) pa_nil)) pe_int) (pa_cons (pe_op op_repB (pe_lst (pa_cons (pv 4) pa_nil)) pe_int) (pa_cons (pe_op op_repB (pe_lst (pa_cons (pv 3) pa_nil)) pe_int) pa_nil)))) pa_nil)) (nomark _)) (pss_one (ps_ret pe_bl)) pss_nil))
      (pss_one (psAs (t8 K) (ps_if (pt_cmpR (op_neD hu) (pe_callG GC r4 hgx (by rfl) DC.g DC.F.kp DC.b pass0 (pa_cons (pv 3) pa_nil)) (pe_lst (pa_cons (pe_lst (pa_cons (pe_lst (pa_cons pe_int pa_nil)) (pa_cons (pe_callB (call_repr (by exact hgx) (by exact hu)) (by rfl) T.rep boot_repr (pa_cons (pv 3) pa_nil)) pa_nil))) (pa_cons (pe_lst (pa_cons (pe_lst (pa_cons pe_int pa_nil)) (pa_cons (pe_callB (call_repr (by exact hgx) (by exact hu)) (by rfl) T.rep boot_repr (pa_cons (pv 3) pa_nil)) pa_nil))) (pa_cons (pe_lst (pa_cons (pe_lst (pa_cons pe_int pa_nil)) (pa_cons (pe_callB (call_repr (by exact hgx) (by exact hu)) (by rfl) T.rep boot_repr (pa_cons (pv 3) pa_nil)) pa_nil))) pa_nil)))) (nomark _)) (pss_one (ps_ret pe_bl)) pss_nil))))))))))))
      (pss_one (psAs (tEnd K) (ps_ret (pe_cmpR op_eq (pe_callB (call_repr (by exact hgx) (by exact hu)) (by rfl) T.rep boot_repr (pa_cons (pe_tup (pa_cons (pe_glob (v := .int 300) (by rfl) gM ⟨_, rfl⟩) (pa_cons (pe_glob (v := .int (-1)) (by rfl) gL ⟨_, rfl⟩) pa_nil))) pa_nil)) pe_str (nomark _)))))), ?_⟩
    refine ⟨_, rfl, a, ns, rfl, hs, hl, fun H1 p cc k1 _ _ d1 => ?_⟩
    refine ⟨6, rfl, by decide, by decide, ?_⟩
    refine for_range (lo := 0) (n := 6) (g := gName 2) (tb := tTurn K cE c) (fun n σ H' => ∃ t x y so ot du to, σ = σL (.ref a) (.ref p) t x y so ot du to ∧ Deck H' p cc (6 * n)) ⟨none, none, none, none, none, none, none, rfl, d1⟩ ?_ ?_
    · rintro n σ H' hn ⟨t, x, y, so, ot, du, to, rfl, d⟩
      exact runT T d (by omega) fun H2 x y so ot du to d2 => ⟨_, x, y, so, ot, du, to, rfl, d2⟩
    · rintro σ H' _
      exact runE fun H2 => q H2
end
end Ehk

set_option Elab.async false
set_option linter.all false
set_option maxRecDepth 100000
set_option maxHeartbeats 16000000
namespace Ehk
open PySem PySem.Spec PyProof.Rows L2
/-- the written class object behind a Bool -/
theorem look_of {K : PySem.W.Frag} {C : Addr} {bmB : List Value} {newId : String} (q : PySem.W.excInitIn K C bmB newId = true) : ∃ nm N qn bs bm hdct sn sub ab col dd k0 k1 k2 k3 k5,
    K.lookup C = some (excClassObj nm qn C N bs bm hdct sn sub ab col dd k0 k1 k2 k3 k5 newId) ∧ ∀ x : String, bm.contains (.type x) = bmB.contains (.type x) := by
  unfold PySem.W.excInitIn at q
  split at q
  · rename_i d cd sl ho
    split at q
    · rename_i C' bm k0 k1 k2 k3 n k5 hm hs
      simp only [Bool.and_eq_true, beq_iff_eq, Bool.not_eq_true'] at q
      obtain ⟨⟨⟨rfl, rfl⟩, hdel⟩, ht⟩ := q
      obtain ⟨nm, bs, mro, ns, qn, hd, sn, sub, ab, col, del⟩ := cd
      dsimp only at hm hdel
      subst hm hdel
      obtain ⟨l⟩ := sl
      simp only at hs
      subst hs
      exact ⟨nm, ns, qn, bs, bm, hd, sn, sub, ab, col, d, k0, k1, k2, k3, k5, ho, fun x => PySem.W.excTail_contains x bm ht⟩
    · cases q
  · cases q
abbrev keMro : List Value := [.type "KeyError", .type "LookupError", .type "Exception", .type "BaseException", .type "object"]
abbrev ieMro : List Value := [.type "IndexError", .type "LookupError", .type "Exception", .type "BaseException", .type "object"]
def tabC (K : PySem.W.Frag) (C : Addr) (bmB : List Value) (newId : String) : Bool :=
  PySem.W.excInitIn K C bmB newId && (PySem.W.excOver K C bmB && (decide (PySem.W.findIn K (.ref C) "__setattr__" = some (some (.builtin "object.__setattr__"))) && (decide (PySem.W.findIn K (.ref C) "__getattribute__" = some (some (.builtin "BaseException.__getattribute__"))) &&
  (decide (PySem.W.findIn K (.ref C) "__getattr__" = some none) && (decide (PySem.W.subIn K (.ref C) (.type "BaseException") = some true) && (decide (PySem.W.typeIn K (.ref C) = some (.type "type")) && (PySem.W.keepIn K (.ref C) && (PySem.W.hasDictIn K C &&
  (decide (PySem.W.findIn K (.ref C) "__class__" = some (some (.builtin "object.__class__"))) && decide (PySem.W.mroIn K C (.type "object") = some true))))))))))
theorem ec_of {K : PySem.W.Frag} {C : Addr} {bmB bmX : List Value} {B Bs newId initId : String} (q : tabC K C bmB newId = true) (F : ExcBaseFacts B newId initId bmX) (c1 : bmB.contains (.type B) = true) (c2 : bmB.contains (.type "AttributeError") = false) (c3 : bmB.contains (.type "NameError") = false)
    (SF : PySem.StoreFacts Bs bmB "object.__setattr__" "object") : Ec K C := by
  unfold tabC at q
  simp only [Bool.and_eq_true, decide_eq_true_eq] at q
  obtain ⟨q1, q2, q3, q4, q5, q6, q7, q8, q9, q10, q11⟩ := q
  obtain ⟨nm, N, qn, bs, bm, hdct, sn, sub, ab, col, dd, k0, k1, k2, k3, k5, lk, hb⟩ := look_of q1
  exact ⟨⟨nm, qn, N, bs, bm, hdct, sn, sub, ab, col, dd, k0, k1, k2, k3, k5, B, newId, initId, bmX, lk, F, ⟨by rw [hb]; exact c1, by rw [hb]; exact c2, by rw [hb]; exact c3⟩⟩, ⟨Bs, bmB, SF, q2⟩, q3, q4, q5, q6, q7, q8, q9, q10, q11⟩
def tabF (K : PySem.W.Frag) (C iC : Addr) (f : Str) : Bool :=
  decide (PySem.W.takerIn K C f = some none) && (decide (PySem.W.findIn K (.ref C) f = some none) && (decide (PySem.W.findIn K (.ref C) "__init__" = some (some (.ref iC))) && decide (PySem.W.typeIn K (.ref iC) = some (.type "function"))))
def tabK (K : PySem.W.Frag) (cE : Addr) (c : Nat → Addr) (j : Nat) : Bool :=
  ((List.range 17).all fun k => decide (PySem.W.kitOne K (.ref (c j)) (.ref (c k)) = some (decide (j = k)))) && (decide (PySem.W.kitOne K (.ref (c j)) (.ref cE) = some (decide (j < 15))) && (decide (PySem.W.kitOne K (.ref (c j)) (.type "ValueError") = some (decide (j < 15))) &&
  (decide (PySem.W.kitOne K (.ref (c j)) (.type "KeyError") = some (decide (j = 15))) && decide (PySem.W.kitOne K (.ref (c j)) (.type "IndexError") = some (decide (j = 16))))))
def tab1 (K : PySem.W.Frag) (cE : Addr) (c i : Nat → Addr) : Bool :=
  (List.range 15).all fun j => tabC K (c j) veMro "ValueError.__new__"
def tab2 (K : PySem.W.Frag) (c : Nat → Addr) : Bool := (List.range 5).all fun j => PySem.W.excIn K (c j) veMro "ValueError.__new__"
def tab3 (K : PySem.W.Frag) (c i : Nat → Addr) : Bool := (List.range 12).all fun j => tabF K (c (j + 5)) (i (j + 5)) (fld (j + 5))
def tab4 (K : PySem.W.Frag) (cE : Addr) (c : Nat → Addr) : Bool := (List.range 17).all fun j => tabK K cE c j
def tab5 (K : PySem.W.Frag) (cE : Addr) : Bool := tabC K cE veMro "ValueError.__new__" && (PySem.W.excIn K cE veMro "ValueError.__new__" && (decide (PySem.W.kitOne K (.ref cE) (.ref cE) = some true) && (decide (PySem.W.kitOne K (.ref cE) (.type "ValueError") = some true) &&
  (decide (PySem.W.kitOne K (.ref cE) (.type "KeyError") = some false) && decide (PySem.W.kitOne K (.ref cE) (.type "IndexError") = some false)))))
def tab6 (K : PySem.W.Frag) (cE : Addr) (c : Nat → Addr) : Bool := decide (PySem.W.exmOne K (.ref (c 12)) (.ref cE) = some true) && (decide (PySem.W.exmOne K (.ref (c 15)) (.ref cE) = some false) && (decide (PySem.W.exmOne K (.ref (c 15)) (.ref (c 15)) = some true) &&
  (decide (PySem.W.exmOne K (.ref (c 16)) (.ref cE) = some false) && (decide (PySem.W.exmOne K (.ref (c 16)) (.ref (c 15)) = some false) && decide (PySem.W.exmOne K (.ref (c 16)) (.ref (c 16)) = some true)))))
theorem all_at {n : Nat} {f : Nat → Bool} (h : (List.range n).all f = true) {j : Nat} (hj : j < n) : f j = true := List.all_eq_true.mp h j (List.mem_range.mpr hj)
section
variable {P : Program} {w : World} {K : PySem.W.Frag} {mg : Str → Option Value} {base : Heap}

abbrev sI5 : Stmt := inClass (topS 7) 0
theorem scI5 : FnScope ["self", "step"] ["self", "step"] (defScope sI5) := ⟨rfl, rfl, rfl, by decide +kernel, rfl, by decide +kernel, by decide +kernel⟩
theorem ok_i5 {a : Addr} {fd : FuncData} (F : Fun K "__init__" "BadStep.__init__" sI5 a fd) : FnOk P w K mg base CX0 1 a fd ["self", "step"] (spIni K "step") := by
  refine F.ok scI5 (fun vs H Q E h => ?_) (fun cdv A outer s H vs Q E hr h => ?_)
  · obtain ⟨a, C, y, rfl, _⟩ := h
    rfl
  · obtain ⟨a, C, y, rfl, T, Tf, ha, q⟩ := h
    exact ⟨_, pss_one (ps_est (pv 0) (pv 1)), y, rfl, .ref a, rfl, a, C, rfl, T, Tf, ha, fun dx n ne => q dx n ne⟩

abbrev sI6 : Stmt := inClass (topS 8) 0
theorem scI6 : FnScope ["self", "step"] ["self", "step"] (defScope sI6) := ⟨rfl, rfl, rfl, by decide +kernel, rfl, by decide +kernel, by decide +kernel⟩
theorem ok_i6 {a : Addr} {fd : FuncData} (F : Fun K "__init__" "NoSuchStep.__init__" sI6 a fd) : FnOk P w K mg base CX0 1 a fd ["self", "step"] (spIni K "step") := by
  refine F.ok scI6 (fun vs H Q E h => ?_) (fun cdv A outer s H vs Q E hr h => ?_)
  · obtain ⟨a, C, y, rfl, _⟩ := h
    rfl
  · obtain ⟨a, C, y, rfl, T, Tf, ha, q⟩ := h
    exact ⟨_, pss_one (ps_est (pv 0) (pv 1)), y, rfl, .ref a, rfl, a, C, rfl, T, Tf, ha, fun dx n ne => q dx n ne⟩

abbrev sI7 : Stmt := inClass (topS 9) 0
theorem scI7 : FnScope ["self", "max_states"] ["self", "max_states"] (defScope sI7) := ⟨rfl, rfl, rfl, by decide +kernel, rfl, by decide +kernel, by decide +kernel⟩
theorem ok_i7 {a : Addr} {fd : FuncData} (F : Fun K "__init__" "TooManyStates.__init__" sI7 a fd) : FnOk P w K mg base CX0 1 a fd ["self", "max_states"] (spIni K "max_states") := by
  refine F.ok scI7 (fun vs H Q E h => ?_) (fun cdv A outer s H vs Q E hr h => ?_)
  · obtain ⟨a, C, y, rfl, _⟩ := h
    rfl
  · obtain ⟨a, C, y, rfl, T, Tf, ha, q⟩ := h
    exact ⟨_, pss_one (ps_est (pv 0) (pv 1)), y, rfl, .ref a, rfl, a, C, rfl, T, Tf, ha, fun dx n ne => q dx n ne⟩

abbrev sI8 : Stmt := inClass (topS 10) 0
theorem scI8 : FnScope ["self", "name"] ["self", "name"] (defScope sI8) := ⟨rfl, rfl, rfl, by decide +kernel, rfl, by decide +kernel, by decide +kernel⟩
theorem ok_i8 {a : Addr} {fd : FuncData} (F : Fun K "__init__" "DuplicateOperation.__init__" sI8 a fd) : FnOk P w K mg base CX0 1 a fd ["self", "name"] (spIni K "name") := by
  refine F.ok scI8 (fun vs H Q E h => ?_) (fun cdv A outer s H vs Q E hr h => ?_)
  · obtain ⟨a, C, y, rfl, _⟩ := h
    rfl
  · obtain ⟨a, C, y, rfl, T, Tf, ha, q⟩ := h
    exact ⟨_, pss_one (ps_est (pv 0) (pv 1)), y, rfl, .ref a, rfl, a, C, rfl, T, Tf, ha, fun dx n ne => q dx n ne⟩

abbrev sI9 : Stmt := inClass (topS 11) 0
theorem scI9 : FnScope ["self", "position"] ["self", "position"] (defScope sI9) := ⟨rfl, rfl, rfl, by decide +kernel, rfl, by decide +kernel, by decide +kernel⟩
theorem ok_i9 {a : Addr} {fd : FuncData} (F : Fun K "__init__" "Mismatch.__init__" sI9 a fd) : FnOk P w K mg base CX0 1 a fd ["self", "position"] (spIni K "position") := by
  refine F.ok scI9 (fun vs H Q E h => ?_) (fun cdv A outer s H vs Q E hr h => ?_)
  · obtain ⟨a, C, y, rfl, _⟩ := h
    rfl
  · obtain ⟨a, C, y, rfl, T, Tf, ha, q⟩ := h
    exact ⟨_, pss_one (ps_est (pv 0) (pv 1)), y, rfl, .ref a, rfl, a, C, rfl, T, Tf, ha, fun dx n ne => q dx n ne⟩

abbrev sI10 : Stmt := inClass (topS 12) 0
theorem scI10 : FnScope ["self", "op"] ["self", "op"] (defScope sI10) := ⟨rfl, rfl, rfl, by decide +kernel, rfl, by decide +kernel, by decide +kernel⟩
theorem ok_i10 {a : Addr} {fd : FuncData} (F : Fun K "__init__" "UnknownOperation.__init__" sI10 a fd) : FnOk P w K mg base CX0 1 a fd ["self", "op"] (spIni K "op") := by
  refine F.ok scI10 (fun vs H Q E h => ?_) (fun cdv A outer s H vs Q E hr h => ?_)
  · obtain ⟨a, C, y, rfl, _⟩ := h
    rfl
  · obtain ⟨a, C, y, rfl, T, Tf, ha, q⟩ := h
    exact ⟨_, pss_one (ps_est (pv 0) (pv 1)), y, rfl, .ref a, rfl, a, C, rfl, T, Tf, ha, fun dx n ne => q dx n ne⟩

abbrev sI11 : Stmt := inClass (topS 13) 0
theorem scI11 : FnScope ["self", "arguments"] ["self", "arguments"] (defScope sI11) := ⟨rfl, rfl, rfl, by decide +kernel, rfl, by decide +kernel, by decide +kernel⟩
theorem ok_i11 {a : Addr} {fd : FuncData} (F : Fun K "__init__" "InvalidArguments.__init__" sI11 a fd) : FnOk P w K mg base CX0 1 a fd ["self", "arguments"] (spIni K "arguments") := by
  refine F.ok scI11 (fun vs H Q E h => ?_) (fun cdv A outer s H vs Q E hr h => ?_)
  · obtain ⟨a, C, y, rfl, _⟩ := h
    rfl
  · obtain ⟨a, C, y, rfl, T, Tf, ha, q⟩ := h
    exact ⟨_, pss_one (ps_est (pv 0) (pv 1)), y, rfl, .ref a, rfl, a, C, rfl, T, Tf, ha, fun dx n ne => q dx n ne⟩

abbrev sI12 : Stmt := inClass (topS 14) 0
theorem scI12 : FnScope ["self", "node"] ["self", "node"] (defScope sI12) := ⟨rfl, rfl, rfl, by decide +kernel, rfl, by decide +kernel, by decide +kernel⟩
theorem ok_i12 {a : Addr} {fd : FuncData} (F : Fun K "__init__" "UnhandledReply.__init__" sI12 a fd) : FnOk P w K mg base CX0 1 a fd ["self", "node"] (spIni K "node") := by
  refine F.ok scI12 (fun vs H Q E h => ?_) (fun cdv A outer s H vs Q E hr h => ?_)
  · obtain ⟨a, C, y, rfl, _⟩ := h
    rfl
  · obtain ⟨a, C, y, rfl, T, Tf, ha, q⟩ := h
    exact ⟨_, pss_one (ps_est (pv 0) (pv 1)), y, rfl, .ref a, rfl, a, C, rfl, T, Tf, ha, fun dx n ne => q dx n ne⟩

abbrev sI13 : Stmt := inClass (topS 15) 0
theorem scI13 : FnScope ["self", "configs"] ["self", "configs"] (defScope sI13) := ⟨rfl, rfl, rfl, by decide +kernel, rfl, by decide +kernel, by decide +kernel⟩
theorem ok_i13 {a : Addr} {fd : FuncData} (F : Fun K "__init__" "Uncovered.__init__" sI13 a fd) : FnOk P w K mg base CX0 1 a fd ["self", "configs"] (spIni K "configs") := by
  refine F.ok scI13 (fun vs H Q E h => ?_) (fun cdv A outer s H vs Q E hr h => ?_)
  · obtain ⟨a, C, y, rfl, _⟩ := h
    rfl
  · obtain ⟨a, C, y, rfl, T, Tf, ha, q⟩ := h
    exact ⟨_, pss_one (ps_est (pv 0) (pv 1)), y, rfl, .ref a, rfl, a, C, rfl, T, Tf, ha, fun dx n ne => q dx n ne⟩

abbrev sI14 : Stmt := inClass (topS 16) 0
theorem scI14 : FnScope ["self", "name"] ["self", "name"] (defScope sI14) := ⟨rfl, rfl, rfl, by decide +kernel, rfl, by decide +kernel, by decide +kernel⟩
theorem ok_i14 {a : Addr} {fd : FuncData} (F : Fun K "__init__" "NameTaken.__init__" sI14 a fd) : FnOk P w K mg base CX0 1 a fd ["self", "name"] (spIni K "name") := by
  refine F.ok scI14 (fun vs H Q E h => ?_) (fun cdv A outer s H vs Q E hr h => ?_)
  · obtain ⟨a, C, y, rfl, _⟩ := h
    rfl
  · obtain ⟨a, C, y, rfl, T, Tf, ha, q⟩ := h
    exact ⟨_, pss_one (ps_est (pv 0) (pv 1)), y, rfl, .ref a, rfl, a, C, rfl, T, Tf, ha, fun dx n ne => q dx n ne⟩

abbrev sI15 : Stmt := inClass (topS 17) 0
theorem scI15 : FnScope ["self", "name"] ["self", "name"] (defScope sI15) := ⟨rfl, rfl, rfl, by decide +kernel, rfl, by decide +kernel, by decide +kernel⟩
theorem ok_i15 {a : Addr} {fd : FuncData} (F : Fun K "__init__" "UnknownName.__init__" sI15 a fd) : FnOk P w K mg base CX0 1 a fd ["self", "name"] (spIni K "name") := by
  refine F.ok scI15 (fun vs H Q E h => ?_) (fun cdv A outer s H vs Q E hr h => ?_)
  · obtain ⟨a, C, y, rfl, _⟩ := h
    rfl
  · obtain ⟨a, C, y, rfl, T, Tf, ha, q⟩ := h
    exact ⟨_, pss_one (ps_est (pv 0) (pv 1)), y, rfl, .ref a, rfl, a, C, rfl, T, Tf, ha, fun dx n ne => q dx n ne⟩

abbrev sI16 : Stmt := inClass (topS 18) 0
theorem scI16 : FnScope ["self", "node"] ["self", "node"] (defScope sI16) := ⟨rfl, rfl, rfl, by decide +kernel, rfl, by decide +kernel, by decide +kernel⟩
theorem ok_i16 {a : Addr} {fd : FuncData} (F : Fun K "__init__" "UnknownNode.__init__" sI16 a fd) : FnOk P w K mg base CX0 1 a fd ["self", "node"] (spIni K "node") := by
  refine F.ok scI16 (fun vs H Q E h => ?_) (fun cdv A outer s H vs Q E hr h => ?_)
  · obtain ⟨a, C, y, rfl, _⟩ := h
    rfl
  · obtain ⟨a, C, y, rfl, T, Tf, ha, q⟩ := h
    exact ⟨_, pss_one (ps_est (pv 0) (pv 1)), y, rfl, .ref a, rfl, a, C, rfl, T, Tf, ha, fun dx n ne => q dx n ne⟩

end
end Ehk
set_option Elab.async false
set_option linter.all false
set_option maxRecDepth 100000
set_option maxHeartbeats 16000000
namespace Ehk
open PySem PySem.Spec PyProof.Rows L2

theorem all_mk {P : Program} {w : World} {K : PySem.W.Frag} {h : Heap} {mg : Str → Option Value} {fa cE c0 c1 c2 c3 c4 c5 c6 c7 c8 c9 c10 c11 c12 c13 c14 c15 c16 i5 i6 i7 i8 i9 i10 i11 i12 i13 i14 i15 i16 fDeck fDraw fPick fArg fAll fKinds fFam fAttr fKw fCaught fLaw : Addr} {tM tL : Tok}
    {odI5 anI5 odI6 anI6 odI7 anI7 odI8 anI8 odI9 anI9 odI10 anI10 odI11 anI11 odI12 anI12 odI13 anI13 odI14 anI14 odI15 anI15 odI16 anI16 odDeck anDeck odDraw anDraw odPick anPick odArg anArg odAll anAll odKinds anKinds odFam anFam odAttr anAttr odKw anKw odCaught anCaught odLaw anLaw : Option Addr} {slI5 slI6 slI7 slI8 slI9 slI10 slI11 slI12 slI13 slI14 slI15 slI16 slDeck slDraw slPick slArg slAll slKinds slFam slAttr slKw slCaught slLaw : Array (Option Value)} {ocI5 kVI5 dcI5 pmI5 cdI5 ctI5 ocI6 kVI6 dcI6 pmI6 cdI6 ctI6 ocI7 kVI7 dcI7 pmI7 cdI7 ctI7 ocI8 kVI8 dcI8 pmI8 cdI8 ctI8 ocI9 kVI9 dcI9 pmI9 cdI9 ctI9 ocI10 kVI10 dcI10 pmI10 cdI10 ctI10 ocI11 kVI11 dcI11 pmI11 cdI11 ctI11 ocI12 kVI12 dcI12 pmI12 cdI12 ctI12 ocI13 kVI13 dcI13 pmI13 cdI13 ctI13 ocI14 kVI14 dcI14 pmI14 cdI14 ctI14 ocI15 kVI15 dcI15 pmI15 cdI15 ctI15 ocI16 kVI16 dcI16 pmI16 cdI16 ctI16 ocDeck kVDeck dcDeck pmDeck cdDeck ctDeck ocDraw kVDraw dcDraw pmDraw cdDraw ctDraw ocPick kVPick dcPick pmPick cdPick ctPick ocArg kVArg dcArg pmArg cdArg ctArg ocAll kVAll dcAll pmAll cdAll ctAll ocKinds kVKinds dcKinds pmKinds cdKinds ctKinds ocFam kVFam dcFam pmFam cdFam ctFam ocAttr kVAttr dcAttr pmAttr cdAttr ctAttr ocKw kVKw dcKw pmKw cdKw ctKw ocCaught kVCaught dcCaught pmCaught cdCaught ctCaught ocLaw kVLaw dcLaw pmLaw cdLaw ctLaw : Value} (X : K.In h) (G : h.Ns mainGlobals mg) (hfa : mg "law" = some (.ref fa))
    (aE : PySem.W.nsIn K mainGlobals "EachHeightError" = some (some (.ref cE)))
    (a0 : PySem.W.nsIn K mainGlobals "InvalidText" = some (some (.ref c0)))
    (a1 : PySem.W.nsIn K mainGlobals "InvalidCommand" = some (some (.ref c1)))
    (a2 : PySem.W.nsIn K mainGlobals "InvalidCertificate" = some (some (.ref c2)))
    (a3 : PySem.W.nsIn K mainGlobals "SystemDown" = some (some (.ref c3)))
    (a4 : PySem.W.nsIn K mainGlobals "SystemUp" = some (some (.ref c4)))
    (a5 : PySem.W.nsIn K mainGlobals "BadStep" = some (some (.ref c5)))
    (a6 : PySem.W.nsIn K mainGlobals "NoSuchStep" = some (some (.ref c6)))
    (a7 : PySem.W.nsIn K mainGlobals "TooManyStates" = some (some (.ref c7)))
    (a8 : PySem.W.nsIn K mainGlobals "DuplicateOperation" = some (some (.ref c8)))
    (a9 : PySem.W.nsIn K mainGlobals "Mismatch" = some (some (.ref c9)))
    (a10 : PySem.W.nsIn K mainGlobals "UnknownOperation" = some (some (.ref c10)))
    (a11 : PySem.W.nsIn K mainGlobals "InvalidArguments" = some (some (.ref c11)))
    (a12 : PySem.W.nsIn K mainGlobals "UnhandledReply" = some (some (.ref c12)))
    (a13 : PySem.W.nsIn K mainGlobals "Uncovered" = some (some (.ref c13)))
    (a14 : PySem.W.nsIn K mainGlobals "NameTaken" = some (some (.ref c14)))
    (a15 : PySem.W.nsIn K mainGlobals "UnknownName" = some (some (.ref c15)))
    (a16 : PySem.W.nsIn K mainGlobals "UnknownNode" = some (some (.ref c16)))
    (b5 : PySem.W.findIn K (.ref c5) "__init__" = some (some (.ref i5)))
    (lI5 : K.lookup i5 = some ⟨ocI5, odI5, .func (PySem.W.fnOf "__init__" "BadStep.__init__" (defArgs sI5) (defBody sI5) (defScope sI5) .none kVI5 dcI5 pmI5 anI5 cdI5 ctI5), slI5⟩)
    (eI5 : PySem.W.codeIn K cdI5 "BadStep.__init__" = true)
    (kI5 : PySem.W.keepIn K (.ref i5) = true)
    (b6 : PySem.W.findIn K (.ref c6) "__init__" = some (some (.ref i6)))
    (lI6 : K.lookup i6 = some ⟨ocI6, odI6, .func (PySem.W.fnOf "__init__" "NoSuchStep.__init__" (defArgs sI6) (defBody sI6) (defScope sI6) .none kVI6 dcI6 pmI6 anI6 cdI6 ctI6), slI6⟩)
    (eI6 : PySem.W.codeIn K cdI6 "NoSuchStep.__init__" = true)
    (kI6 : PySem.W.keepIn K (.ref i6) = true)
    (b7 : PySem.W.findIn K (.ref c7) "__init__" = some (some (.ref i7)))
    (lI7 : K.lookup i7 = some ⟨ocI7, odI7, .func (PySem.W.fnOf "__init__" "TooManyStates.__init__" (defArgs sI7) (defBody sI7) (defScope sI7) .none kVI7 dcI7 pmI7 anI7 cdI7 ctI7), slI7⟩)
    (eI7 : PySem.W.codeIn K cdI7 "TooManyStates.__init__" = true)
    (kI7 : PySem.W.keepIn K (.ref i7) = true)
    (b8 : PySem.W.findIn K (.ref c8) "__init__" = some (some (.ref i8)))
    (lI8 : K.lookup i8 = some ⟨ocI8, odI8, .func (PySem.W.fnOf "__init__" "DuplicateOperation.__init__" (defArgs sI8) (defBody sI8) (defScope sI8) .none kVI8 dcI8 pmI8 anI8 cdI8 ctI8), slI8⟩)
    (eI8 : PySem.W.codeIn K cdI8 "DuplicateOperation.__init__" = true)
    (kI8 : PySem.W.keepIn K (.ref i8) = true)
    (b9 : PySem.W.findIn K (.ref c9) "__init__" = some (some (.ref i9)))
    (lI9 : K.lookup i9 = some ⟨ocI9, odI9, .func (PySem.W.fnOf "__init__" "Mismatch.__init__" (defArgs sI9) (defBody sI9) (defScope sI9) .none kVI9 dcI9 pmI9 anI9 cdI9 ctI9), slI9⟩)
    (eI9 : PySem.W.codeIn K cdI9 "Mismatch.__init__" = true)
    (kI9 : PySem.W.keepIn K (.ref i9) = true)
    (b10 : PySem.W.findIn K (.ref c10) "__init__" = some (some (.ref i10)))
    (lI10 : K.lookup i10 = some ⟨ocI10, odI10, .func (PySem.W.fnOf "__init__" "UnknownOperation.__init__" (defArgs sI10) (defBody sI10) (defScope sI10) .none kVI10 dcI10 pmI10 anI10 cdI10 ctI10), slI10⟩)
    (eI10 : PySem.W.codeIn K cdI10 "UnknownOperation.__init__" = true)
    (kI10 : PySem.W.keepIn K (.ref i10) = true)
    (b11 : PySem.W.findIn K (.ref c11) "__init__" = some (some (.ref i11)))
    (lI11 : K.lookup i11 = some ⟨ocI11, odI11, .func (PySem.W.fnOf "__init__" "InvalidArguments.__init__" (defArgs sI11) (defBody sI11) (defScope sI11) .none kVI11 dcI11 pmI11 anI11 cdI11 ctI11), slI11⟩)
    (eI11 : PySem.W.codeIn K cdI11 "InvalidArguments.__init__" = true)
    (kI11 : PySem.W.keepIn K (.ref i11) = true)
    (b12 : PySem.W.findIn K (.ref c12) "__init__" = some (some (.ref i12)))
    (lI12 : K.lookup i12 = some ⟨ocI12, odI12, .func (PySem.W.fnOf "__init__" "UnhandledReply.__init__" (defArgs sI12) (defBody sI12) (defScope sI12) .none kVI12 dcI12 pmI12 anI12 cdI12 ctI12), slI12⟩)
    (eI12 : PySem.W.codeIn K cdI12 "UnhandledReply.__init__" = true)
    (kI12 : PySem.W.keepIn K (.ref i12) = true)
    (b13 : PySem.W.findIn K (.ref c13) "__init__" = some (some (.ref i13)))
    (lI13 : K.lookup i13 = some ⟨ocI13, odI13, .func (PySem.W.fnOf "__init__" "Uncovered.__init__" (defArgs sI13) (defBody sI13) (defScope sI13) .none kVI13 dcI13 pmI13 anI13 cdI13 ctI13), slI13⟩)
    (eI13 : PySem.W.codeIn K cdI13 "Uncovered.__init__" = true)
    (kI13 : PySem.W.keepIn K (.ref i13) = true)
    (b14 : PySem.W.findIn K (.ref c14) "__init__" = some (some (.ref i14)))
    (lI14 : K.lookup i14 = some ⟨ocI14, odI14, .func (PySem.W.fnOf "__init__" "NameTaken.__init__" (defArgs sI14) (defBody sI14) (defScope sI14) .none kVI14 dcI14 pmI14 anI14 cdI14 ctI14), slI14⟩)
    (eI14 : PySem.W.codeIn K cdI14 "NameTaken.__init__" = true)
    (kI14 : PySem.W.keepIn K (.ref i14) = true)
    (b15 : PySem.W.findIn K (.ref c15) "__init__" = some (some (.ref i15)))
    (lI15 : K.lookup i15 = some ⟨ocI15, odI15, .func (PySem.W.fnOf "__init__" "UnknownName.__init__" (defArgs sI15) (defBody sI15) (defScope sI15) .none kVI15 dcI15 pmI15 anI15 cdI15 ctI15), slI15⟩)
    (eI15 : PySem.W.codeIn K cdI15 "UnknownName.__init__" = true)
    (kI15 : PySem.W.keepIn K (.ref i15) = true)
    (b16 : PySem.W.findIn K (.ref c16) "__init__" = some (some (.ref i16)))
    (lI16 : K.lookup i16 = some ⟨ocI16, odI16, .func (PySem.W.fnOf "__init__" "UnknownNode.__init__" (defArgs sI16) (defBody sI16) (defScope sI16) .none kVI16 dcI16 pmI16 anI16 cdI16 ctI16), slI16⟩)
    (eI16 : PySem.W.codeIn K cdI16 "UnknownNode.__init__" = true)
    (kI16 : PySem.W.keepIn K (.ref i16) = true)
    (nDeck : PySem.W.nsIn K mainGlobals "_law_deck" = some (some (.ref fDeck)))
    (lDeck : K.lookup fDeck = some ⟨ocDeck, odDeck, .func (PySem.W.fnOf "_law_deck" "_law_deck" (defArgs sDeck) (defBody sDeck) (defScope sDeck) .none kVDeck dcDeck pmDeck anDeck cdDeck ctDeck), slDeck⟩)
    (eDeck : PySem.W.codeIn K cdDeck "_law_deck" = true)
    (kDeck : PySem.W.keepIn K (.ref fDeck) = true)
    (nDraw : PySem.W.nsIn K mainGlobals "_law_draw" = some (some (.ref fDraw)))
    (lDraw : K.lookup fDraw = some ⟨ocDraw, odDraw, .func (PySem.W.fnOf "_law_draw" "_law_draw" (defArgs sDraw) (defBody sDraw) (defScope sDraw) .none kVDraw dcDraw pmDraw anDraw cdDraw ctDraw), slDraw⟩)
    (eDraw : PySem.W.codeIn K cdDraw "_law_draw" = true)
    (kDraw : PySem.W.keepIn K (.ref fDraw) = true)
    (nPick : PySem.W.nsIn K mainGlobals "_law_pick" = some (some (.ref fPick)))
    (lPick : K.lookup fPick = some ⟨ocPick, odPick, .func (PySem.W.fnOf "_law_pick" "_law_pick" (defArgs sPick) (defBody sPick) (defScope sPick) .none kVPick dcPick pmPick anPick cdPick ctPick), slPick⟩)
    (ePick : PySem.W.codeIn K cdPick "_law_pick" = true)
    (kPick : PySem.W.keepIn K (.ref fPick) = true)
    (nArg : PySem.W.nsIn K mainGlobals "_law_argument" = some (some (.ref fArg)))
    (lArg : K.lookup fArg = some ⟨ocArg, odArg, .func (PySem.W.fnOf "_law_argument" "_law_argument" (defArgs sArg) (defBody sArg) (defScope sArg) .none kVArg dcArg pmArg anArg cdArg ctArg), slArg⟩)
    (eArg : PySem.W.codeIn K cdArg "_law_argument" = true)
    (kArg : PySem.W.keepIn K (.ref fArg) = true)
    (nAll : PySem.W.nsIn K mainGlobals "_law_all" = some (some (.ref fAll)))
    (lAll : K.lookup fAll = some ⟨ocAll, odAll, .func (PySem.W.fnOf "_law_all" "_law_all" (defArgs sAll) (defBody sAll) (defScope sAll) .none kVAll dcAll pmAll anAll cdAll ctAll), slAll⟩)
    (eAll : PySem.W.codeIn K cdAll "_law_all" = true)
    (kAll : PySem.W.keepIn K (.ref fAll) = true)
    (nKinds : PySem.W.nsIn K mainGlobals "_law_kinds" = some (some (.ref fKinds)))
    (lKinds : K.lookup fKinds = some ⟨ocKinds, odKinds, .func (PySem.W.fnOf "_law_kinds" "_law_kinds" (defArgs sKinds) (defBody sKinds) (defScope sKinds) .none kVKinds dcKinds pmKinds anKinds cdKinds ctKinds), slKinds⟩)
    (eKinds : PySem.W.codeIn K cdKinds "_law_kinds" = true)
    (kKinds : PySem.W.keepIn K (.ref fKinds) = true)
    (nFam : PySem.W.nsIn K mainGlobals "_law_families" = some (some (.ref fFam)))
    (lFam : K.lookup fFam = some ⟨ocFam, odFam, .func (PySem.W.fnOf "_law_families" "_law_families" (defArgs sFam) (defBody sFam) (defScope sFam) .none kVFam dcFam pmFam anFam cdFam ctFam), slFam⟩)
    (eFam : PySem.W.codeIn K cdFam "_law_families" = true)
    (kFam : PySem.W.keepIn K (.ref fFam) = true)
    (nAttr : PySem.W.nsIn K mainGlobals "_law_attributes" = some (some (.ref fAttr)))
    (lAttr : K.lookup fAttr = some ⟨ocAttr, odAttr, .func (PySem.W.fnOf "_law_attributes" "_law_attributes" (defArgs sAttr) (defBody sAttr) (defScope sAttr) .none kVAttr dcAttr pmAttr anAttr cdAttr ctAttr), slAttr⟩)
    (eAttr : PySem.W.codeIn K cdAttr "_law_attributes" = true)
    (kAttr : PySem.W.keepIn K (.ref fAttr) = true)
    (nKw : PySem.W.nsIn K mainGlobals "_law_by_keywords" = some (some (.ref fKw)))
    (lKw : K.lookup fKw = some ⟨ocKw, odKw, .func (PySem.W.fnOf "_law_by_keywords" "_law_by_keywords" (defArgs sKw) (defBody sKw) (defScope sKw) .none kVKw dcKw pmKw anKw cdKw ctKw), slKw⟩)
    (eKw : PySem.W.codeIn K cdKw "_law_by_keywords" = true)
    (kKw : PySem.W.keepIn K (.ref fKw) = true)
    (nCaught : PySem.W.nsIn K mainGlobals "_law_caught" = some (some (.ref fCaught)))
    (lCaught : K.lookup fCaught = some ⟨ocCaught, odCaught, .func (PySem.W.fnOf "_law_caught" "_law_caught" (defArgs sCaught) (defBody sCaught) (defScope sCaught) .none kVCaught dcCaught pmCaught anCaught cdCaught ctCaught), slCaught⟩)
    (eCaught : PySem.W.codeIn K cdCaught "_law_caught" = true)
    (kCaught : PySem.W.keepIn K (.ref fCaught) = true)
    (nLaw : PySem.W.nsIn K mainGlobals "law" = some (some (.ref fLaw)))
    (lLaw : K.lookup fLaw = some ⟨ocLaw, odLaw, .func (PySem.W.fnOf "law" "law" (defArgs sLaw) (defBody sLaw) (defScope sLaw) .none kVLaw dcLaw pmLaw anLaw cdLaw ctLaw), slLaw⟩)
    (eLaw : PySem.W.codeIn K cdLaw "law" = true)
    (kLaw : PySem.W.keepIn K (.ref fLaw) = true)
    (zisi : PySem.W.nsIn K mainGlobals "isinstance" = some none)
    (zve : PySem.W.nsIn K mainGlobals "ValueError" = some none)
    (zke : PySem.W.nsIn K mainGlobals "KeyError" = some none)
    (zie : PySem.W.nsIn K mainGlobals "IndexError" = some none)
    (zenu : PySem.W.nsIn K mainGlobals "enumerate" = some none)
    (zran : PySem.W.nsIn K mainGlobals "range" = some none)
    (zrep : PySem.W.nsIn K mainGlobals "repr" = some none)
    (zlen : PySem.W.nsIn K mainGlobals "len" = some none)
    (zlis : PySem.W.nsIn K mainGlobals "list" = some none)
    (mM : PySem.W.nsIn K mainGlobals "MAX_STATES" = some (some (.int 300 tM)))
    (mL : PySem.W.nsIn K mainGlobals "LOST" = some (some (.int (-1) tL)))
    (hn : PySem.W.specialIn K (.builtin "object.__class__") "__get__" = some (some (.builtin "getset_descriptor.__get__")))
    (ht : PySem.W.takesIn K (.builtin "object.__class__") = some true)
    (t1 : tab1 K cE (fun j => ([c0, c1, c2, c3, c4, c5, c6, c7, c8, c9, c10, c11, c12, c13, c14, c15, c16] : List Addr).getD j 0) (fun j => ([0, 0, 0, 0, 0, i5, i6, i7, i8, i9, i10, i11, i12, i13, i14, i15, i16] : List Addr).getD j 0) = true)
    (t15 : tabC K c15 keMro "LookupError.__new__" = true)
    (t16 : tabC K c16 ieMro "IndexError.__new__" = true)
    (t2 : tab2 K (fun j => ([c0, c1, c2, c3, c4, c5, c6, c7, c8, c9, c10, c11, c12, c13, c14, c15, c16] : List Addr).getD j 0) = true)
    (t3 : tab3 K (fun j => ([c0, c1, c2, c3, c4, c5, c6, c7, c8, c9, c10, c11, c12, c13, c14, c15, c16] : List Addr).getD j 0) (fun j => ([0, 0, 0, 0, 0, i5, i6, i7, i8, i9, i10, i11, i12, i13, i14, i15, i16] : List Addr).getD j 0) = true)
    (t4 : tab4 K cE (fun j => ([c0, c1, c2, c3, c4, c5, c6, c7, c8, c9, c10, c11, c12, c13, c14, c15, c16] : List Addr).getD j 0) = true)
    (t5 : tab5 K cE = true)
    (t6 : tab6 K cE (fun j => ([c0, c1, c2, c3, c4, c5, c6, c7, c8, c9, c10, c11, c12, c13, c14, c15, c16] : List Addr).getD j 0) = true)
    : ∃ fd : FuncData, (∀ (s : Shared) (u : Value), BindsTo s fd ⟨[u], []⟩ [("_law_script", u)]) ∧ ∀ base : Heap, K.In base → base.Ns mainGlobals mg → FnG P w K mg base CX0 5 fa fd ["_law_script"] (spLaw K) := by
  have e := hfa.symm.trans (PySem.W.mg_of X G nLaw)
  cases e
  have I5 := fun_mk (st := sI5) lI5 eI5 kI5
  have I6 := fun_mk (st := sI6) lI6 eI6 kI6
  have I7 := fun_mk (st := sI7) lI7 eI7 kI7
  have I8 := fun_mk (st := sI8) lI8 eI8 kI8
  have I9 := fun_mk (st := sI9) lI9 eI9 kI9
  have I10 := fun_mk (st := sI10) lI10 eI10 kI10
  have I11 := fun_mk (st := sI11) lI11 eI11 kI11
  have I12 := fun_mk (st := sI12) lI12 eI12 kI12
  have I13 := fun_mk (st := sI13) lI13 eI13 kI13
  have I14 := fun_mk (st := sI14) lI14 eI14 kI14
  have I15 := fun_mk (st := sI15) lI15 eI15 kI15
  have I16 := fun_mk (st := sI16) lI16 eI16 kI16
  have FDeck := fun_mk (st := sDeck) lDeck eDeck kDeck
  have BDeck := FDeck.binds (ps := ["_law_script"]) fun _ _ _ _ _ _ us hl => match us, hl with | [_], _ => rfl
  have FDraw := fun_mk (st := sDraw) lDraw eDraw kDraw
  have BDraw := FDraw.binds (ps := ["_law_deck_here", "_law_many"]) fun _ _ _ _ _ _ us hl => match us, hl with | [_, _], _ => rfl
  have FPick := fun_mk (st := sPick) lPick ePick kPick
  have BPick := FPick.binds (ps := ["_law_deck_here", "_law_some"]) fun _ _ _ _ _ _ us hl => match us, hl with | [_, _], _ => rfl
  have FArg := fun_mk (st := sArg) lArg eArg kArg
  have BArg := FArg.binds (ps := ["_law_deck_here"]) fun _ _ _ _ _ _ us hl => match us, hl with | [_], _ => rfl
  have FAll := fun_mk (st := sAll) lAll eAll kAll
  have BAll := FAll.binds (ps := ["_law_x"]) fun _ _ _ _ _ _ us hl => match us, hl with | [_], _ => rfl
  have FKinds := fun_mk (st := sKinds) lKinds eKinds kKinds
  have BKinds := FKinds.binds (ps := ["_law_e"]) fun _ _ _ _ _ _ us hl => match us, hl with | [_], _ => rfl
  have FFam := fun_mk (st := sFam) lFam eFam kFam
  have BFam := FFam.binds (ps := ["_law_e"]) fun _ _ _ _ _ _ us hl => match us, hl with | [_], _ => rfl
  have FAttr := fun_mk (st := sAttr) lAttr eAttr kAttr
  have BAttr := FAttr.binds (ps := ["_law_some"]) fun _ _ _ _ _ _ us hl => match us, hl with | [_], _ => rfl
  have FKw := fun_mk (st := sKw) lKw eKw kKw
  have BKw := FKw.binds (ps := ["_law_x"]) fun _ _ _ _ _ _ us hl => match us, hl with | [_], _ => rfl
  have FCaught := fun_mk (st := sCaught) lCaught eCaught kCaught
  have BCaught := FCaught.binds (ps := ["_law_x"]) fun _ _ _ _ _ _ us hl => match us, hl with | [_], _ => rfl
  have FLaw := fun_mk (st := sLaw) lLaw eLaw kLaw
  have u5 := t5
  unfold tab5 at u5
  simp only [Bool.and_eq_true, decide_eq_true_eq] at u5
  obtain ⟨u51, u52, u53, u54, u55, u56⟩ := u5
  have hc : ∀ j, j < 17 → Ec K ((fun j => ([c0, c1, c2, c3, c4, c5, c6, c7, c8, c9, c10, c11, c12, c13, c14, c15, c16] : List Addr).getD j 0) j) := fun j hj => by
    by_cases h : j < 15
    · exact ec_of (all_at t1 h) PySem.F.excBase_ValueError (by decide +kernel) (by decide +kernel) (by decide +kernel) PySem.F.store_ValueError
    · have e : j = 15 ∨ j = 16 := by omega
      rcases e with rfl | rfl
      · exact ec_of (C := c15) t15 PySem.F.excBase_LookupError (by decide +kernel) (by decide +kernel) (by decide +kernel) PySem.Ehx.store_KeyError
      · exact ec_of (C := c16) t16 PySem.F.excBase_IndexError (by decide +kernel) (by decide +kernel) (by decide +kernel) PySem.F.store_IndexError
  have hf : ∀ j, 5 ≤ j → j < 17 → tabF K ((fun j => ([c0, c1, c2, c3, c4, c5, c6, c7, c8, c9, c10, c11, c12, c13, c14, c15, c16] : List Addr).getD j 0) j) ((fun j => ([0, 0, 0, 0, 0, i5, i6, i7, i8, i9, i10, i11, i12, i13, i14, i15, i16] : List Addr).getD j 0) j) (fld j) = true := fun j h5 h17 => by
    obtain ⟨k, rfl⟩ : ∃ k, j = k + 5 := ⟨j - 5, by omega⟩
    exact all_at t3 (by omega)
  have hk : ∀ j, j < 17 → tabK K cE (fun j => ([c0, c1, c2, c3, c4, c5, c6, c7, c8, c9, c10, c11, c12, c13, c14, c15, c16] : List Addr).getD j 0) j = true := fun j hj => all_at t4 hj
  have T : Txt K mg cE (fun j => ([c0, c1, c2, c3, c4, c5, c6, c7, c8, c9, c10, c11, c12, c13, c14, c15, c16] : List Addr).getD j 0) (fun j => ([0, 0, 0, 0, 0, i5, i6, i7, i8, i9, i10, i11, i12, i13, i14, i15, i16] : List Addr).getD j 0) (fun j => ([PySem.W.fnOf "__init__" "BadStep.__init__" (defArgs sI5) (defBody sI5) (defScope sI5) .none kVI5 dcI5 pmI5 anI5 cdI5 ctI5, PySem.W.fnOf "__init__" "NoSuchStep.__init__" (defArgs sI6) (defBody sI6) (defScope sI6) .none kVI6 dcI6 pmI6 anI6 cdI6 ctI6, PySem.W.fnOf "__init__" "TooManyStates.__init__" (defArgs sI7) (defBody sI7) (defScope sI7) .none kVI7 dcI7 pmI7 anI7 cdI7 ctI7, PySem.W.fnOf "__init__" "DuplicateOperation.__init__" (defArgs sI8) (defBody sI8) (defScope sI8) .none kVI8 dcI8 pmI8 anI8 cdI8 ctI8, PySem.W.fnOf "__init__" "Mismatch.__init__" (defArgs sI9) (defBody sI9) (defScope sI9) .none kVI9 dcI9 pmI9 anI9 cdI9 ctI9, PySem.W.fnOf "__init__" "UnknownOperation.__init__" (defArgs sI10) (defBody sI10) (defScope sI10) .none kVI10 dcI10 pmI10 anI10 cdI10 ctI10, PySem.W.fnOf "__init__" "InvalidArguments.__init__" (defArgs sI11) (defBody sI11) (defScope sI11) .none kVI11 dcI11 pmI11 anI11 cdI11 ctI11, PySem.W.fnOf "__init__" "UnhandledReply.__init__" (defArgs sI12) (defBody sI12) (defScope sI12) .none kVI12 dcI12 pmI12 anI12 cdI12 ctI12, PySem.W.fnOf "__init__" "Uncovered.__init__" (defArgs sI13) (defBody sI13) (defScope sI13) .none kVI13 dcI13 pmI13 anI13 cdI13 ctI13, PySem.W.fnOf "__init__" "NameTaken.__init__" (defArgs sI14) (defBody sI14) (defScope sI14) .none kVI14 dcI14 pmI14 anI14 cdI14 ctI14, PySem.W.fnOf "__init__" "UnknownName.__init__" (defArgs sI15) (defBody sI15) (defScope sI15) .none kVI15 dcI15 pmI15 anI15 cdI15 ctI15, PySem.W.fnOf "__init__" "UnknownNode.__init__" (defArgs sI16) (defBody sI16) (defScope sI16) .none kVI16 dcI16 pmI16 anI16 cdI16 ctI16] : List FuncData).getD (j - 5) (PySem.W.fnOf "__init__" "BadStep.__init__" (defArgs sI5) (defBody sI5) (defScope sI5) .none kVI5 dcI5 pmI5 anI5 cdI5 ctI5)) :=
    { gE := PySem.W.mg_of X G aE,
      g0 := PySem.W.mg_of X G a0,
      g1 := PySem.W.mg_of X G a1,
      g2 := PySem.W.mg_of X G a2,
      g3 := PySem.W.mg_of X G a3,
      g4 := PySem.W.mg_of X G a4,
      g5 := PySem.W.mg_of X G a5,
      g6 := PySem.W.mg_of X G a6,
      g7 := PySem.W.mg_of X G a7,
      g8 := PySem.W.mg_of X G a8,
      g9 := PySem.W.mg_of X G a9,
      g10 := PySem.W.mg_of X G a10,
      g11 := PySem.W.mg_of X G a11,
      g12 := PySem.W.mg_of X G a12,
      g13 := PySem.W.mg_of X G a13,
      g14 := PySem.W.mg_of X G a14,
      g15 := PySem.W.mg_of X G a15,
      g16 := PySem.W.mg_of X G a16,
      eg := ⟨hn, ht⟩,
      ecE := ec_of u51 PySem.F.excBase_ValueError (by decide +kernel) (by decide +kernel) (by decide +kernel) PySem.F.store_ValueError,
      ec := hc,
      ef := fun j h5 h17 => by
        have q := hf j h5 h17
        unfold tabF at q
        simp only [Bool.and_eq_true, decide_eq_true_eq] at q
        exact ⟨q.1, q.2.1⟩,
      xE := u52,
      x := fun j hj => all_at t2 hj,
      iC := fun j h5 h17 => by
        have q := hf j h5 h17
        unfold tabF at q
        simp only [Bool.and_eq_true, decide_eq_true_eq] at q
        exact q.2.2.1,
      iT := fun j h5 h17 => by
        have q := hf j h5 h17
        unfold tabF at q
        simp only [Bool.and_eq_true, decide_eq_true_eq] at q
        exact q.2.2.2,
      ini := fun P w base j h5 h17 => by
        have e : j = 5 ∨ j = 6 ∨ j = 7 ∨ j = 8 ∨ j = 9 ∨ j = 10 ∨ j = 11 ∨ j = 12 ∨ j = 13 ∨ j = 14 ∨ j = 15 ∨ j = 16 := by omega
        rcases e with rfl | rfl | rfl | rfl | rfl | rfl | rfl | rfl | rfl | rfl | rfl | rfl
        · exact ok_i5 I5
        · exact ok_i6 I6
        · exact ok_i7 I7
        · exact ok_i8 I8
        · exact ok_i9 I9
        · exact ok_i10 I10
        · exact ok_i11 I11
        · exact ok_i12 I12
        · exact ok_i13 I13
        · exact ok_i14 I14
        · exact ok_i15 I15
        · exact ok_i16 I16,
      bP := fun j h5 h17 s a u => by
        have e : j = 5 ∨ j = 6 ∨ j = 7 ∨ j = 8 ∨ j = 9 ∨ j = 10 ∨ j = 11 ∨ j = 12 ∨ j = 13 ∨ j = 14 ∨ j = 15 ∨ j = 16 := by omega
        rcases e with rfl | rfl | rfl | rfl | rfl | rfl | rfl | rfl | rfl | rfl | rfl | rfl
        · exact .of_eq rfl
        · exact .of_eq rfl
        · exact .of_eq rfl
        · exact .of_eq rfl
        · exact .of_eq rfl
        · exact .of_eq rfl
        · exact .of_eq rfl
        · exact .of_eq rfl
        · exact .of_eq rfl
        · exact .of_eq rfl
        · exact .of_eq rfl
        · exact .of_eq rfl,
      bK := fun j h5 h17 s a u => by
        have e : j = 5 ∨ j = 6 ∨ j = 7 ∨ j = 8 ∨ j = 9 ∨ j = 10 ∨ j = 11 ∨ j = 12 ∨ j = 13 ∨ j = 14 ∨ j = 15 ∨ j = 16 := by omega
        rcases e with rfl | rfl | rfl | rfl | rfl | rfl | rfl | rfl | rfl | rfl | rfl | rfl
        · exact .of_eq rfl
        · exact .of_eq rfl
        · exact .of_eq rfl
        · exact .of_eq rfl
        · exact .of_eq rfl
        · exact .of_eq rfl
        · exact .of_eq rfl
        · exact .of_eq rfl
        · exact .of_eq rfl
        · exact .of_eq rfl
        · exact .of_eq rfl
        · exact .of_eq rfl,
      kit := fun j k hj hk2 => by
        have q := hk j hj
        unfold tabK at q
        simp only [Bool.and_eq_true, decide_eq_true_eq] at q
        exact of_decide_eq_true (all_at q.1 hk2),
      kE := fun j hj => by
        have q := hk j hj
        unfold tabK at q
        simp only [Bool.and_eq_true, decide_eq_true_eq] at q
        exact q.2.1,
      kV := fun j hj => by
        have q := hk j hj
        unfold tabK at q
        simp only [Bool.and_eq_true, decide_eq_true_eq] at q
        exact q.2.2.1,
      kK := fun j hj => by
        have q := hk j hj
        unfold tabK at q
        simp only [Bool.and_eq_true, decide_eq_true_eq] at q
        exact q.2.2.2.1,
      kI := fun j hj => by
        have q := hk j hj
        unfold tabK at q
        simp only [Bool.and_eq_true, decide_eq_true_eq] at q
        exact q.2.2.2.2,
      eE := u53,
      eV := u54,
      eK := u55,
      eI := u56,
      isi := PySem.W.mg_none_of X G zisi,
      ve := PySem.W.mg_none_of X G zve,
      ke := PySem.W.mg_none_of X G zke,
      ie := PySem.W.mg_none_of X G zie,
      enu := PySem.W.mg_none_of X G zenu,
      ran := PySem.W.mg_none_of X G zran,
      rep := PySem.W.mg_none_of X G zrep,
      len := PySem.W.mg_none_of X G zlen,
      lis := PySem.W.mg_none_of X G zlis }
  have u6 := t6
  unfold tab6 at u6
  simp only [Bool.and_eq_true, decide_eq_true_eq] at u6
  obtain ⟨u61, u62, u63, u64, u65, u66⟩ := u6
  have S : Exs K cE (fun j => ([c0, c1, c2, c3, c4, c5, c6, c7, c8, c9, c10, c11, c12, c13, c14, c15, c16] : List Addr).getD j 0) := ⟨u61, u62, u63, u64, u65, u66⟩
  refine ⟨_, fun s u => .of_eq rfl, fun base _ _ => ok_law FLaw T S ⟨FDeck, PySem.W.mg_of X G nDeck, BDeck⟩ ⟨FDraw, PySem.W.mg_of X G nDraw, BDraw⟩ ⟨FPick, PySem.W.mg_of X G nPick, BPick⟩ ⟨FArg, PySem.W.mg_of X G nArg, BArg⟩ ⟨FAll, PySem.W.mg_of X G nAll, BAll⟩ ⟨FKinds, PySem.W.mg_of X G nKinds, BKinds⟩ ⟨FFam, PySem.W.mg_of X G nFam, BFam⟩ ⟨FAttr, PySem.W.mg_of X G nAttr, BAttr⟩ ⟨FKw, PySem.W.mg_of X G nKw, BKw⟩ ⟨FCaught, PySem.W.mg_of X G nCaught, BCaught⟩ (PySem.W.mg_of X G mM) (PySem.W.mg_of X G mL)⟩
end Ehk
open PySem PySem.W PyProof.Rows
set_option Elab.async false
set_option linter.all false
set_option maxRecDepth 100000
set_option maxHeartbeats 0 in
theorem PySem.Challenge.cw_eachheight_k01_error_classes_holds : PySem.Challenge.rw_eachheight_k01_error_classes.Holds := by
  w_on; o_law; k_head; (case hw => w_witness2)
  k_fill
  refine L2.walk_ofG (l := PySem.Challenge.rw_eachheight_k01_error_classes) (n := 63) (k := 5) (x := "_law_script") (CX := fun _ => L2.CX0) (sp := fun w => Ehk.spLaw _) rfl (by decide) rfl ⟨rfl, by decide, by decide⟩ (fun w h Y => PySem.W.kIn_of Y) ?F (fun _ _ a ns hl _ hS => ⟨a, ns, rfl, hS, hl, fun _ => rfl⟩) (fun _ _ _ _ _ h => h)
  case F =>
    intro w mg fa h KX G hmg
    refine' Ehk.all_mk KX G hmg ?aE ?a0 ?a1 ?a2 ?a3 ?a4 ?a5 ?a6 ?a7 ?a8 ?a9 ?a10 ?a11 ?a12 ?a13 ?a14 ?a15 ?a16 ?b5 ?lI5 ?eI5 ?kI5 ?b6 ?lI6 ?eI6 ?kI6 ?b7 ?lI7 ?eI7 ?kI7 ?b8 ?lI8 ?eI8 ?kI8 ?b9 ?lI9 ?eI9 ?kI9 ?b10 ?lI10 ?eI10 ?kI10 ?b11 ?lI11 ?eI11 ?kI11 ?b12 ?lI12 ?eI12 ?kI12 ?b13 ?lI13 ?eI13 ?kI13 ?b14 ?lI14 ?eI14 ?kI14 ?b15 ?lI15 ?eI15 ?kI15 ?b16 ?lI16 ?eI16 ?kI16 ?nDeck ?lDeck ?eDeck ?kDeck ?nDraw ?lDraw ?eDraw ?kDraw ?nPick ?lPick ?ePick ?kPick ?nArg ?lArg ?eArg ?kArg ?nAll ?lAll ?eAll ?kAll ?nKinds ?lKinds ?eKinds ?kKinds ?nFam ?lFam ?eFam ?kFam ?nAttr ?lAttr ?eAttr ?kAttr ?nKw ?lKw ?eKw ?kKw ?nCaught ?lCaught ?eCaught ?kCaught ?nLaw ?lLaw ?eLaw ?kLaw ?zisi ?zve ?zke ?zie ?zenu ?zran ?zrep ?zlen ?zlis ?mM ?mL ?hn ?ht ?t1 ?t15 ?t16 ?t2 ?t3 ?t4 ?t5 ?t6
    (case aE => k_is)
    (case a0 => k_is)
    (case a1 => k_is)
    (case a2 => k_is)
    (case a3 => k_is)
    (case a4 => k_is)
    (case a5 => k_is)
    (case a6 => k_is)
    (case a7 => k_is)
    (case a8 => k_is)
    (case a9 => k_is)
    (case a10 => k_is)
    (case a11 => k_is)
    (case a12 => k_is)
    (case a13 => k_is)
    (case a14 => k_is)
    (case a15 => k_is)
    (case a16 => k_is)
    (case b5 => k_is)
    (case lI5 => k_is)
    (case eI5 => k_is)
    (case kI5 => k_is)
    (case b6 => k_is)
    (case lI6 => k_is)
    (case eI6 => k_is)
    (case kI6 => k_is)
    (case b7 => k_is)
    (case lI7 => k_is)
    (case eI7 => k_is)
    (case kI7 => k_is)
    (case b8 => k_is)
    (case lI8 => k_is)
    (case eI8 => k_is)
    (case kI8 => k_is)
    (case b9 => k_is)
    (case lI9 => k_is)
    (case eI9 => k_is)
    (case kI9 => k_is)
    (case b10 => k_is)
    (case lI10 => k_is)
    (case eI10 => k_is)
    (case kI10 => k_is)
    (case b11 => k_is)
    (case lI11 => k_is)
    (case eI11 => k_is)
    (case kI11 => k_is)
    (case b12 => k_is)
    (case lI12 => k_is)
    (case eI12 => k_is)
    (case kI12 => k_is)
    (case b13 => k_is)
    (case lI13 => k_is)
    (case eI13 => k_is)
    (case kI13 => k_is)
    (case b14 => k_is)
    (case lI14 => k_is)
    (case eI14 => k_is)
    (case kI14 => k_is)
    (case b15 => k_is)
    (case lI15 => k_is)
    (case eI15 => k_is)
    (case kI15 => k_is)
    (case b16 => k_is)
    (case lI16 => k_is)
    (case eI16 => k_is)
    (case kI16 => k_is)
    (case nDeck => k_is)
    (case lDeck => k_is)
    (case eDeck => k_is)
    (case kDeck => k_is)
    (case nDraw => k_is)
    (case lDraw => k_is)
    (case eDraw => k_is)
    (case kDraw => k_is)
    (case nPick => k_is)
    (case lPick => k_is)
    (case ePick => k_is)
    (case kPick => k_is)
    (case nArg => k_is)
    (case lArg => k_is)
    (case eArg => k_is)
    (case kArg => k_is)
    (case nAll => k_is)
    (case lAll => k_is)
    (case eAll => k_is)
    (case kAll => k_is)
    (case nKinds => k_is)
    (case lKinds => k_is)
    (case eKinds => k_is)
    (case kKinds => k_is)
    (case nFam => k_is)
    (case lFam => k_is)
    (case eFam => k_is)
    (case kFam => k_is)
    (case nAttr => k_is)
    (case lAttr => k_is)
    (case eAttr => k_is)
    (case kAttr => k_is)
    (case nKw => k_is)
    (case lKw => k_is)
    (case eKw => k_is)
    (case kKw => k_is)
    (case nCaught => k_is)
    (case lCaught => k_is)
    (case eCaught => k_is)
    (case kCaught => k_is)
    (case nLaw => k_is)
    (case lLaw => k_is)
    (case eLaw => k_is)
    (case kLaw => k_is)
    (case zisi => k_is)
    (case zve => k_is)
    (case zke => k_is)
    (case zie => k_is)
    (case zenu => k_is)
    (case zran => k_is)
    (case zrep => k_is)
    (case zlen => k_is)
    (case zlis => k_is)
    (case mM => k_is)
    (case mL => k_is)
    (case hn => k_is)
    (case ht => k_is)
    (case t1 => kernel_rfl)
    (case t15 => kernel_rfl)
    (case t16 => kernel_rfl)
    (case t2 => kernel_rfl)
    (case t3 => kernel_rfl)
    (case t4 => kernel_rfl)
    (case t5 => kernel_rfl)
    (case t6 => kernel_rfl)
#print axioms PySem.Challenge.cw_eachheight_k01_error_classes_holds
