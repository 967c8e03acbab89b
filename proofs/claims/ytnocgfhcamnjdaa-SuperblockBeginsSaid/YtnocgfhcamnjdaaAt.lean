/- Superblock: Store 18. -/
import Derived.Test.YtnocgfhcamnjdaaAs
namespace Go.Proofs.Ytnocgfhcamnjdaa
open Go.RowKit Go.Lib

theorem grt_lt {l : List Sect} (h : Secs l) : grt l < 4294967296 := by
  unfold grt
  have : ∀ (l : List Sect) (g : Nat), g < 4294967296 → Secs l → l.foldl (fun g s => max g (num4 s)) g < 4294967296 := by
    intro l
    induction l with
    | nil => exact fun g hg _ => hg
    | cons s l ih =>
      intro g hg hs
      rw [List.foldl_cons]
      refine ih _ ?_ (fun x hx => hs x (List.mem_cons_of_mem _ hx))
      have := num4_lt (hs s (List.mem_cons_self ..)).2
      omega
  exact this l 0 (by omega) h
/-- Store's error, and what it writes. -/
def storE (st : List Sect) (ca : List Ca) (a : Int) (p : List Nat) : Int :=
  if readE st.length ca a 16 = 0 then (if 0 < (newS (readL st ca a 16)).2.2 then (if 31 < p.length then 5 else if grt (readL st ca a 16) = 4294967295 then 11 else 0) else 9) else readE st.length ca a 16
def storC (st : List Sect) (ca : List Ca) (a : Int) (p : List Nat) : List (Int × Int × List Sect) :=
  if storE st ca a p = 0 then repC (if (newS (readL st ca a 16)).1 = 0 then a + 8 else a) (secsN (grt (readL st ca a 16) + 1) 8 (conL p)) else []
set_option maxHeartbeats 2000000 in
set_option maxRecDepth 100000 in
theorem store_any (st : List Sect) (ca : List Ca) (sv cv pv : Value) (a : Int) (p : List Nat) (w : World) (hs : Sec w sv st) (hsn : NilOk sv) (hc : Cas w cv ca) (hr : R64 a) (hca : ca.length ≤ 500000) (hp : Byt w pv p) :
    Calls Try.prog 18 #[.agg #[sv, cv], .int .i64 a, pv] w (MadeOps w (storE st ca a p) (storC st ca a p)) := by
  obtain ⟨PA, pc, rfl⟩ := byt_form hp
  obtain ⟨A, c, rfl⟩ := sec_form hs
  obtain ⟨B, d, rfl⟩ := cas_form hc
  obtain ⟨n, hn⟩ : ∃ n, st.length = n := ⟨_, rfl⟩
  obtain ⟨m, hm⟩ : ∃ n, ca.length = n := ⟨_, rfl⟩
  obtain ⟨g, hg⟩ : ∃ g, w.heap.size = g := ⟨_, rfl⟩
  obtain ⟨W1, hW1⟩ : ∃ X, w.alloc (.cells #[.slice A n c, .slice B m d] 35) = X := ⟨_, rfl⟩
  have hb1 : Below w.heap.size w W1 := by rw [← hW1]; exact al1 _ _
  have hx1 : W1.heap[g]? = some (.cells #[.slice A n c, .slice B m d] 35) := by rw [← hW1, ← hg]; exact heap_alloc_new _ _
  obtain ⟨er, her⟩ : ∃ z, readE st.length ca a 16 = z := ⟨_, rfl⟩
  obtain ⟨L, hL⟩ : ∃ z, readL st ca a 16 = z := ⟨_, rfl⟩
  have HLL : Hid (er = 0 → L.length = 16 ∧ 0 ≤ a ∧ a ≤ 4080) := hid (fun h => by
    rw [← hL]
    exact readL_len (her.trans h))
  have HRD := hid (sbRead_any st ca _ _ a W1 (hs.below hb1) hsn (hc.below hb1) hr hca)
  have HRO : Hid (∀ e w', ReadQ W1 st ca a 16 e w' → ∃ A c, e = .returned (.tuple #[.slice A L.length c, .int .i64 er]) ∧ Sec w' (.slice A L.length c) L ∧ Below W1.heap.size W1 w') := hid (fun e w' h => by
    have h := readQ_open h
    rw [hL, her] at h
    exact h)
  rw [hn, hm] at HRD
  rw [hn, hm]
  have x0 := cell_of_row _ _ 0 _ _ _ hx1
  have x1 := cell_of_row _ _ 1 _ _ _ hx1
  have HB1 := hid hb1
  have HW1 := hid hW1
  have HG := hid hg
  have HE : Hid (storE st ca a p = if er = 0 then (if 0 < (newS L).2.2 then (if 31 < p.length then 5 else if grt L = 4294967295 then 11 else 0) else 9) else er) := hid (by
    unfold storE
    rw [her, hL])
  have HC0 : Hid (storC st ca a p = if storE st ca a p = 0 then repC (if (newS L).1 = 0 then a + 8 else a) (secsN (grt L + 1) 8 (conL p)) else []) := hid (by
    unfold storC
    rw [hL])
  obtain ⟨E, hE⟩ : ∃ r, storE st ca a p = r := ⟨_, rfl⟩
  obtain ⟨C, hC⟩ : ∃ r, storC st ca a p = r := ⟨_, rfl⟩
  rw [hE] at HE HC0 ⊢
  rw [hC] at HC0 ⊢
  obtain ⟨pm, hpm⟩ : ∃ n, p.length = n := ⟨_, rfl⟩
  have HP := hid hp
  have HPM := hid hpm
  rw [hpm] at HP HE ⊢
  clear hs hsn hc hb1 hx1 hW1 hg hn hm her hL hE hC hp hpm
  go_enter Try.func18, Try.ntmps18
  go_upto_region 1 with fail
  rw [HW1.out, HG.out]
  by_cases h0 : er = 0
  · subst h0
    have hL16 := (HLL.out rfl).1
    have ha0 := (HLL.out rfl).2.1
    have ha1 := (HLL.out rfl).2.2
    go_upto_region 4 with (go_at_call 33; refine HRD.out.mono ?_; intro e X hQ; obtain ⟨A8, c8, rfl, hs8, hb8⟩ := HRO.out _ _ hQ; have HS8 := hid hs8; have HB8 := hid (below_both HB1.out hb8); clear hQ hs8 hb8)
    obtain ⟨i, hi⟩ : ∃ i, (newS L).1 = i := ⟨_, rfl⟩
    obtain ⟨C0, hC0⟩ : ∃ C, (newS L).2.1 = C := ⟨_, rfl⟩
    obtain ⟨k, hk⟩ : ∃ k, (newS L).2.2 = k := ⟨_, rfl⟩
    obtain ⟨gg, hgg⟩ : ∃ k, grt L = k := ⟨_, rfl⟩
    have hgd := nst_good HS8.out.1 hL16 2 (Nat.le_refl _)
    have hi1 : i ≤ 1 := hi ▸ nst_idx L 2 (Nat.le_refl _)
    have hCL : C0.length = 32 := hC0 ▸ hgd.1
    have hggl : gg < 4294967296 := hgg ▸ grt_lt HS8.out.1
    have HNW := hid (sbNewest_any L _ X HS8.out hL16)
    have HGR : Hid (∀ Y, Below X.heap.size X Y → Calls Try.prog 37 #[.slice A8 16 c8] Y fun e w' => e = .returned (.int .u32 (gg : Int)) ∧ Below Y.heap.size Y w') := hid (fun Y hY => by
      have h := greatest_any L _ Y (HS8.out.below hY) (by omega)
      rw [hL16, hgg] at h
      exact h)
    rw [hi, hC0, hk, hL16] at HNW
    rw [hk, hgg] at HE
    rw [hi, hgg] at HC0
    obtain ⟨BB, hBB⟩ : ∃ X, cBlk C0 k = X := ⟨_, rfl⟩
    have HBL : Hid (BB.length = 33) := hid (by rw [← hBB]; exact cBlk_len hCL)
    have HB1c : Hid (∀ v ∈ BB, v.oneCell' = true) := hid (by rw [← hBB]; exact cBlk_one _ _)
    rw [hBB] at HNW
    clear hi hC0 hk hgg hgd hCL hBB hL16
    by_cases hk0 : 0 < k
    · rw [decide_eq_true hk0] at HNW
      by_cases hpl : 31 < pm
      · obtain rfl : E = 5 := by rw [HE.out]; simp [hk0, hpl]
        obtain rfl : C = [] := by rw [HC0.out]; simp
        have d31 : decide (31 < (pm : Int)) = true := decide_eq_true (by omega)
        have d31' : decide (31 < pm) = true := decide_eq_true hpl
        go_wp2_with (first
        | (go_at_call 34; refine HNW.out.mono ?_; rintro e X1 ⟨rfl, hb1⟩; obtain ⟨p11, hp6⟩ : ∃ g, X1.heap.size = g := ⟨_, rfl⟩; obtain ⟨W2, hW2⟩ : ∃ X, X1.alloc (.cells z33.toArray 71) = X := ⟨_, rfl⟩; have hy2 : W2.heap[p11]? = some (.cells z33.toArray 71) := (by rw [← hW2, ← hp6]; exact heap_alloc_new _ _); have hb1' : Below w.heap.size w X1 := HB8.out.trans (hb1.mono HB8.out.size); have hbx1 : Below X.heap.size X W2 := hb1.trans (Below.mono (by rw [← hW2]; exact al1 _ _) hb1.size); have hpx : X.heap.size ≤ p11 := (by rw [← hp6]; exact hb1.size); obtain ⟨W3, hr3, hy3, _, hbw3⟩ := set_row71 (cs := BB) hy2 HBL.out z33_len HB1c.out; have hbx3 := hbw3 _ _ hbx1 hpx; have HBX3 := hid hbx3; have HB3 : Hid (Below w.heap.size w W3) := hid (HB8.out.trans (hbx3.mono HB8.out.size)); have HR3 := hid hr3; have HA2 := hid (show (Instr.alloc 71 true (.tuple #[])).run Try.prog X1 = .ok (.pointer (some ⟨p11, 0, none⟩)) W2 from (by rw [← hW2, ← hp6]; exact run_alloc71 X1)); clear hb1 hb1' hbx1 hpx hbx3 hp6 hW2 hy2 hr3 hy3 hbw3)
        | (refine wpl_alloc rfl 71 rfl _ HA2.out ?_)
        | (refine wpl_store rfl 71 (.tmp 11) (.tmp 29) rfl _ _ rfl rfl HR3.out ?_)
        | fail)
        go_ret2
        exact madeOps_er HB3.out
      have d31 : decide (31 < (pm : Int)) = false := decide_eq_false (by omega)
      have d31' : decide (31 < pm) = false := decide_eq_false hpl
      by_cases hgm : gg = 4294967295
      · obtain rfl : E = 11 := by rw [HE.out]; simp [hk0, hpl, hgm]
        obtain rfl : C = [] := by rw [HC0.out]; simp
        have dgm : ((gg : Int) == 4294967295) = true := by rw [hgm]; rfl
        clear hgm
        go_wp2_with (first
        | (go_at_call 34; refine HNW.out.mono ?_; rintro e X1 ⟨rfl, hb1⟩; obtain ⟨p11, hp6⟩ : ∃ g, X1.heap.size = g := ⟨_, rfl⟩; obtain ⟨W2, hW2⟩ : ∃ X, X1.alloc (.cells z33.toArray 71) = X := ⟨_, rfl⟩; have hy2 : W2.heap[p11]? = some (.cells z33.toArray 71) := (by rw [← hW2, ← hp6]; exact heap_alloc_new _ _); have hb1' : Below w.heap.size w X1 := HB8.out.trans (hb1.mono HB8.out.size); have hbx1 : Below X.heap.size X W2 := hb1.trans (Below.mono (by rw [← hW2]; exact al1 _ _) hb1.size); have hpx : X.heap.size ≤ p11 := (by rw [← hp6]; exact hb1.size); obtain ⟨W3, hr3, hy3, _, hbw3⟩ := set_row71 (cs := BB) hy2 HBL.out z33_len HB1c.out; have hbx3 := hbw3 _ _ hbx1 hpx; have HBX3 := hid hbx3; have HB3 : Hid (Below w.heap.size w W3) := hid (HB8.out.trans (hbx3.mono HB8.out.size)); have HR3 := hid hr3; have HA2 := hid (show (Instr.alloc 71 true (.tuple #[])).run Try.prog X1 = .ok (.pointer (some ⟨p11, 0, none⟩)) W2 from (by rw [← hW2, ← hp6]; exact run_alloc71 X1)); clear hb1 hb1' hbx1 hpx hbx3 hp6 hW2 hy2 hr3 hy3 hbw3)
        | (refine wpl_alloc rfl 71 rfl _ HA2.out ?_)
        | (refine wpl_store rfl 71 (.tmp 11) (.tmp 29) rfl _ _ rfl rfl HR3.out ?_)
        | (go_at_call 37; refine (HGR.out W3 HBX3.out).mono ?_; rintro e X4 ⟨rfl, hb4⟩; have HB4 : Hid (Below w.heap.size w X4) := hid (HB3.out.trans (hb4.mono HB3.out.size)); have HBX4 : Hid (Below X.heap.size X X4) := hid (HBX3.out.trans (hb4.mono HBX3.out.size)); clear hb4)
        | fail)
        go_ret2
        exact madeOps_er HB4.out
      have dgm : ((gg : Int) == 4294967295) = false := by rw [beq_eq_false_iff_ne]; omega
      obtain rfl : E = 0 := by rw [HE.out]; simp [hk0, hpl, hgm]
      have hcl : (conL p).length = 32 := conL_len (by have := HPM.out; omega)
      have hc8 : B8 (conL p) := conL_b8 (by have := HPM.out; omega) HP.out.1
      obtain ⟨CB, hCB⟩ : ∃ X, (conL p).map byteV = X := ⟨_, rfl⟩
      obtain ⟨BB2, hBB2⟩ : ∃ X, cBlk (conL p) (gg + 1) = X := ⟨_, rfl⟩
      obtain ⟨SN, hSN⟩ : ∃ X, secsN (gg + 1) 8 (conL p) = X := ⟨_, rfl⟩
      have HSN : Hid (Secs SN ∧ SN.length = 8) := hid (hSN ▸ ⟨secsN_secs _ 8 _ hc8 (by omega), secsN_len _ 8 _⟩)
      have HBL2 : Hid (BB2.length = 33) := hid (by rw [← hBB2]; exact cBlk_len hcl)
      have HB2c : Hid (∀ v ∈ BB2, v.oneCell' = true) := hid (by rw [← hBB2]; exact cBlk_one _ _)
      have HBD : Hid (∀ W, (Instr.build 71 #[(0, .agg CB.toArray), (1, .int .u32 ((gg : Int) + 1))]).run Try.prog W = .ok (.agg BB2.toArray) W) := hid (fun W => by
        rw [← hBB2, ← hCB]
        exact run_build71 W _ (by rw [List.length_map]; exact hcl) _ ⟨_, rfl⟩)
      have HC27 : Hid (∀ X, Below w.heap.size w X → Calls Try.prog 27 #[.slice PA pm pc] X fun e w' => e = .returned (.agg CB.toArray) ∧ Below X.heap.size X w') := hid (fun X hX => by
        have hB := HP.out.below hX
        have h := contentOf_any p _ X hB (by have := HPM.out; omega)
        rw [hCB] at h
        exact h)
      have HC29 : Hid (∀ X, Calls Try.prog 29 #[.agg BB2.toArray] X fun e w' => ∃ u, e = .returned u ∧ w'.ownsRow X.heap.size 57 8 u 8 (SN.map cSec).flatten ∧ Below X.heap.size X w') := hid (fun X => by
        have h := sectors_any (conL p) (gg + 1) X hcl hc8 (by omega)
        unfold MadeS at h
        rw [hBB2, hSN, HSN.out.2] at h
        exact h)
      have hwg : IntKind.u32.wrap ((gg : Int) + 1) = (gg : Int) + 1 := by rw [IntKind.wrap_u32]; omega
      have hwa : IntKind.i64.wrap (a + 8) = a + 8 := by rw [IntKind.wrap_i64]; omega
      rw [hSN] at HC0
      clear hcl hc8 hCB hBB2 hSN
      obtain rfl | rfl : i = 0 ∨ i = 1 := by omega
      · have HRA : Hid (R64 (a + 8)) := hid ⟨by omega, by omega⟩
        obtain rfl : C = repC (a + 8) SN := by rw [HC0.out]; simp
        go_upto_region 14 with (first
        | (go_at_call 34; refine HNW.out.mono ?_; rintro e X1 ⟨rfl, hb1⟩; obtain ⟨p11, hp6⟩ : ∃ g, X1.heap.size = g := ⟨_, rfl⟩; obtain ⟨W2, hW2⟩ : ∃ X, X1.alloc (.cells z33.toArray 71) = X := ⟨_, rfl⟩; have hy2 : W2.heap[p11]? = some (.cells z33.toArray 71) := (by rw [← hW2, ← hp6]; exact heap_alloc_new _ _); have hb1' : Below w.heap.size w X1 := HB8.out.trans (hb1.mono HB8.out.size); have hbx1 : Below X.heap.size X W2 := hb1.trans (Below.mono (by rw [← hW2]; exact al1 _ _) hb1.size); have hpx : X.heap.size ≤ p11 := (by rw [← hp6]; exact hb1.size); obtain ⟨W3, hr3, hy3, _, hbw3⟩ := set_row71 (cs := BB) hy2 HBL.out z33_len HB1c.out; have hbx3 := hbw3 _ _ hbx1 hpx; have HBX3 := hid hbx3; have HB3 : Hid (Below w.heap.size w W3) := hid (HB8.out.trans (hbx3.mono HB8.out.size)); have HR3 := hid hr3; have HA2 := hid (show (Instr.alloc 71 true (.tuple #[])).run Try.prog X1 = .ok (.pointer (some ⟨p11, 0, none⟩)) W2 from (by rw [← hW2, ← hp6]; exact run_alloc71 X1)); clear hb1 hb1' hbx1 hpx hbx3 hp6 hW2 hy2 hr3 hy3 hbw3)
        | (refine wpl_alloc rfl 71 rfl _ HA2.out ?_)
        | (refine wpl_store rfl 71 (.tmp 11) (.tmp 29) rfl _ _ rfl rfl HR3.out ?_)
        | (go_at_call 37; refine (HGR.out W3 HBX3.out).mono ?_; rintro e X4 ⟨rfl, hb4⟩; have HB4 : Hid (Below w.heap.size w X4) := hid (HB3.out.trans (hb4.mono HB3.out.size)); have HBX4 : Hid (Below X.heap.size X X4) := hid (HBX3.out.trans (hb4.mono HBX3.out.size)); clear hb4)
        | (go_at_call 27; refine (HC27.out X4 HB4.out).mono ?_; rintro e X5 ⟨rfl, hb5⟩; obtain ⟨p14, hp14⟩ : ∃ g, X5.heap.size = g := ⟨_, rfl⟩; obtain ⟨W6, hW6⟩ : ∃ X, X5.alloc (.cells z33.toArray 71) = X := ⟨_, rfl⟩; have hy6 : W6.heap[p14]? = some (.cells z33.toArray 71) := (by rw [← hW6, ← hp14]; exact heap_alloc_new _ _); have hb5' : Below w.heap.size w X5 := HB4.out.trans (hb5.mono HB4.out.size); have hg14 : w.heap.size ≤ p14 := (by rw [← hp14]; exact hb5'.size); obtain ⟨W7, hr7, hy7, _, hbw7⟩ := set_row71 (cs := BB2) hy6 HBL2.out z33_len HB2c.out; have HB7 : Hid (Below w.heap.size w W7) := hid (hbw7 _ _ (hb5'.trans (Below.mono (by rw [← hW6]; exact al1 _ _) hb5'.size)) hg14); have HY7 := hid hy7; have HR7 := hid hr7; have HA6 := hid (show (Instr.alloc 71 true (.tuple #[])).run Try.prog X5 = .ok (.pointer (some ⟨p14, 0, none⟩)) W6 from (by rw [← hW6, ← hp14]; exact run_alloc71 X5)); clear hb5 hb5' hp14 hW6 hy6 hg14 hr7 hy7 hbw7)
        | (refine wpl_alloc rfl 71 rfl _ HA6.out ?_)
        | (refine wpl_build2 (by rfl) 71 (.tmp 41) (.tmp 43) (by rfl) _ _ _ (by rfl) (by rfl) (HBD.out _) ?_)
        | (refine wpl_store rfl 71 (.tmp 14) (.tmp 44) rfl _ _ rfl rfl HR7.out ?_)
        | fail)
        go_wp2_with (first
        | (refine wpl_load rfl 71 (.tmp 14) rfl _ _ rfl (run_loadAt71 _ p14 BB2 HBL2.out HY7.out) ?_)
        | (go_at_call 29; refine (HC29.out W7).mono ?_; rintro e Y1 ⟨v24, rfl, ho24, hb01⟩; have HS24 := hid (sec_of_own24 ho24 HSN.out); have HN24 := hid (own_nilOkE ho24); have HBY1 : Hid (Below w.heap.size w Y1) := hid (HB7.out.trans (hb01.mono HB7.out.size)); clear ho24 hb01)
        | (go_at_call 28; refine (replace_any (a + 8) v24 SN Y1 HS24.out).mono ?_; rintro e Y2 ⟨u25, rfl, ho25, hb12⟩; have HOP25 := hid (ops_of_own ho25 rfl (repO_ok (HS24.out.below hb12) HN24.out HRA.out)); have HN25 := hid (own_nilOkE ho25); have HBY2 : Hid (Below w.heap.size w Y2) := hid (HBY1.out.trans (hb12.mono HBY1.out.size)); clear ho25 hb12)
        | fail)
        go_ret2
        exact ⟨_, _, rfl, HOP25.out, HN25.out, rfl, HBY2.out⟩
      · have HRA : Hid (R64 (a)) := hid ⟨by omega, by omega⟩
        obtain rfl : C = repC (a) SN := by rw [HC0.out]; simp
        go_upto_region 14 with (first
        | (go_at_call 34; refine HNW.out.mono ?_; rintro e X1 ⟨rfl, hb1⟩; obtain ⟨p11, hp6⟩ : ∃ g, X1.heap.size = g := ⟨_, rfl⟩; obtain ⟨W2, hW2⟩ : ∃ X, X1.alloc (.cells z33.toArray 71) = X := ⟨_, rfl⟩; have hy2 : W2.heap[p11]? = some (.cells z33.toArray 71) := (by rw [← hW2, ← hp6]; exact heap_alloc_new _ _); have hb1' : Below w.heap.size w X1 := HB8.out.trans (hb1.mono HB8.out.size); have hbx1 : Below X.heap.size X W2 := hb1.trans (Below.mono (by rw [← hW2]; exact al1 _ _) hb1.size); have hpx : X.heap.size ≤ p11 := (by rw [← hp6]; exact hb1.size); obtain ⟨W3, hr3, hy3, _, hbw3⟩ := set_row71 (cs := BB) hy2 HBL.out z33_len HB1c.out; have hbx3 := hbw3 _ _ hbx1 hpx; have HBX3 := hid hbx3; have HB3 : Hid (Below w.heap.size w W3) := hid (HB8.out.trans (hbx3.mono HB8.out.size)); have HR3 := hid hr3; have HA2 := hid (show (Instr.alloc 71 true (.tuple #[])).run Try.prog X1 = .ok (.pointer (some ⟨p11, 0, none⟩)) W2 from (by rw [← hW2, ← hp6]; exact run_alloc71 X1)); clear hb1 hb1' hbx1 hpx hbx3 hp6 hW2 hy2 hr3 hy3 hbw3)
        | (refine wpl_alloc rfl 71 rfl _ HA2.out ?_)
        | (refine wpl_store rfl 71 (.tmp 11) (.tmp 29) rfl _ _ rfl rfl HR3.out ?_)
        | (go_at_call 37; refine (HGR.out W3 HBX3.out).mono ?_; rintro e X4 ⟨rfl, hb4⟩; have HB4 : Hid (Below w.heap.size w X4) := hid (HB3.out.trans (hb4.mono HB3.out.size)); have HBX4 : Hid (Below X.heap.size X X4) := hid (HBX3.out.trans (hb4.mono HBX3.out.size)); clear hb4)
        | (go_at_call 27; refine (HC27.out X4 HB4.out).mono ?_; rintro e X5 ⟨rfl, hb5⟩; obtain ⟨p14, hp14⟩ : ∃ g, X5.heap.size = g := ⟨_, rfl⟩; obtain ⟨W6, hW6⟩ : ∃ X, X5.alloc (.cells z33.toArray 71) = X := ⟨_, rfl⟩; have hy6 : W6.heap[p14]? = some (.cells z33.toArray 71) := (by rw [← hW6, ← hp14]; exact heap_alloc_new _ _); have hb5' : Below w.heap.size w X5 := HB4.out.trans (hb5.mono HB4.out.size); have hg14 : w.heap.size ≤ p14 := (by rw [← hp14]; exact hb5'.size); obtain ⟨W7, hr7, hy7, _, hbw7⟩ := set_row71 (cs := BB2) hy6 HBL2.out z33_len HB2c.out; have HB7 : Hid (Below w.heap.size w W7) := hid (hbw7 _ _ (hb5'.trans (Below.mono (by rw [← hW6]; exact al1 _ _) hb5'.size)) hg14); have HY7 := hid hy7; have HR7 := hid hr7; have HA6 := hid (show (Instr.alloc 71 true (.tuple #[])).run Try.prog X5 = .ok (.pointer (some ⟨p14, 0, none⟩)) W6 from (by rw [← hW6, ← hp14]; exact run_alloc71 X5)); clear hb5 hb5' hp14 hW6 hy6 hg14 hr7 hy7 hbw7)
        | (refine wpl_alloc rfl 71 rfl _ HA6.out ?_)
        | (refine wpl_build2 (by rfl) 71 (.tmp 41) (.tmp 43) (by rfl) _ _ _ (by rfl) (by rfl) (HBD.out _) ?_)
        | (refine wpl_store rfl 71 (.tmp 14) (.tmp 44) rfl _ _ rfl rfl HR7.out ?_)
        | fail)
        go_wp2_with (first
        | (refine wpl_load rfl 71 (.tmp 14) rfl _ _ rfl (run_loadAt71 _ p14 BB2 HBL2.out HY7.out) ?_)
        | (go_at_call 29; refine (HC29.out W7).mono ?_; rintro e Y1 ⟨v24, rfl, ho24, hb01⟩; have HS24 := hid (sec_of_own24 ho24 HSN.out); have HN24 := hid (own_nilOkE ho24); have HBY1 : Hid (Below w.heap.size w Y1) := hid (HB7.out.trans (hb01.mono HB7.out.size)); clear ho24 hb01)
        | (go_at_call 28; refine (replace_any (a) v24 SN Y1 HS24.out).mono ?_; rintro e Y2 ⟨u25, rfl, ho25, hb12⟩; have HOP25 := hid (ops_of_own ho25 rfl (repO_ok (HS24.out.below hb12) HN24.out HRA.out)); have HN25 := hid (own_nilOkE ho25); have HBY2 : Hid (Below w.heap.size w Y2) := hid (HBY1.out.trans (hb12.mono HBY1.out.size)); clear ho25 hb12)
        | fail)
        go_ret2
        exact ⟨_, _, rfl, HOP25.out, HN25.out, rfl, HBY2.out⟩
    · obtain rfl : k = 0 := by omega
      obtain rfl : E = 9 := by rw [HE.out]; simp
      obtain rfl : C = [] := by rw [HC0.out]; simp
      go_wp2_with (first
        | (go_at_call 34; refine HNW.out.mono ?_; rintro e X1 ⟨rfl, hb1⟩; obtain ⟨p11, hp6⟩ : ∃ g, X1.heap.size = g := ⟨_, rfl⟩; obtain ⟨W2, hW2⟩ : ∃ X, X1.alloc (.cells z33.toArray 71) = X := ⟨_, rfl⟩; have hy2 : W2.heap[p11]? = some (.cells z33.toArray 71) := (by rw [← hW2, ← hp6]; exact heap_alloc_new _ _); have hb1' : Below w.heap.size w X1 := HB8.out.trans (hb1.mono HB8.out.size); have hbx1 : Below X.heap.size X W2 := hb1.trans (Below.mono (by rw [← hW2]; exact al1 _ _) hb1.size); have hpx : X.heap.size ≤ p11 := (by rw [← hp6]; exact hb1.size); obtain ⟨W3, hr3, hy3, _, hbw3⟩ := set_row71 (cs := BB) hy2 HBL.out z33_len HB1c.out; have hbx3 := hbw3 _ _ hbx1 hpx; have HBX3 := hid hbx3; have HB3 : Hid (Below w.heap.size w W3) := hid (HB8.out.trans (hbx3.mono HB8.out.size)); have HR3 := hid hr3; have HA2 := hid (show (Instr.alloc 71 true (.tuple #[])).run Try.prog X1 = .ok (.pointer (some ⟨p11, 0, none⟩)) W2 from (by rw [← hW2, ← hp6]; exact run_alloc71 X1)); clear hb1 hb1' hbx1 hpx hbx3 hp6 hW2 hy2 hr3 hy3 hbw3)
        | (refine wpl_alloc rfl 71 rfl _ HA2.out ?_)
        | (refine wpl_store rfl 71 (.tmp 11) (.tmp 29) rfl _ _ rfl rfl HR3.out ?_)
        | fail)
      go_ret2
      exact madeOps_er HB3.out
  · obtain rfl : E = er := by rw [HE.out, if_neg h0]
    obtain rfl : C = [] := by rw [HC0.out, if_neg h0]
    have hne : (E != 0) = true := by rw [bne_iff_ne]; exact h0
    go_wp2_with (go_at_call 33; refine HRD.out.mono ?_; intro e X hQ; obtain ⟨A8, c8, rfl, hs8, hb8⟩ := HRO.out _ _ hQ; have HS8 := hid hs8; have HB8 := hid (below_both HB1.out hb8); clear hQ hs8 hb8)
    go_ret2
    exact madeOps_er HB8.out
end Go.Proofs.Ytnocgfhcamnjdaa
