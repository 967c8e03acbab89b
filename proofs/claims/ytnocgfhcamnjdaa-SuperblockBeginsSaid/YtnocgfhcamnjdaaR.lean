/- What a crash leaves; rows that stay behind a block; a sector is stored; Crash. -/
import Derived.Test.YtnocgfhcamnjdaaQb
namespace Go.Proofs.Ytnocgfhcamnjdaa
open Go.RowKit Go.Lib

/-- A crash decides the sectors one by one. -/
def crs (ca : List Ca) : List Int → List Sect → List Int → List Sect × List Int
  | [], st, ch => (st, ch)
  | κ :: r, st, ch => crs ca r (if 0 < dec ch (((G ca κ).length : Int) + 1) then st.set κ.toNat ((G ca κ).getD (dec ch (((G ca κ).length : Int) + 1) - 1).toNat []) else st) ch.tail
def crashS (st : List Sect) (ca : List Ca) (ch : List Int) : List Sect × List Ca × List Int := if chkD st.length ca = 0 then ((crs ca (keysL st.length ca) st ch).1, [], (crs ca (keysL st.length ca) st ch).2) else (st, ca, ch)
theorem crs_ch (ca : List Ca) (ks : List Int) (st : List Sect) (ch : List Int) : (crs ca ks st ch).2 = ch.drop ks.length := by
  induction ks generalizing st ch with
  | nil => rfl
  | cons κ r ih => rw [crs, ih, List.length_cons, ← List.drop_one, List.drop_drop]; congr 1; omega
theorem dec_range (l : List Int) {n : Int} (h : 0 < n) : 0 ≤ dec l n ∧ dec l n < n := by
  cases l with
  | nil => exact ⟨Int.le_refl _, h⟩
  | cons x t => exact ⟨Int.emod_nonneg x (by omega), Int.emod_lt_of_pos x h⟩
theorem secs_set {l : List Sect} {i : Nat} {s : Sect} (h : Secs l) (hs : s.length = 8 ∧ B8 s) : Secs (l.set i s) := fun x hx => by
  rcases List.mem_or_eq_of_mem_set hx with hx | rfl
  · exact h x hx
  · exact hs
/-- Blocks from a on are as they were. -/
def AG (a : Nat) (w w' : World) : Prop := w.heap.size ≤ w'.heap.size ∧ ∀ k, a ≤ k → k < w.heap.size → w'.heap[k]? = w.heap[k]?
theorem AG.refl (a : Nat) (w : World) : AG a w w := ⟨Nat.le_refl _, fun _ _ _ => rfl⟩
theorem AG.trans {a : Nat} {x y z : World} (h : AG a x y) (k : AG a y z) : AG a x z := ⟨Nat.le_trans h.1 k.1, fun i hi hl => (k.2 i hi (Nat.lt_of_lt_of_le hl h.1)).trans (h.2 i hi hl)⟩
theorem ag_below {a : Nat} {w w' : World} (h : Below w.heap.size w w') : AG a w w' := ⟨h.size, fun k _ hl => h.block k hl⟩
theorem ag_upd {a c : Nat} {w w' : World} (h : Upd c w w') (hc : c < a) : AG a w w' := ⟨h.low.size, fun k hk hl => h.block k hl (by omega)⟩
theorem own_ag {a : Nat} {w w' : World} {base T st n : Nat} {v : Value} {xs : List Value} (ho : w.ownsRow base T st v n xs) (h : AG a w w') (hb : a ≤ base) : w'.ownsRow base T st v n xs := by
  refine ⟨ho.1, ?_⟩
  rcases ho.2 with h0 | ⟨k, cap, cur, e, hk, hgb, h2⟩
  · exact .inl h0
  · exact .inr ⟨k, cap, cur, e, hk, (h.2 k (Nat.le_trans hb hk) (box_lt hgb)).trans hgb, h2⟩
theorem Occ.ag {w w' : World} {bm : Nat} {l : List Ca} (h : Occ w bm l) (hg : AG bm w w') : Occ w' bm l := by
  obtain ⟨es, clock, hb, hs, hn, hr, hall, hap⟩ := h
  refine ⟨es, clock, (hg.2 bm (Nat.le_refl _) (box_lt hb)).trans hb, hs, hn, fun e he => ?_, hall, hap⟩
  obtain ⟨κ, q1, q2, q3, q4⟩ := hr e he
  exact ⟨κ, q1, q2, q3, own_ag q4 hg (Nat.le_succ _)⟩
theorem keep_upd {c T : Nat} {w w' : World} {cs : Array Value} {E : TypeId} (h : Upd c w w') (hc : w.heap[c]? = some (.cells cs E)) (hT : T ≠ E) : Keep T w w' := fun k cs' hk => (h.block k (box_lt hk) (fun e => by
  rw [e, hc] at hk
  cases hk
  exact hT rfl)).trans hk
/-- A sector is stored into a row of one's own. -/
theorem store_sec {X : World} {B ob n c : Nat} {st : List Sect} (ho : X.ownsRow B 57 8 (.slice (some ⟨ob, 0, none⟩) n c) n (st.map cSec).flatten) (hn : st.length = n) (hs : Secs st) {a : Nat} (ha : a < n) {s : Sect} (h8 : s.length = 8 ∧ B8 s) :
    ∃ X', (Instr.storeAt 57 (.pointer (some ⟨ob, a * 8, none⟩)) (.agg (cSec s).toArray)).run Try.prog X = .ok () X' ∧ X'.ownsRow B 57 8 (.slice (some ⟨ob, 0, none⟩) n c) n ((st.set a s).map cSec).flatten ∧ (∀ k, k ≠ ob → X'.heap[k]? = X.heap[k]?) ∧ X'.heap.size = X.heap.size ∧ (∀ T, T ≠ 57 → Keep T X X') ∧ ∀ B0 W, Below B0 W X → B0 ≤ ob → Below B0 W X' := by
  have hlen := flat_cells hs
  rw [hn] at hlen
  obtain ⟨hob, _, cur, hcur, hcs, _⟩ := own_at ho
  have hsl : (cSec s).length = 8 := by unfold cSec; rw [List.length_map]; exact h8.1
  obtain ⟨hfit, hown⟩ := own_splice (o := a * 8) (D := cSec s) ho hcur (by rw [hsl, hlen]; omega)
  refine ⟨_, run_storeAt_row X ob (a * 8) 57 57 (cSec s) cur hcur (by rw [hsl]; exact size73) hfit (byteV_one _), ?_, fun k hk => setRow_other _ _ _ _ hk, by simp [World.setRow, Array.size_modify], fun T hT => keep_setRow hcur hT _, fun B0 W hb hB => below_setRow hb hB _⟩
  have h1 : (st.set a s) = spl st a [s] := (spl_one _ _ _ (by rw [hn]; exact ha)).symm
  rw [h1, flat_spl hs (fun y hy => by rw [List.mem_singleton] at hy; subst hy; exact h8) (by rw [hn]; exact ha)]
  simpa using hown
def CrashQ (w : World) (r : List Sect × List Ca × List Int) (e : Ending) (w' : World) : Prop := ∃ v u, e = .returned (.tuple #[v, u]) ∧ OwnG w' w.heap.size r.1 r.2.1 v ∧ w'.ownsRow w.heap.size 3 1 u r.2.2.length (r.2.2.map intV) ∧ Below w.heap.size w w'
set_option maxHeartbeats 8000000 in
set_option maxRecDepth 100000 in
theorem crash_any (st : List Sect) (ca : List Ca) (sv cv lv : Value) (l : List Int) (w : World) (hs : Sec w sv st) (hsn : NilOk sv) (hc : Cas w cv ca) (hl : Ints w lv l) (hst : st.length ≤ 1000000) (hca : ca.length ≤ 500000) (hll : l.length ≤ 900000000000) :
    Calls Try.prog 39 #[.agg #[sv, cv], lv] w (CrashQ w (crashS st ca l)) := by
  obtain ⟨A, c, rfl⟩ := sec_form hs
  obtain ⟨B, d, rfl⟩ := cas_form hc
  obtain ⟨LA, lc, rfl⟩ := ints_form hl
  have HSS := hid hs.1
  have HCS : Hid (CasL ca) := hid hc.1
  obtain ⟨n, hn⟩ : ∃ n, st.length = n := ⟨_, rfl⟩
  obtain ⟨m, hm⟩ : ∃ n, ca.length = n := ⟨_, rfl⟩
  obtain ⟨M, hM⟩ : ∃ n, l.length = n := ⟨_, rfl⟩
  rw [hn] at hs hsn ⊢
  rw [hm] at hc ⊢
  rw [hM] at hl ⊢
  obtain ⟨g, hg⟩ : ∃ g, w.heap.size = g := ⟨_, rfl⟩
  obtain ⟨W1, hW1⟩ : ∃ X, (w.alloc (.cells #[.slice A n c, .slice B m d] 35)).alloc (.cells #[.slice none 0 0, .slice none 0 0] 35) = X := ⟨_, rfl⟩
  have hb1 : Below w.heap.size w W1 := by rw [← hW1]; exact ((Below.refl _ w).alloc (Nat.le_refl _) _).alloc (by simp) _
  have hx1 : W1.heap[g]? = some (.cells #[.slice A n c, .slice B m d] 35) := by rw [← hW1, ← hg]; exact (Below.heap_alloc _ _ _ (by simp)).trans (heap_alloc_new w _)
  have hy1 : W1.heap[g + 1]? = some (.cells #[.slice none 0 0, .slice none 0 0] 35) := by rw [← hW1, ← hg]; simpa using heap_alloc_new (w.alloc (.cells #[.slice A n c, .slice B m d] 35)) (.cells #[.slice none 0 0, .slice none 0 0] 35)
  have hge : w.heap.size ≤ g := Nat.le_of_eq hg
  have hge1 : w.heap.size ≤ g + 1 := by omega
  obtain ⟨k0, hk0⟩ : ∃ k, chkD n ca = k := ⟨_, rfl⟩
  have HCK : Hid (∀ X, Below W1.heap.size W1 X → Calls Try.prog 40 #[.agg #[.slice A n c, .slice B m d]] X fun e w' => e = .returned (.int .i64 k0) ∧ Below X.heap.size X w') := hid (fun X hX => by
    have h := check_any st ca (.slice A n c) (.slice B m d) X (hs.below (hb1.trans (hX.mono hb1.size))) (hc.below (hb1.trans (hX.mono hb1.size)))
    rwa [hn, hk0] at h)
  have HCP : Hid (∀ X, Below W1.heap.size W1 X → Calls Try.prog 41 #[.agg #[.slice A n c, .slice B m d]] X (DiskQ X st ca)) := hid (fun X hX => copied_any st ca (.slice A n c) (.slice B m d) X (hs.below (hb1.trans (hX.mono hb1.size))) hsn (hc.below (hb1.trans (hX.mono hb1.size))) hst (by omega))
  have HFR := hid (fun X (hX : Below W1.heap.size W1 X) => from_any l (.slice LA M lc) X (hl.below (hb1.trans (hX.mono hb1.size))) hll)
  have HOC := hid (fun X (hX : Below W1.heap.size W1 X) => occurrences_any ca (.slice B m d) X (hc.below (hb1.trans (hX.mono hb1.size))) (by omega))
  have HLR := hid hl.1
  have HX1 := hid hx1
  have HY1 := hid hy1
  have HB1 := hid hb1
  have HW1 := hid hW1
  have HG := hid hg
  have HN := hid hn
  have HM := hid hm
  have HK0 := hid hk0
  have HLL := hid hll
  have HST := hid hst
  have HCAL := hid hca
  have x0 := cell_of_row _ _ 0 _ _ _ hx1
  have x1 := cell_of_row _ _ 1 _ _ _ hx1
  clear hs hc hl hsn hn hm hM hb1 hx1 hy1 hW1 hg hk0 hst hca hll
  go_enter Try.func39, Try.ntmps39
  go_upto_region 1 with fail
  rw [HW1.out, HG.out]
  go_upto_region 2 with (first | (go_at_call 41; refine (HCP.out W1 (Below.refl _ _)).mono ?_; rintro e X2 ⟨v2, rfl, ⟨sv2, cv2, rfl, ho1, ho2⟩, hb3⟩; obtain ⟨A2, c2, rfl⟩ := ownAny_form ho1; obtain ⟨B2, d2, rfl⟩ := ownAny_form ho2; have HO1 := hid ho1; have HO2 := hid ho2; have HB3 := hid hb3; clear ho1 ho2 hb3) | (go_at_call 51; refine (HFR.out _ HB3.out).mono ?_; rintro e X3 ⟨cc, rfl, hcc, hchs, hb4⟩; have HCC := hid hcc; have HCHS := hid hchs; have HB4 := hid hb4; clear hcc hchs hb4))
  obtain ⟨W4, hW4⟩ : ∃ X, X3.alloc (.cells #[.slice A2 st.length c2, .slice B2 ca.length d2] 35) = X := ⟨_, rfl⟩
  obtain ⟨p, hp⟩ : ∃ p, X3.heap.size = p := ⟨_, rfl⟩
  rw [hW4, hp]
  have hb5 : Below X3.heap.size X3 W4 := by rw [← hW4]; exact al1 _ _
  have HBX : Hid (W4.heap[p]? = some (.cells #[.slice A2 n c2, .slice B2 m d2] 35)) := hid (by rw [← hW4, ← hp, HN.out, HM.out]; exact heap_alloc_new _ _)
  have HOS : Hid (W4.ownsRow W1.heap.size 57 8 (.slice A2 n c2) n (st.map cSec).flatten) := hid (by
    have h := own_keep (own_keep HO1.out (keep_below HB4.out)) (keep_below hb5)
    rwa [HN.out] at h)
  have HOC4 : Hid (W4.ownsRow W1.heap.size 112 9 (.slice B2 m d2) m (ca.map cCa).flatten) := hid (by
    have h := own_keep (own_keep HO2.out (keep_below HB4.out)) (keep_below hb5)
    rwa [HM.out] at h)
  have HCH : Hid (Chs p W4 cc l) := hid (by rw [← hp]; exact HCHS.out.below hb5 (Nat.le_refl _))
  have HW4 : Hid (Below W1.heap.size W1 W4) := hid ((HB3.out.trans (HB4.out.mono HB3.out.size)).trans (hb5.mono (Nat.le_trans HB3.out.size HB4.out.size)))
  have hp4 : p < W4.heap.size := box_lt HBX.out
  have h1p : W1.heap.size ≤ p := by rw [← hp]; exact Nat.le_trans HB3.out.size HB4.out.size
  have h1c : W1.heap.size ≤ cc := Nat.le_trans HB3.out.size HCC.out
  have hx4 := (HW4.out.block _ (box_lt HX1.out)).trans HX1.out
  have z0 := cell_of_row _ _ 0 _ _ _ hx4
  have z1 := cell_of_row _ _ 1 _ _ _ hx4
  clear hW4 hp hb5 x0 x1 hx4
  rw [HN.out, HM.out]
  by_cases h0 : k0 = 0
  rotate_left
  · have dk : (k0 == 0) = false := by simpa using h0
    have HR : Hid (crashS st ca l = (st, ca, l)) := hid (by unfold crashS; rw [HN.out, HK0.out, if_neg h0])
    go_upto_region 12 with (go_at_call 40; refine (HCK.out W4 HW4.out).mono ?_; rintro e X5 ⟨rfl, hb6⟩; have HB6 := hid hb6; clear hb6)
    have HPx : Hid (∀ X, Below X5.heap.size X5 X → X.cell? ⟨p, 0, none⟩ = some (.slice A2 n c2) ∧ X.cell? ⟨p, 1, none⟩ = some (.slice B2 m d2)) := hid (fun X hX => by
      have g1 := (hX.block _ (Nat.lt_of_lt_of_le hp4 HB6.out.size)).trans ((HB6.out.block _ hp4).trans HBX.out)
      exact ⟨cell_of_row _ _ 0 _ _ _ g1, cell_of_row _ _ 1 _ _ _ g1⟩)
    have HYx := hid ((HB6.out.block _ (Nat.lt_of_lt_of_le (box_lt HY1.out) HW4.out.size)).trans ((HW4.out.block _ (box_lt HY1.out)).trans HY1.out))
    have HLEFTx := hid (fun X (hX : Below X5.heap.size X5 X) => left_any p cc l X ((HCH.out.below HB6.out (Nat.le_of_lt hp4)).below hX (Nat.le_trans (Nat.le_of_lt hp4) HB6.out.size)) HLL.out)
    clear z0 z1
    refine region_tail 3 (fun X => X.cell? ⟨p, 0, none⟩ = some (.slice A2 n c2) ∧ X.cell? ⟨p, 1, none⟩ = some (.slice B2 m d2)) (by kernel_rfl) ?_
    obtain ⟨X0, hX0⟩ : ∃ X, X5.drew = X := ⟨_, rfl⟩
    have hB0 : Below X5.heap.size X5 X0 := by rw [← hX0]; exact (Below.refl X5.heap.size X5).drew
    have hHeld := HPx.out X0 hB0
    rw [hX0]
    clear hX0
    refine' wpAnyT_take (i := 0) (oi := ?oix0) (v := ?vx0) ?hix0 (by kernel_rfl) (by kernel_rfl) ?hqx0 ?hyx0 hHeld ?restx0
    case hix0 => (simp only [List.getElem?_toArray, List.getElem?_cons_zero]; rfl)
    case hqx0 => exact fun _ _ _ h => h
    case hyx0 => (refine Or.inl ⟨by rfl, ?_⟩; intro w' hSw; (try dsimp only at hSw); go_simp; try with_reducible rfl)
    (try simp only [Act.put, List.setIfInBounds_toArray, List.set_cons_zero, List.set_cons_succ])
    refine' wpAnyT_take (i := 1) (oi := ?oix1) (v := ?vx1) ?hix1 (by kernel_rfl) (by kernel_rfl) ?hqx1 ?hyx1 hHeld ?restx1
    case hix1 => (simp only [List.getElem?_toArray, List.getElem?_cons_zero, List.getElem?_cons_succ]; rfl)
    case hqx1 => exact fun _ _ _ h => h
    case hyx1 => (refine Or.inl ⟨by rfl, ?_⟩; intro w' hSw; (try dsimp only at hSw); go_simp; try with_reducible rfl)
    (try simp only [Act.put, List.setIfInBounds_toArray, List.set_cons_zero, List.set_cons_succ])
    refine' wpAnyT_one (i := 2) (o := ?oix2) (by kernel_rfl) ?hix2 (fun K hK => ?stx2)
    case hix2 => (simp only [List.getElem?_toArray, List.getElem?_cons_zero, List.getElem?_cons_succ]; rfl)
    go_simp
    go_at_call 55
    refine (HLEFTx.out X0 hB0).mono ?_
    rintro e X9 ⟨u9, rfl, ho9, hb9⟩
    obtain ⟨U9, uc9, rfl⟩ := own_formE ho9
    have HO9 := hid ho9
    have hB9 : Below X5.heap.size X5 X9 := hB0.trans (hb9.mono hB0.size)
    have HB9 := hid hB9
    clear hHeld
    have hHeld := HPx.out X9 hB9
    have HY9 := hid ((hB9.block _ (box_lt HYx.out)).trans HYx.out)
    have y0 := cell_of_row _ _ 0 _ _ _ HY9.out
    have y1 := cell_of_row _ _ 1 _ _ _ HY9.out
    have f0 := box_fr HY9.out 0
    have f1 := box_fr HY9.out 1
    have HS9 := hid (Nat.le_trans (Nat.le_of_eq rfl) hB0.size)
    clear ho9 hb9 hB9
    refine hK.out _ _ (fun _ => hHeld) ?_
    clear hK K
    (try simp only [Act.put, List.setIfInBounds_toArray, List.set_cons_zero, List.set_cons_succ])
    refine' wpAnyT_one (i := 3) (o := ?oix3) (by kernel_rfl) ?hix3 (fun K hK => ?stx3)
    case hix3 => (simp only [List.getElem?_toArray, List.getElem?_cons_zero, List.getElem?_cons_succ]; rfl)
    go_simp
    refine hK.out _ _ (fun h => absurd h (by decide)) ?_
    clear hK K
    (try simp only [Act.put, List.setIfInBounds_toArray, List.set_cons_zero, List.set_cons_succ])
    refine' wpAnyT_one (i := 4) (o := ?oix4) (by kernel_rfl) ?hix4 (fun K hK => ?stx4)
    case hix4 => (simp only [List.getElem?_toArray, List.getElem?_cons_zero, List.getElem?_cons_succ]; rfl)
    go_simp
    refine hK.out _ _ (fun h => absurd h (by decide)) ?_
    clear hK K
    (try simp only [Act.put, List.setIfInBounds_toArray, List.set_cons_zero, List.set_cons_succ])
    refine wpAnyT_done (by kernel_rfl) ?_ _
    go_wp2_with fail
    refine bodyPost_ret (results_v1 rfl _ _ (g + 1) _ rfl (disk_load (disk_set HY9.out _ _)) _ rfl) rfl ?_
    have hBB : Below W1.heap.size W1 X9 := (HW4.out.trans (HB6.out.mono HW4.out.size)).trans (HB9.out.mono (Nat.le_trans HW4.out.size HB6.out.size))
    rw [HR.out]
    refine ⟨_, _, rfl, ?_, ?_, ((HB1.out.trans (hBB.mono HB1.out.size)).setCell hge1 _).setCell hge1 _⟩
    · have o1 := own_keep (own_keep (own_keep HOS.out (keep_below HB6.out)) (keep_below HB9.out)) (keep_two HY9.out (u := .slice A2 n c2) (v := .slice B2 m d2) (by decide))
      have o2 := own_keep (own_keep (own_keep HOC4.out (keep_below HB6.out)) (keep_below HB9.out)) (keep_two HY9.out (u := .slice A2 n c2) (v := .slice B2 m d2) (by decide))
      refine ⟨⟨_, _, rfl, ?_, ?_⟩, HSS.out, HCS.out⟩
      · have := own_base o1 HB1.out.size
        rwa [← HN.out] at this ⊢
      · have := own_base o2 HB1.out.size
        rwa [← HM.out] at this ⊢
    · dsimp only
      exact own_base (own_keep HO9.out (keep_two HY9.out (by decide))) (Nat.le_trans (Nat.le_trans (Nat.le_trans HB1.out.size HW4.out.size) HB6.out.size) HS9.out)
  · subst h0
    obtain ⟨hn4, hkC⟩ := chkD_C HK0.out
    go_upto_region 3 with (go_at_call 40; refine (HCK.out W4 HW4.out).mono ?_; rintro e X5 ⟨rfl, hb6⟩; have HB6 := hid hb6; clear hb6)
    have hx5 := (HB6.out.block _ (Nat.lt_of_lt_of_le (box_lt HX1.out) HW4.out.size)).trans ((HW4.out.block _ (box_lt HX1.out)).trans HX1.out)
    have u1 := cell_of_row _ _ 1 _ _ _ hx5
    have HB15 := hid (HW4.out.trans (HB6.out.mono HW4.out.size))
    clear z0 z1 hx5
    go_upto_region 4 with (go_at_call 52; refine (HOC.out X5 HB15.out).mono ?_; rintro e X6 ⟨bm, rfl, hbm, hocc, hb7⟩; have HBM := hid hbm; have HOCC := hid hocc; have HB7 := hid hb7; clear hbm hocc hb7)
    clear u1
    have HSEC := hid (dkSectors_any bm n ca X6 HOCC.out (by have := HCAL.out; omega) hkC (by omega))
    obtain ⟨ks, hks⟩ : ∃ ks, keysL n ca = ks := ⟨_, rfl⟩
    rw [hks] at HSEC
    go_upto_region 5 with (go_at_call 53; refine HSEC.out.mono ?_; rintro e X7 ⟨kv, rfl, hkv, hb8⟩; obtain ⟨KA, kc, rfl⟩ := own_formE hkv; have HKV := hid hkv; have HB8 := hid hb8; clear hkv hb8)
    have HB17 : Hid (Below W4.heap.size W4 X7) := hid ((HB6.out.trans (HB7.out.mono HB6.out.size)).trans (HB8.out.mono (Nat.le_trans HB6.out.size HB7.out.size)))
    have hbmp : W4.heap.size ≤ bm := Nat.le_trans HB6.out.size HBM.out
    have hbm6 : bm ≤ X6.heap.size := by
      obtain ⟨es, clock, hb, _⟩ := HOCC.out
      exact Nat.le_of_lt (box_lt hb)
    have HOCC7 : Hid (Occ X7 bm ca) := hid (HOCC.out.below HB8.out)
    have HKVI : Hid (Ints X7 (.slice KA ks.length kc) ks) := hid (ints_of_own HKV.out (fun x hx => by
      rw [← hks] at hx
      obtain ⟨a1, a2, _⟩ := keysL_mem hx
      exact ⟨by omega, by omega⟩))
    obtain ⟨N, hN⟩ : ∃ N, ks.length = N := ⟨_, rfl⟩
    rw [hN] at HKV HKVI
    rw [hN]
    have hNM : N ≤ 1000000 := by rw [← hN, ← hks]; unfold keysL; rw [List.length_map]; exact Nat.le_trans (List.length_filter_le _ _) (by rw [List.length_range]; omega)
    obtain ⟨r, hr⟩ : ∃ r, crs ca ks st l = r := ⟨_, rfl⟩
    have HR : Hid (crashS st ca l = (r.1, [], r.2)) := hid (by unfold crashS; rw [HN.out, HK0.out, if_pos rfl, hks, hr])
    have HRC : Hid (r.2 = l.drop N) := hid (by rw [← hr, crs_ch, hN])
    have HKS := hid (show ∀ κ ∈ ks, 0 ≤ κ ∧ κ < n ∧ G ca κ ≠ [] from fun κ hκ => by rw [← hks] at hκ; exact keysL_mem hκ)
    have HNK := hid hN
    have HR0 := hid hr
    have HBX7 : Hid (X7.heap[p]? = some (.cells #[.slice A2 n c2, .slice B2 m d2] 35)) := hid ((HB17.out.block _ hp4).trans HBX.out)
    have HOS7 := hid (own_keep HOS.out (keep_below HB17.out))
    have HCH7 : Hid (Chs p X7 cc l) := hid (HCH.out.below HB17.out (Nat.le_of_lt hp4))
    clear hks hN hr hkC
    go_loopw [25] (fun iv wr => ∃ q : Nat, q ≤ N ∧ iv = .int .i64 (q : Int) ∧ Hid (∃ st' ch', crs ca (ks.drop q) st' ch' = r ∧ wr.ownsRow W1.heap.size 57 8 (.slice A2 n c2) n (st'.map cSec).flatten ∧ Secs st' ∧ st'.length = n ∧ Chs p wr cc ch') ∧ Hid (AG bm X7 wr ∧ Below W1.heap.size W1 wr) ∧ Hid (wr.heap[p]? = some (.cells #[.slice A2 n c2, .slice B2 m d2] 35))) (fun i _ => N - (Go.RowKit.intOf i).toNat)
    case atStart => exact ⟨0, Nat.zero_le _, rfl, hid ⟨st, l, HR0.out, HOS7.out, HSS.out, HN.out, HCH7.out⟩, hid ⟨AG.refl _ _, HW4.out.trans (HB17.out.mono HW4.out.size)⟩, HBX7⟩
    case round =>
      obtain ⟨q, hq, rfl, HX, HGB, HP⟩ := hrel
      obtain ⟨st', ch', hcr, hos, hss, hsn', hch⟩ := HX.out
      have HAG := hid HGB.out.1
      have HBW := hid HGB.out.2
      by_cases hqn : q < N
      · have hqn' : (q : Int) < (N : Int) := by omega
        obtain ⟨κ', hκ⟩ : ∃ κ, ks[q]? = some κ := ⟨ks[q]'(by rw [HNK.out]; exact hqn), List.getElem?_eq_getElem _⟩
        obtain ⟨hκ0, hκn, hgne⟩ := HKS.out κ' (List.mem_of_getElem? hκ)
        have hdr := drop_cons hκ
        rw [hdr] at hcr
        obtain ⟨kb, koff, rfl, hkb, hkc⟩ := ints_cells (ints_of_own (own_ag HKV.out HAG.out hbm6) HKVI.out.1) (by rw [HNK.out]; omega)
        have k0 := hkc q κ' hκ
        obtain ⟨a, rfl⟩ : ∃ a : Nat, κ' = (a : Int) := ⟨κ'.toNat, by omega⟩
        obtain ⟨κ, hκe⟩ : ∃ κ : Int, (a : Int) = κ := ⟨_, rfl⟩
        have HKE := hid hκe
        rw [hκe] at hκ hκ0 hκn hgne hdr hcr k0
        have han : a < n := by omega
        have hrκ : R64 κ := ⟨by omega, by omega⟩
        have hocr : Occ wr bm ca := HOCC7.out.ag HAG.out
        obtain ⟨v, hlk, hov, _⟩ := occ_look hocr hrκ
        have hgs := g_secs HCS.out κ
        obtain ⟨gl, hgl⟩ : ∃ gl, (G ca κ).length = gl := ⟨_, rfl⟩
        have hgl0 : 0 < gl := by rw [← hgl]; exact List.length_pos_iff.2 hgne
        have hglm : gl ≤ 500000 := by rw [← hgl]; exact Nat.le_trans (g_len _ _) HCAL.out
        have hsec : Sec wr v (G ca κ) := sec_of_own hov hgs
        obtain ⟨V, vc, rfl⟩ := sec_form hsec
        rw [hgl] at hsec hov hlk
        obtain ⟨vb, voff, rfl, hvb, hvc⟩ := arr_at1 hsec.2 (by rw [List.length_map, hgl]; exact hgl0)
        have hlkr := hlk wr rfl
        have hvbm : bm + 1 ≤ vb := (hov.lt vb rfl).1
        have hw1 : IntKind.i64.wrap ((gl : Int) + 1) = (gl : Int) + 1 := by rw [IntKind.wrap_i64]; omega
        have HDE := hid (decide_any p cc ch' ((gl : Int) + 1) wr hch (by omega) (by omega))
        obtain ⟨dn, hdn⟩ : ∃ dn, dec ch' ((gl : Int) + 1) = dn := ⟨_, rfl⟩
        have hcell := hch
        obtain ⟨cv0, hcb, _, hcp, _⟩ := hcell
        have hdnr : 0 ≤ dn ∧ dn ≤ gl := by
          have := dec_range ch' (show 0 < (gl : Int) + 1 by omega)
          rw [hdn] at this
          omega
        have HCR := hid hcr
        have HGL := hid hgl
        have HDN := hid hdn
        have HLK := hid hlk
        have HVC := hid hvc
        have HOSr := hid hos
        have HSSr := hid hss
        have HSNr := hid hsn'
        have HGS := hid hgs
        have HCB := hid hcb
        clear hcr hgl hdn hlk hvc hos hss hsn' hdr hκ hkc hocr hov hch hsec hgs hcb hκe hgne
        have HDIS : Hid (dn = dec ch' (((G ca κ).length : Int) + 1)) := hid (by rw [HGL.out]; exact HDN.out.symm)
        have hDQ : ∀ e X8, DecQ p wr cc ch' ((gl : Int) + 1) e X8 → e = .returned (.int .i64 dn) ∧ Chs p X8 cc ch'.tail ∧ Upd cc wr X8 := fun e X8 h => by rw [← HDN.out]; exact h
        have HDQ := hid hDQ
        clear hDQ
        have hpb : p < bm := Nat.lt_of_lt_of_le hp4 hbmp
        have hcbm : cc < bm := Nat.lt_trans hcp hpb
        by_cases hd0 : 0 < dn
        rotate_left
        · have d1 : decide (0 < dn) = false := decide_eq_false hd0
          go_upto_region 8 with (go_at_call 54; refine HDE.out.mono ?_; intro e X8 hD; obtain ⟨rfl, hch8, hup8⟩ := HDQ.out e X8 hD; have HCH8 := hid hch8; have HUP8 := hid hup8; clear hD hch8 hup8)
          go_wp2_with fail
          go_roundw
          case rel =>
            exact ⟨q + 1, by omega, by go_num, hid ⟨st', ch'.tail, by rw [← HCR.out, crs, ← HDIS.out, if_neg (by omega)], own_keep HOSr.out (keep_upd HUP8.out HCB.out (by decide)), HSSr.out, HSNr.out, HCH8.out⟩, hid ⟨HAG.out.trans (ag_upd HUP8.out hcbm), HBW.out.trans (HUP8.out.below h1c HBW.out.size)⟩, hid ((HUP8.out.block _ (box_lt HP.out) (fun e => by rw [e, HCB.out] at HP; cases HP.out)).trans HP.out)⟩
          case measure => simp [Go.RowKit.intOf]; omega
        · have d1 : decide (0 < dn) = true := decide_eq_true hd0
          obtain ⟨j, rfl⟩ : ∃ j : Nat, dn = (j : Int) + 1 := ⟨(dn - 1).toNat, by omega⟩
          have hjg : j < gl := by omega
          have hsub : IntKind.i64.wrap (j : Int) = (j : Int) := by rw [IntKind.wrap_i64]; omega
          go_upto_region 8 with (go_at_call 54; refine HDE.out.mono ?_; intro e X8 hD; obtain ⟨rfl, hch8, hup8⟩ := HDQ.out e X8 hD; have HCH8 := hid hch8; have HUP8 := hid hup8; clear hD hch8 hup8)
          have hA8 : AG bm X7 X8 := HAG.out.trans (ag_upd HUP8.out hcbm)
          have hb8 : Below W1.heap.size W1 X8 := HBW.out.trans (HUP8.out.below h1c HBW.out.size)
          have hp8 : X8.heap[p]? = some (.cells #[.slice A2 n c2, .slice B2 m d2] 35) := (HUP8.out.block _ (box_lt HP.out) (fun e => by rw [e, HCB.out] at HP; cases HP.out)).trans HP.out
          have ho8 := own_keep HOSr.out (keep_upd HUP8.out HCB.out (by decide))
          obtain ⟨ob, rfl⟩ : ∃ ob, A2 = some ⟨ob, 0, none⟩ := by
            rcases ho8.2 with ⟨e, _⟩ | ⟨ob, cap, cur, e, _⟩
            · injection e with _ e _
              omega
            · injection e with e _ _
              exact ⟨ob, e⟩
          have hob := ho8.lt ob rfl
          have hobb : ob < bm := by
            have := (HOS7.out.lt ob rfl)
            have h2 := HOS.out.lt ob rfl
            omega
          obtain ⟨s, hsj⟩ : ∃ s, (G ca κ)[j]? = some s := ⟨(G ca κ)[j]'(by rw [HGL.out]; exact hjg), List.getElem?_eq_getElem _⟩
          have h8 := HGS.out s (List.mem_of_getElem? hsj)
          have hGD : (G ca κ).getD ((j : Int) + 1 - 1).toNat [] = s := by rw [show ((j : Int) + 1 - 1).toNat = j by omega, List.getD_eq_getElem?_getD, hsj]; rfl
          obtain ⟨X0, hX0⟩ : ∃ X, X8.drew = X := ⟨_, rfl⟩
          have hB0 : Below X8.heap.size X8 X0 := by rw [← hX0]; exact (Below.refl X8.heap.size X8).drew
          have ho0 := own_keep ho8 (keep_below hB0)
          obtain ⟨X9, hrun, ho9, hbl9, hsz9, hk9, hbb9⟩ := store_sec ho0 HSNr.out HSSr.out han h8
          have hvbX : X8.heap[vb]? = wr.heap[vb]? := HUP8.out.block _ hvb (by omega)
          have HRH := hid (show ∀ (k : Nat) (u : Value), (cSec s)[k]? = some u → ∀ X, Below X8.heap.size X8 X → X.cell? ⟨vb, voff + j * 8 + k, none⟩ = some u from fun k u hu X hX => by
            have h := HVC.out j _ (by rw [List.getElem?_map, hsj]; rfl) k u hu
            have e2 := (hX.block vb (Nat.lt_of_lt_of_le hvb HUP8.out.low.size)).trans hvbX
            unfold World.cell? at h ⊢
            rw [e2]
            exact h)
          obtain ⟨s0, s1, s2, s3, s4, s5, s6, s7, rfl⟩ := list8 h8.1
          have HHD := hid (fun (X : World) (hX : Below X8.heap.size X8 X) => (show X.cell? ⟨p, 0, none⟩ = some (.slice (some ⟨ob, 0, none⟩) n c2) ∧ X.cell? ⟨vb, voff + j * 8, none⟩ = some (.int .u8 (s0 : Int)) ∧ X.cell? ⟨vb, voff + j * 8 + 1, none⟩ = some (.int .u8 (s1 : Int)) ∧ X.cell? ⟨vb, voff + j * 8 + 2, none⟩ = some (.int .u8 (s2 : Int)) ∧ X.cell? ⟨vb, voff + j * 8 + 3, none⟩ = some (.int .u8 (s3 : Int)) ∧ X.cell? ⟨vb, voff + j * 8 + 4, none⟩ = some (.int .u8 (s4 : Int)) ∧ X.cell? ⟨vb, voff + j * 8 + 5, none⟩ = some (.int .u8 (s5 : Int)) ∧ X.cell? ⟨vb, voff + j * 8 + 6, none⟩ = some (.int .u8 (s6 : Int)) ∧ X.cell? ⟨vb, voff + j * 8 + 7, none⟩ = some (.int .u8 (s7 : Int)) ∧ (Instr.lookup 106 (.map (some bm)) (.int .i64 κ) false).run Try.prog X = .ok (.slice (some ⟨vb, voff, none⟩) gl vc) X from (by
            have g1 := (hX.block _ (box_lt hp8)).trans hp8
            exact ⟨cell_of_row _ _ 0 _ _ _ g1, HRH.out 0 _ rfl X hX, HRH.out 1 _ rfl X hX, HRH.out 2 _ rfl X hX, HRH.out 3 _ rfl X hX, HRH.out 4 _ rfl X hX, HRH.out 5 _ rfl X hX, HRH.out 6 _ rfl X hX, HRH.out 7 _ rfl X hX, HLK.out X ((hX.block bm (Nat.lt_of_lt_of_le (Nat.lt_of_lt_of_le (by obtain ⟨es, clock, hb, _⟩ := HOCC7.out; exact box_lt hb) HAG.out.1) HUP8.out.low.size)).trans (HUP8.out.block bm (Nat.lt_of_lt_of_le (by obtain ⟨es, clock, hb, _⟩ := HOCC7.out; exact box_lt hb) HAG.out.1) (by omega)))⟩)))
          have hHeld := HHD.out X0 hB0
          have HR := hid hrun
          have HO9 := hid ho9
          have HA9 : Hid (AG bm X7 X9) := hid (hA8.trans ((ag_below hB0).trans ⟨Nat.le_of_eq hsz9.symm, fun k hk _ => hbl9 k (by omega)⟩))
          have HB9 : Hid (Below W1.heap.size W1 X9) := hid (hbb9 _ _ (hb8.trans (hB0.mono hb8.size)) hob.1)
          have HP9 : Hid (X9.heap[p]? = some (.cells #[.slice (some ⟨ob, 0, none⟩) n c2, .slice B2 m d2] 35)) := hid (hk9 35 (by decide) _ _ ((hB0.block _ (box_lt hp8)).trans hp8))
          have HCH9 : Hid (Chs p X9 cc ch'.tail) := hid ((HCH8.out.below hB0 (Nat.le_of_lt (box_lt hp8))).keep (Nat.le_of_eq hsz9.symm) (hk9 121 (by decide)) (hk9 3 (by decide)))
          have HGD := hid hGD
          have hka : κ.toNat = a := by have := HKE.out; omega
          have HSEC9 := secs_set (i := a) HSSr.out h8
          clear hA8 hb8 hp8 ho8 hob hsj h8 hGD hB0 ho0 hrun ho9 hbl9 hsz9 hk9 hbb9 hvbX
          go_upto_region 9 with fail
          refine region_tail 11 (fun X => X.cell? ⟨p, 0, none⟩ = some (.slice (some ⟨ob, 0, none⟩) n c2) ∧ X.cell? ⟨vb, voff + j * 8, none⟩ = some (.int .u8 (s0 : Int)) ∧ X.cell? ⟨vb, voff + j * 8 + 1, none⟩ = some (.int .u8 (s1 : Int)) ∧ X.cell? ⟨vb, voff + j * 8 + 2, none⟩ = some (.int .u8 (s2 : Int)) ∧ X.cell? ⟨vb, voff + j * 8 + 3, none⟩ = some (.int .u8 (s3 : Int)) ∧ X.cell? ⟨vb, voff + j * 8 + 4, none⟩ = some (.int .u8 (s4 : Int)) ∧ X.cell? ⟨vb, voff + j * 8 + 5, none⟩ = some (.int .u8 (s5 : Int)) ∧ X.cell? ⟨vb, voff + j * 8 + 6, none⟩ = some (.int .u8 (s6 : Int)) ∧ X.cell? ⟨vb, voff + j * 8 + 7, none⟩ = some (.int .u8 (s7 : Int)) ∧ (Instr.lookup 106 (.map (some bm)) (.int .i64 κ) false).run Try.prog X = .ok (.slice (some ⟨vb, voff, none⟩) gl vc) X) (by kernel_rfl) ?_
          rw [hX0]
          clear hX0
          refine' wpAnyT_take (i := 0) (oi := ?oia0) (v := ?va0) ?hia0 (by kernel_rfl) (by kernel_rfl) ?hqa0 ?hya0 hHeld ?resta0
          case hia0 => (simp only [List.getElem?_toArray, List.getElem?_cons_zero]; rfl)
          case hqa0 => exact fun _ _ _ h => h
          case hya0 => (refine Or.inl ⟨by rfl, ?_⟩; intro w' hSw; (try dsimp only at hSw); go_simp; try with_reducible rfl)
          (try simp only [Act.put, List.setIfInBounds_toArray, List.set_cons_zero, List.set_cons_succ])
          refine' wpAnyT_take (i := 1) (oi := ?oia1) (v := ?va1) ?hia1 (by kernel_rfl) (by kernel_rfl) ?hqa1 ?hya1 hHeld ?resta1
          case hia1 => (simp only [List.getElem?_toArray, List.getElem?_cons_zero, List.getElem?_cons_succ]; rfl)
          case hqa1 => exact fun _ _ _ h => h
          case hya1 => (refine Or.inl ⟨by rfl, ?_⟩; intro w' hSw; (try dsimp only at hSw); go_simp; try with_reducible rfl)
          (try simp only [Act.put, List.setIfInBounds_toArray, List.set_cons_zero, List.set_cons_succ])
          refine' wpAnyT_take (i := 2) (oi := ?oia2) (v := ?va2) ?hia2 (by kernel_rfl) (by kernel_rfl) ?hqa2 ?hya2 hHeld ?resta2
          case hia2 => (simp only [List.getElem?_toArray, List.getElem?_cons_zero, List.getElem?_cons_succ]; rfl)
          case hqa2 => exact fun _ _ _ h => h
          case hya2 => (refine Or.inl ⟨by rfl, ?_⟩; intro w' hSw; (try dsimp only at hSw); go_simp; try with_reducible rfl)
          (try simp only [Act.put, List.setIfInBounds_toArray, List.set_cons_zero, List.set_cons_succ])
          refine' wpAnyT_take (i := 3) (oi := ?oia3) (v := ?va3) ?hia3 (by kernel_rfl) (by kernel_rfl) ?hqa3 ?hya3 hHeld ?resta3
          case hia3 => (simp only [List.getElem?_toArray, List.getElem?_cons_zero, List.getElem?_cons_succ]; rfl)
          case hqa3 => exact fun _ _ _ h => h
          case hya3 => (refine Or.inl ⟨by rfl, ?_⟩; intro w' hSw; (try dsimp only at hSw); go_simp; try with_reducible rfl)
          (try simp only [Act.put, List.setIfInBounds_toArray, List.set_cons_zero, List.set_cons_succ])
          refine' wpAnyT_take (i := 4) (oi := ?oia4) (v := ?va4) ?hia4 (by kernel_rfl) (by kernel_rfl) ?hqa4 ?hya4 hHeld ?resta4
          case hia4 => (simp only [List.getElem?_toArray, List.getElem?_cons_zero, List.getElem?_cons_succ]; rfl)
          case hqa4 => exact fun _ _ _ h => h
          case hya4 => (refine Or.inl ⟨by rfl, ?_⟩; intro w' hSw; (try dsimp only at hSw); go_simp; try with_reducible rfl)
          (try simp only [Act.put, List.setIfInBounds_toArray, List.set_cons_zero, List.set_cons_succ])
          refine' wpAnyT_take (i := 5) (oi := ?oia5) (v := ?va5) ?hia5 (by kernel_rfl) (by kernel_rfl) ?hqa5 ?hya5 hHeld ?resta5
          case hia5 => (simp only [List.getElem?_toArray, List.getElem?_cons_zero, List.getElem?_cons_succ]; rfl)
          case hqa5 => exact fun _ _ _ h => h
          case hya5 => (refine Or.inl ⟨by rfl, ?_⟩; intro w' hSw; (try dsimp only at hSw); go_simp; try with_reducible rfl)
          (try simp only [Act.put, List.setIfInBounds_toArray, List.set_cons_zero, List.set_cons_succ])
          refine' wpAnyT_take (i := 6) (oi := ?oia6) (v := ?va6) ?hia6 (by kernel_rfl) (by kernel_rfl) ?hqa6 ?hya6 hHeld ?resta6
          case hia6 => (simp only [List.getElem?_toArray, List.getElem?_cons_zero, List.getElem?_cons_succ]; rfl)
          case hqa6 => exact fun _ _ _ h => h
          case hya6 => (refine Or.inl ⟨by rfl, ?_⟩; intro w' hSw; (try dsimp only at hSw); go_simp; try with_reducible rfl)
          (try simp only [Act.put, List.setIfInBounds_toArray, List.set_cons_zero, List.set_cons_succ])
          refine' wpAnyT_take (i := 7) (oi := ?oia7) (v := ?va7) ?hia7 (by kernel_rfl) (by kernel_rfl) ?hqa7 ?hya7 hHeld ?resta7
          case hia7 => (simp only [List.getElem?_toArray, List.getElem?_cons_zero, List.getElem?_cons_succ]; rfl)
          case hqa7 => exact fun _ _ _ h => h
          case hya7 => (refine Or.inl ⟨by rfl, ?_⟩; intro w' hSw; (try dsimp only at hSw); go_simp; try with_reducible rfl)
          (try simp only [Act.put, List.setIfInBounds_toArray, List.set_cons_zero, List.set_cons_succ])
          refine' wpAnyT_take (i := 8) (oi := ?oia8) (v := ?va8) ?hia8 (by kernel_rfl) (by kernel_rfl) ?hqa8 ?hya8 hHeld ?resta8
          case hia8 => (simp only [List.getElem?_toArray, List.getElem?_cons_zero, List.getElem?_cons_succ]; rfl)
          case hqa8 => exact fun _ _ _ h => h
          case hya8 => (refine Or.inl ⟨by rfl, ?_⟩; intro w' hSw; (try dsimp only at hSw); go_simp; try with_reducible rfl)
          (try simp only [Act.put, List.setIfInBounds_toArray, List.set_cons_zero, List.set_cons_succ])
          refine' wpAnyT_take (i := 9) (oi := ?oia9) (v := ?va9) ?hia9 (by kernel_rfl) (by kernel_rfl) ?hqa9 ?hya9 hHeld ?resta9
          case hia9 => (simp only [List.getElem?_toArray, List.getElem?_cons_zero, List.getElem?_cons_succ]; rfl)
          case hqa9 => exact fun _ _ _ h => h
          case hya9 => (refine Or.inl ⟨by rfl, ?_⟩; intro w' hSw; (try dsimp only at hSw); go_simp; try with_reducible rfl)
          (try simp only [Act.put, List.setIfInBounds_toArray, List.set_cons_zero, List.set_cons_succ])
          refine' wpAnyT_one (i := 10) (o := ?oia10) (by kernel_rfl) ?hia10 (fun K hK => ?sta10)
          case hia10 => (simp only [List.getElem?_toArray, List.getElem?_cons_zero, List.getElem?_cons_succ]; rfl)
          go_simp
          refine hK.out _ _ (fun _ => hHeld) ?_
          clear hK K
          (try simp only [Act.put, List.setIfInBounds_toArray, List.set_cons_zero, List.set_cons_succ])
          refine' wpAnyT_one (i := 11) (o := ?oia11) (by kernel_rfl) ?hia11 (fun K hK => ?sta11)
          case hia11 => (simp only [List.getElem?_toArray, List.getElem?_cons_zero, List.getElem?_cons_succ]; rfl)
          refine step_store_run rfl 57 (.tmp 48) (.tmp 47) rfl (.pointer (some ⟨ob, a * 8, none⟩)) (.agg #[.int .u8 (s0 : Int), .int .u8 (s1 : Int), .int .u8 (s2 : Int), .int .u8 (s3 : Int), .int .u8 (s4 : Int), .int .u8 (s5 : Int), .int .u8 (s6 : Int), .int .u8 (s7 : Int)]) (by simp [Act.eval]) (by simp [Act.eval]) HR.out ?_
          refine hK.out _ _ (fun h => absurd h (by decide)) ?_
          clear hK K
          refine wpAnyT_done (by kernel_rfl) ?_ _
          go_wp2_with fail
          go_roundw
          case rel =>
            exact ⟨q + 1, by omega, by go_num, hid ⟨st'.set a [s0, s1, s2, s3, s4, s5, s6, s7], ch'.tail, by rw [← HCR.out, crs, ← HDIS.out, if_pos hd0, HGD.out, ← HKE.out]; rfl, HO9.out, HSEC9, by rw [List.length_set]; exact HSNr.out, HCH9.out⟩, hid ⟨HA9.out, HB9.out⟩, HP9⟩
          case measure => simp [Go.RowKit.intOf]; omega
      · obtain rfl : N = q := by omega
        have hqn' : ¬ ((N : Nat) : Int) < (N : Int) := by omega
        obtain ⟨rs, rc⟩ := r
        have HE := hid (show st' = rs ∧ ch' = rc from by
          rw [List.drop_of_length_le (by rw [HNK.out]; exact Nat.le_refl _)] at hcr
          injection hcr with e1 e2
          exact ⟨e1, e2⟩)
        have q1 := cell_of_row _ _ 1 _ _ _ HP.out
        have fq1 := box_fr HP.out 1
        have HOSr := hid hos
        have HSSr := hid hss
        have HSNr := hid hsn'
        have HCHr := hid hch
        clear hcr hos hss hsn' hch
        go_upto_region 12 with fail
        obtain ⟨W8, hW8⟩ : ∃ X, wr.setCell ⟨p, 1, none⟩ (.slice none 0 0) = X := ⟨_, rfl⟩
        rw [hW8]
        have hp8 : W8.heap[p]? = some (.cells #[.slice A2 n c2, .slice none 0 0] 35) := by rw [← hW8]; exact box_set (cs := [_, _]) HP.out 1 _
        have hk8 : ∀ T, T ≠ 35 → Keep T wr W8 := fun T hT => by rw [← hW8]; exact keep_box HP.out hT _ _
        have hb8 : Below W1.heap.size W1 W8 := by rw [← hW8]; exact HBW.out.setCell h1p _
        have hz8 : wr.heap.size = W8.heap.size := by rw [← hW8]; simp
        have HPy : Hid (∀ X, Below W8.heap.size W8 X → X.cell? ⟨p, 0, none⟩ = some (.slice A2 n c2) ∧ X.cell? ⟨p, 1, none⟩ = some (.slice none 0 0)) := hid (fun X hX => by
          have g1 := (hX.block _ (box_lt hp8)).trans hp8
          exact ⟨cell_of_row _ _ 0 _ _ _ g1, cell_of_row _ _ 1 _ _ _ g1⟩)
        have HYy := hid ((hb8.block _ (box_lt HY1.out)).trans HY1.out)
        have hch8 := HCHr.out.keep (Nat.le_of_eq hz8) (hk8 121 (by decide)) (hk8 3 (by decide))
        have HLEFTy := hid (fun X (hX : Below W8.heap.size W8 X) => left_any p cc ch' X (hch8.below hX (Nat.le_of_lt (box_lt hp8))) (by rw [HE.out.2, show rc = l.drop N from HRC.out, List.length_drop]; exact Nat.le_trans (Nat.sub_le _ _) HLL.out))
        have HOS8 := hid (own_keep HOSr.out (hk8 57 (by decide)))
        have HB8W := hid hb8
        clear q1 fq1 hW8 hp8 hk8 hb8 hz8 hch8
        refine region_tail 3 (fun X => X.cell? ⟨p, 0, none⟩ = some (.slice A2 n c2) ∧ X.cell? ⟨p, 1, none⟩ = some (.slice none 0 0)) (by kernel_rfl) ?_
        obtain ⟨X0, hX0⟩ : ∃ X, W8.drew = X := ⟨_, rfl⟩
        have hB0 : Below W8.heap.size W8 X0 := by rw [← hX0]; exact (Below.refl W8.heap.size W8).drew
        have hHeld := HPy.out X0 hB0
        rw [hX0]
        clear hX0
        refine' wpAnyT_take (i := 0) (oi := ?oiy0) (v := ?vy0) ?hiy0 (by kernel_rfl) (by kernel_rfl) ?hqy0 ?hyy0 hHeld ?resty0
        case hiy0 => (simp only [List.getElem?_toArray, List.getElem?_cons_zero]; rfl)
        case hqy0 => exact fun _ _ _ h => h
        case hyy0 => (refine Or.inl ⟨by rfl, ?_⟩; intro w' hSw; (try dsimp only at hSw); go_simp; try with_reducible rfl)
        (try simp only [Act.put, List.setIfInBounds_toArray, List.set_cons_zero, List.set_cons_succ])
        refine' wpAnyT_take (i := 1) (oi := ?oiy1) (v := ?vy1) ?hiy1 (by kernel_rfl) (by kernel_rfl) ?hqy1 ?hyy1 hHeld ?resty1
        case hiy1 => (simp only [List.getElem?_toArray, List.getElem?_cons_zero, List.getElem?_cons_succ]; rfl)
        case hqy1 => exact fun _ _ _ h => h
        case hyy1 => (refine Or.inl ⟨by rfl, ?_⟩; intro w' hSw; (try dsimp only at hSw); go_simp; try with_reducible rfl)
        (try simp only [Act.put, List.setIfInBounds_toArray, List.set_cons_zero, List.set_cons_succ])
        refine' wpAnyT_one (i := 2) (o := ?oiy2) (by kernel_rfl) ?hiy2 (fun K hK => ?sty2)
        case hiy2 => (simp only [List.getElem?_toArray, List.getElem?_cons_zero, List.getElem?_cons_succ]; rfl)
        go_simp
        go_at_call 55
        refine (HLEFTy.out X0 hB0).mono ?_
        rintro e X9 ⟨u9, rfl, ho9, hb9⟩
        obtain ⟨U9, uc9, rfl⟩ := own_formE ho9
        have HO9 := hid ho9
        have hB9 : Below W8.heap.size W8 X9 := hB0.trans (hb9.mono hB0.size)
        have HB9 := hid hB9
        clear hHeld
        have hHeld := HPy.out X9 hB9
        have HY9 := hid ((hB9.block _ (box_lt HYy.out)).trans HYy.out)
        have y0 := cell_of_row _ _ 0 _ _ _ HY9.out
        have y1 := cell_of_row _ _ 1 _ _ _ HY9.out
        have f0 := box_fr HY9.out 0
        have f1 := box_fr HY9.out 1
        have HS9 := hid (Nat.le_trans (Nat.le_of_eq rfl) hB0.size)
        clear ho9 hb9 hB9
        refine hK.out _ _ (fun _ => hHeld) ?_
        clear hK K
        (try simp only [Act.put, List.setIfInBounds_toArray, List.set_cons_zero, List.set_cons_succ])
        refine' wpAnyT_one (i := 3) (o := ?oiy3) (by kernel_rfl) ?hiy3 (fun K hK => ?sty3)
        case hiy3 => (simp only [List.getElem?_toArray, List.getElem?_cons_zero, List.getElem?_cons_succ]; rfl)
        go_simp
        refine hK.out _ _ (fun h => absurd h (by decide)) ?_
        clear hK K
        (try simp only [Act.put, List.setIfInBounds_toArray, List.set_cons_zero, List.set_cons_succ])
        refine' wpAnyT_one (i := 4) (o := ?oiy4) (by kernel_rfl) ?hiy4 (fun K hK => ?sty4)
        case hiy4 => (simp only [List.getElem?_toArray, List.getElem?_cons_zero, List.getElem?_cons_succ]; rfl)
        go_simp
        refine hK.out _ _ (fun h => absurd h (by decide)) ?_
        clear hK K
        (try simp only [Act.put, List.setIfInBounds_toArray, List.set_cons_zero, List.set_cons_succ])
        refine wpAnyT_done (by kernel_rfl) ?_ _
        go_wp2_with fail
        refine bodyPost_ret (results_v1 rfl _ _ (g + 1) _ rfl (disk_load (disk_set HY9.out _ _)) _ rfl) rfl ?_
        have hBB : Below W1.heap.size W1 X9 := HB8W.out.trans (HB9.out.mono HB8W.out.size)
        rw [HR.out]
        obtain ⟨rfl, rfl⟩ := HE.out
        refine ⟨_, _, rfl, ?_, ?_, ((HB1.out.trans (hBB.mono HB1.out.size)).setCell hge1 _).setCell hge1 _⟩
        · have o1 := own_keep (own_keep HOS8.out (keep_below HB9.out)) (keep_two HY9.out (u := .slice A2 n c2) (v := .slice none 0 0) (by decide))
          refine ⟨⟨_, _, rfl, ?_, World.ownsRow_nil _ _ _ _⟩, HSSr.out, (fun x (hx : x ∈ []) => by cases hx)⟩
          have := own_base o1 HB1.out.size
          dsimp only
          rwa [← HSNr.out] at this ⊢
        · dsimp only
          exact own_base (own_keep HO9.out (keep_two HY9.out (by decide))) (Nat.le_trans (Nat.le_trans HB1.out.size HB8W.out.size) HS9.out)
end Go.Proofs.Ytnocgfhcamnjdaa
