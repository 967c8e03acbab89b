/- Superblock: the reference's parse 50. -/
import Derived.Test.YtnocgfhcamnjdaaAu
namespace Go.Proofs.Ytnocgfhcamnjdaa
open Go.RowKit Go.Lib

/-- Whether the sectors of a half belong together and are those of a payload. -/
def okH (l : List Sect) : Prop := (∀ s ∈ l, num4 s = num4 (l.getD 0 [])) ∧ valB (dat l) = true
instance (l : List Sect) : Decidable (okH l) := inferInstanceAs (Decidable (_ ∧ _))
def parR (l : List Sect) : List Nat × Nat := if okH l then (payL (dat l), num4 (l.getD 0 [])) else ([], 0)
def ParQ (w : World) (r : List Nat × Nat) (e : Ending) (w' : World) : Prop := ∃ u, e = .returned (.tuple #[u, .int .u32 (r.2 : Int)]) ∧ Byt w' u r.1 ∧ Below w.heap.size w w'
theorem run_slice22u (g c m : Nat) (x : Int) (hx : x = ((m + 1 : Nat) : Int)) (hm : m ≤ 31) (hc : 32 ≤ c) (W : World) : (Instr.slice 22 (.slice (some ⟨g, 0, none⟩) 32 c) (some (.int .i64 1)) (some (.int .i64 x)) none).run Try.prog W = .ok (.slice (some ⟨g, 1, none⟩) m (c - 1)) W := by
  subst hx
  simp [Instr.slice, run_underlying Try.underlying22, Instr.sliceBounds, Sem.run_bind, run_sliceBound_if]
  rw [if_pos (by omega), if_pos (by omega)]
  simp
  rw [if_neg (by omega), add_at]
theorem own_byt_parts {w : World} {base n : Nat} {v : Value} {D : List Nat} (h : w.ownsRow base 5 1 v n (D.map byteV)) (hn : 0 < n) : ∃ gd c, v = .slice (some ⟨gd, 0, none⟩) n c ∧ n ≤ c ∧ ∀ (j x : Nat), D[j]? = some x → w.cell? ⟨gd, j, none⟩ = some (.int .u8 (x : Int)) := by
  rcases h.2 with ⟨_, h0⟩ | ⟨gd, cap, cur, rfl, _, hg, hc, _, _, ht⟩
  · omega
  · refine ⟨gd, cap, rfl, hc, fun j x hx => ?_⟩
    rw [cell_of_row _ _ _ _ _ _ hg]
    have hu : (D.map byteV)[j]? = some (byteV x) := by rw [List.getElem?_map, hx]; rfl
    rw [← ht, List.getElem?_take] at hu
    split at hu
    · have hu : cur[j]? = some (byteV x) := by simpa using hu
      exact hu
    · cases hu
set_option maxHeartbeats 4000000 in
set_option maxRecDepth 100000 in
theorem parse_any (l : List Sect) (v : Value) (w : World) (hv : Sec w v l) (hl : l.length = 8) :
    Calls Try.prog 50 #[v] w (ParQ w (parR l)) := by
  obtain ⟨i0, hi0, hz0, hz1, hz2⟩ := info_parts info5
  obtain ⟨A, c, rfl⟩ := sec_form hv
  obtain ⟨b, off, rfl, hbl, hcl⟩ := arr_at1 hv.2 (by rw [List.length_map, hl]; decide)
  obtain ⟨s, hs0⟩ : ∃ s, l[0]? = some s := ⟨l[0]'(by omega), List.getElem?_eq_getElem _⟩
  have hs8 := hv.1 s (List.mem_of_getElem? hs0)
  have HC0 := fun (t : Nat) (u : Value) (hu : (cSec s)[t]? = some u) => hcl 0 _ (by rw [List.getElem?_map, hs0]; rfl) t u hu
  simp only [Nat.zero_mul, Nat.add_zero] at HC0
  obtain ⟨n4, hn4⟩ : ∃ n, num4 s = n := ⟨_, rfl⟩
  have hgd0 : l.getD 0 [] = s := by rw [List.getD_eq_getElem?_getD, hs0]; rfl
  obtain ⟨r, hr⟩ : ∃ r, parR l = r := ⟨_, rfl⟩
  have HR : Hid (r = if (∀ s ∈ l, num4 s = n4) ∧ valB (dat l) = true then (payL (dat l), n4) else ([], 0)) := hid (by
    rw [← hr]
    unfold parR
    have e : okH l ↔ (∀ s ∈ l, num4 s = n4) ∧ valB (dat l) = true := by unfold okH; rw [hgd0, hn4]
    by_cases h : okH l
    · rw [if_pos h, if_pos (e.1 h), hgd0, hn4]
    · rw [if_neg h, if_neg (fun h' => h (e.2 h'))])
  rw [hr]
  clear hr hgd0
  obtain ⟨s0, s1, s2, s3, s4, s5, s6, s7, rfl⟩ := list8 hs8.1
  have HN38 : Hid (∀ X, Calls Try.prog 38 #[.agg #[.int .u8 (s0 : Int), .int .u8 (s1 : Int), .int .u8 (s2 : Int), .int .u8 (s3 : Int), .int .u8 (s4 : Int), .int .u8 (s5 : Int), .int .u8 (s6 : Int), .int .u8 (s7 : Int)]] X fun e w' => e = .returned (.int .u32 (n4 : Int)) ∧ Below X.heap.size X w') := hid (fun X => by rw [← hn4]; exact refGeneration_any s0 s1 s2 s3 s4 s5 s6 s7 hs8.2 X)
  have k0 : w.cell? ⟨b, off, none⟩ = some (.int .u8 (s0 : Int)) := HC0 0 _ rfl
  have k1 : w.cell? ⟨b, off + 1, none⟩ = some (.int .u8 (s1 : Int)) := HC0 1 _ rfl
  have k2 : w.cell? ⟨b, off + 2, none⟩ = some (.int .u8 (s2 : Int)) := HC0 2 _ rfl
  have k3 : w.cell? ⟨b, off + 3, none⟩ = some (.int .u8 (s3 : Int)) := HC0 3 _ rfl
  have k4 : w.cell? ⟨b, off + 4, none⟩ = some (.int .u8 (s4 : Int)) := HC0 4 _ rfl
  have k5 : w.cell? ⟨b, off + 5, none⟩ = some (.int .u8 (s5 : Int)) := HC0 5 _ rfl
  have k6 : w.cell? ⟨b, off + 6, none⟩ = some (.int .u8 (s6 : Int)) := HC0 6 _ rfl
  have k7 : w.cell? ⟨b, off + 7, none⟩ = some (.int .u8 (s7 : Int)) := HC0 7 _ rfl
  have HV := hid hv
  have HL := hid hl
  have HS0 := hid hs0
  have HN4 := hid hn4
  rw [hl] at HV ⊢
  clear hv hl hs0 hs8 hn4 hcl HC0
  go_enter Try.func50, Try.ntmps50
  go_upto_region 2 with (go_at_call 38; refine (HN38.out w).mono ?_; rintro e W0 ⟨rfl, hb0⟩; have HB0 := hid hb0; clear hb0)
  clear k0 k1 k2 k3 k4 k5 k6 k7 HN38
  go_upto_region 4 with fail
  go_loopw [6, 5] (fun iv lv wr => ∃ (i : Nat) (L : Value), i ≤ 8 ∧ iv = .int .i64 (i : Int) ∧ L = lv ∧ Hid (wr.ownsRow w.heap.size 5 1 L (4 * i) ((dat (l.take i)).map byteV)) ∧ Hid (∀ s ∈ l.take i, num4 s = n4) ∧ Hid (Below w.heap.size w wr)) (fun iv _ _ => 8 - (Go.RowKit.intOf iv).toNat)
  case atStart => exact ⟨0, _, Nat.zero_le _, rfl, rfl, hid (World.ownsRow_nil _ _ _ _), hid (fun s hs => by rw [List.take_zero] at hs; cases hs), HB0⟩
  case round =>
    obtain ⟨i, L, hi, rfl, rfl, HO, HA, HB⟩ := hrel
    by_cases hi8 : i < 8
    · have d0 : decide ((i : Int) < 8) = true := decide_eq_true (by omega)
      have hi8' : (i : Int) < 8 := by omega
      have hs := HV.out.below HB.out
      obtain ⟨b', off', e, _, hc⟩ := arr_at1 hs.2 (by rw [List.length_map, HL.out]; decide)
      injection e with e
      injection e with e1 e2
      subst e1 e2
      obtain ⟨sj, hx⟩ : ∃ s, l[i]? = some s := ⟨l[i]'(by rw [HL.out]; exact hi8), List.getElem?_eq_getElem _⟩
      have h8 := hs.1 sj (List.mem_of_getElem? hx)
      have HC := hid (fun (t : Nat) (u : Value) (hu : (cSec sj)[t]? = some u) => hc i _ (by rw [List.getElem?_map, hx]; rfl) t u hu)
      have HT : Hid (l.take (i + 1) = l.take i ++ [sj]) := hid (take_succ'' hx)
      have HMEM : Hid (sj ∈ l) := hid (List.mem_of_getElem? hx)
      obtain ⟨z0, z1, z2, z3, z4, z5, z6, z7, rfl⟩ := list8 h8.1
      obtain ⟨q, hq⟩ : ∃ q, num4 [z0, z1, z2, z3, z4, z5, z6, z7] = q := ⟨_, rfl⟩
      have HQ38 : Hid (∀ X, Calls Try.prog 38 #[.agg #[.int .u8 (z0 : Int), .int .u8 (z1 : Int), .int .u8 (z2 : Int), .int .u8 (z3 : Int), .int .u8 (z4 : Int), .int .u8 (z5 : Int), .int .u8 (z6 : Int), .int .u8 (z7 : Int)]] X fun e w' => e = .returned (.int .u32 (q : Int)) ∧ Below X.heap.size X w') := hid (fun X => by rw [← hq]; exact refGeneration_any z0 z1 z2 z3 z4 z5 z6 z7 h8.2 X)
      have HQ := hid hq
      have k0 : wr.cell? ⟨b, off + i * 8, none⟩ = some (.int .u8 (z0 : Int)) := HC.out 0 _ rfl
      have k1 : wr.cell? ⟨b, off + i * 8 + 1, none⟩ = some (.int .u8 (z1 : Int)) := HC.out 1 _ rfl
      have k2 : wr.cell? ⟨b, off + i * 8 + 2, none⟩ = some (.int .u8 (z2 : Int)) := HC.out 2 _ rfl
      have k3 : wr.cell? ⟨b, off + i * 8 + 3, none⟩ = some (.int .u8 (z3 : Int)) := HC.out 3 _ rfl
      have k4 : wr.cell? ⟨b, off + i * 8 + 4, none⟩ = some (.int .u8 (z4 : Int)) := HC.out 4 _ rfl
      have k5 : wr.cell? ⟨b, off + i * 8 + 5, none⟩ = some (.int .u8 (z5 : Int)) := HC.out 5 _ rfl
      have k6 : wr.cell? ⟨b, off + i * 8 + 6, none⟩ = some (.int .u8 (z6 : Int)) := HC.out 6 _ rfl
      have k7 : wr.cell? ⟨b, off + i * 8 + 7, none⟩ = some (.int .u8 (z7 : Int)) := HC.out 7 _ rfl
      clear hs hx h8 hc hq
      by_cases hq4 : q = n4
      · have hqe : ((q : Int) != (n4 : Int)) = false := by subst hq4; simp
        go_upto_region 8 with (go_at_call 38; refine (HQ38.out wr).mono ?_; rintro e X1 ⟨rfl, hb1⟩; have HBX1 : Hid (Below wr.heap.size wr X1) := hid hb1; have HB1 : Hid (Below w.heap.size w X1) := hid (HB.out.trans (hb1.mono HB.out.size)); clear hb1)
        clear k0 k1 k2 k3 k4 k5 k6 k7
        have hown : X1.ownsRow w.heap.size 5 1 L (4 * i) ((dat (l.take i)).map byteV) := own_keep HO.out (keep_below HBX1.out)
        have hnc : ∀ (t : Nat) (u : Value), ([z4, z5, z6, z7].map byteV)[t]? = some u → X1.cell? ((⟨b, off + i * 8 + 4, none⟩ : Addr).add t) = some u := fun t u hu => by
          obtain ⟨b', off', e, hb', hc⟩ := arr_at1 (HV.out.below HB.out).2 (by rw [List.length_map, HL.out]; decide)
          injection e with e
          injection e with e1 e2
          subst e1 e2
          rw [add_at]
          match t, hu with
          | 0, hu => exact (HBX1.out.cell (p := ⟨b, _, none⟩) hb').trans (HC.out 4 _ hu)
          | 1, hu => exact (HBX1.out.cell (p := ⟨b, _, none⟩) hb').trans (HC.out 5 _ hu)
          | 2, hu => exact (HBX1.out.cell (p := ⟨b, _, none⟩) hb').trans (HC.out 6 _ hu)
          | 3, hu => exact (HBX1.out.cell (p := ⟨b, _, none⟩) hb').trans (HC.out 7 _ hu)
          | t + 4, hu => simp at hu
        have hws : w.heap.size ≤ X1.heap.size := HB1.out.size
        have hsa := run_sliceAt57 b (off + i * 8)
        go_wp2_with (at_builtin; refine wpList_append_own _ rfl _ _ 22 rfl w.heap.size 5 i0 _ 1 1 Try.underlying22 hi0 hz0 hz1 hz2 rfl (by decide) _ _ _ rfl hown ⟨b, off + i * 8 + 4, none⟩ 4 4 ([z4, z5, z6, z7].map byteV) rfl rfl hnc (byteV_one _) (by unfold maxLen; omega) (by omega) hws ?_)
        intro v' w2 hown2 hgrow _
        have HB2 : Hid (Below w.heap.size w w2) := hid (HB1.out.grown hgrow hws (fun k hk => (hown.lt k hk).1))
        have HO2 := hid hown2
        clear hown2 hgrow hown hnc hsa
        go_wp2_with fail
        go_roundw
        case rel =>
          refine ⟨i + 1, v', by omega, by go_num, rfl, hid ?_, hid ?_, HB2⟩
          · rw [HT.out, dat_snoc, List.map_append, show 4 * (i + 1) = 4 * i + 4 by omega]
            exact HO2.out
          · intro s hs
            rw [HT.out] at hs
            rcases List.mem_append.1 hs with hs | hs
            · exact HA.out s hs
            · rw [List.mem_singleton.1 hs, HQ.out, hq4]
        case measure => simp [Go.RowKit.intOf]; omega
      · have hqe : ((q : Int) != (n4 : Int)) = true := by
          rw [bne_iff_ne]
          intro h
          exact hq4 (by omega)
        obtain rfl : r = ([], 0) := by
          rw [HR.out, if_neg]
          rintro ⟨h, _⟩
          exact hq4 (HQ.out.symm.trans (h _ HMEM.out))
        go_wp2_with (go_at_call 38; refine (HQ38.out wr).mono ?_; rintro e X1 ⟨rfl, hb1⟩; have HB1 : Hid (Below w.heap.size w X1) := hid (HB.out.trans (hb1.mono HB.out.size)); clear hb1)
        go_ret2
        exact ⟨_, rfl, byt_nil _, HB1.out⟩
    · obtain rfl : i = 8 := by omega
      have d0 : decide (((8 : Nat) : Int) < 8) = false := by decide
      have hal : ∀ s ∈ l, num4 s = n4 := fun s hs => HA.out s (by rw [List.take_of_length_le (by rw [HL.out]; exact Nat.le_refl _)]; exact hs)
      have ho := HO.out
      rw [List.take_of_length_le (by rw [HL.out]; exact Nat.le_refl _)] at ho
      obtain ⟨D, hD⟩ : ∃ D, dat l = D := ⟨_, rfl⟩
      have hDl : D.length = 32 := by rw [← hD, dat_len HV.out.1, HL.out]
      have hD8 : B8 D := hD ▸ dat_b8 HV.out.1
      rw [hD] at ho
      obtain ⟨gd, cd, rfl, hcd, hcells⟩ := own_byt_parts ho (by omega)
      obtain ⟨m, hm⟩ : ∃ m, D[0]? = some m := ⟨D[0]'(by omega), List.getElem?_eq_getElem _⟩
      have hm0 : D.getD 0 0 = m := by rw [List.getD_eq_getElem?_getD, hm]; rfl
      have hm256 : m < 256 := hD8 m (List.mem_of_getElem? hm)
      have q0 := hcells 0 m hm
      have HCE := hid hcells
      have HVZ := hid (valB_zero hDl)
      rw [hm0] at HVZ
      have HRR : Hid (r = if valB D = true then (payL D, n4) else ([], 0)) := hid (by
        rw [HR.out, hD]
        by_cases hv : valB D = true
        · rw [if_pos ⟨hal, hv⟩, if_pos hv]
        · rw [if_neg (fun h => hv h.2), if_neg hv])
      have HPB : Hid (m ≤ 31 → Byt wr (.slice (some ⟨gd, 1, none⟩) m (cd - 1)) (payL D)) := hid (fun hm31 => by
        have hb := byt_of_own (p := D) (base := w.heap.size) (by rw [hDl]; exact ho) hD8
        have h := arr_mid hb.2.2 1 (m + 1) (by omega) (by rw [List.length_map, hDl]; omega)
        rw [show m + 1 - 1 = m by omega, ← List.map_drop, ← List.map_take] at h
        unfold fromN at h
        rw [if_neg (by omega), Option.map_some, add_at] at h
        refine ⟨payL_b8 hD8, nilOk_some _ _ _, ?_⟩
        unfold payL
        rw [hm0]
        exact h)
      have hcd' : 32 ≤ cd := by omega
      have HDL := hid hDl
      clear hal ho hD hDl hD8 hcells hm hm0 hcd HR HA HO
      rw [show 4 * 8 = 32 from rfl]
      by_cases hm31 : m ≤ 31
      · have d31 : decide (31 < (m : Int)) = false := decide_eq_false (by omega)
        have hsl := fun W => run_slice22u gd cd m ((m : Int) + 1) (by omega) hm31 hcd' W
        have hcv : IntKind.i64.wrap (m : Int) = (m : Int) := by rw [IntKind.wrap_i64]; omega
        go_upto_region 13 with (go_at_call 30; refine (refCapacity_any wr).mono ?_; rintro e X1 ⟨rfl, rfl⟩)
        clear q0 d0 d31
        go_loopw [8] (fun iv wk => ∃ i : Nat, m + 1 ≤ i ∧ i ≤ 32 ∧ iv = .int .i64 (i : Int) ∧ wk = X1 ∧ Hid (∀ j, m + 1 ≤ j → j < i → D.getD j 0 = 0)) (fun iv _ => 32 - (Go.RowKit.intOf iv).toNat)
        case atStart => exact ⟨m + 1, Nat.le_refl _, by omega, rfl, rfl, hid (fun j h1 h2 => by omega)⟩
        case round =>
          obtain ⟨i, him, hi32, rfl, rfl, HZ⟩ := hrel
          by_cases hi : i < 32
          · have d0 : decide ((i : Int) < 32) = true := decide_eq_true (by omega)
            have hi' : (i : Int) < 32 := by omega
            obtain ⟨x, hx⟩ : ∃ x, D[i]? = some x := ⟨D[i]'(by rw [HDL.out]; exact hi), List.getElem?_eq_getElem _⟩
            have hxd : D.getD i 0 = x := by rw [List.getD_eq_getElem?_getD, hx]; rfl
            have qx := HCE.out i x hx
            have HXD := hid hxd
            clear hx hxd
            by_cases hx0 : x = 0
            · subst hx0
              have hqe : (((0 : Nat) : Int) != 0) = false := by decide
              go_wp2_with fail
              go_roundw
              case rel =>
                refine ⟨i + 1, by omega, by omega, by go_num, trivial, hid (fun j h1 h2 => ?_)⟩
                by_cases hji : j = i
                · rw [hji]; exact HXD.out
                · exact HZ.out j h1 (by omega)
              case measure => simp [Go.RowKit.intOf]; omega
            · have hqe : ((x : Int) != 0) = true := by rw [bne_iff_ne]; omega
              obtain rfl : r = ([], 0) := by
                rw [HRR.out, if_neg]
                intro h
                exact hx0 (HXD.out.symm.trans ((HVZ.out.1 h).2 i him hi))
              go_wp2_with fail
              go_ret2
              exact ⟨_, rfl, byt_nil _, HB.out⟩
          · obtain rfl : i = 32 := by omega
            have d0 : decide (((32 : Nat) : Int) < 32) = false := by decide
            obtain rfl : r = (payL D, n4) := by
              rw [HRR.out, if_pos]
              exact HVZ.out.2 ⟨hm31, fun j h1 h2 => HZ.out j h1 h2⟩
            go_wp2_with fail
            go_ret2
            exact ⟨_, rfl, HPB.out hm31, HB.out⟩
      · obtain rfl : r = ([], 0) := by
          rw [HRR.out, if_neg]
          intro h
          exact hm31 (HVZ.out.1 h).1
        have d31 : decide (31 < (m : Int)) = true := decide_eq_true (by omega)
        have hcv : IntKind.i64.wrap (m : Int) = (m : Int) := by rw [IntKind.wrap_i64]; omega
        go_wp2_with (go_at_call 30; refine (refCapacity_any wr).mono ?_; rintro e X1 ⟨rfl, rfl⟩)
        go_ret2
        exact ⟨_, rfl, byt_nil _, HB.out⟩
end Go.Proofs.Ytnocgfhcamnjdaa
