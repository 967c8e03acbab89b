/- The reference's Decode. -/
import Derived.Test.YtcmmkeadbedooaaR2
import Derived.BigQuiet
namespace Go.Proofs.Ytcmmkeadbedooaa
open Go.RowKit Go.Lib

theorem others_any {q : Nat} {l : List Sect} {i : Nat} {s : Sect} (h : l[i]? = some s) (hn : num s ≠ q) : others q l = true := by
  unfold others
  rw [List.any_eq_true]
  exact ⟨s, List.mem_of_getElem? h, by simpa using hn⟩
theorem dts_take' {l : List Sect} {n k : Nat} {s : Sect} (h : l[k]? = some s) (hk : k < n) : dts ((l.take n).take (k + 1)) = dts ((l.take n).take k) ++ s.drop 4 :=
  dts_take (by rw [List.getElem?_take, if_pos hk]; exact h)
theorem put3 {w : World} {x : Nat} {a0 a1 a2 : Value} (v0 v1 v2 : Value) (h : w.heap[x]? = some (.cells #[a0, a1, a2] 27)) :
    (((w.setCell ⟨x, 0, none⟩ v0).setCell ⟨x, 1, none⟩ v1).setCell ⟨x, 2, none⟩ v2).cell? ⟨x, 0, none⟩ = some v0 ∧ (((w.setCell ⟨x, 0, none⟩ v0).setCell ⟨x, 1, none⟩ v1).setCell ⟨x, 2, none⟩ v2).cell? ⟨x, 1, none⟩ = some v1 ∧ (((w.setCell ⟨x, 0, none⟩ v0).setCell ⟨x, 1, none⟩ v1).setCell ⟨x, 2, none⟩ v2).cell? ⟨x, 2, none⟩ = some v2 := by
  have hh := box_set (box_set (box_set (cs := [a0, a1, a2]) h 0 v0) 1 v1) 2 v2
  exact ⟨cell_of_row _ _ 0 _ _ _ hh, cell_of_row _ _ 1 _ _ _ hh, cell_of_row _ _ 2 _ _ _ hh⟩
theorem ge_one {l : List Nat} {x : Nat} (h : l[0]? = some x) : ge (l.take 1) = x := by
  rcases l with _ | ⟨a, t⟩
  · cases h
  · simp at h; subst h; rfl

set_option maxHeartbeats 8000000 in
set_option maxRecDepth 100000 in
theorem rdecode_any (l : List Sect) (v : Value) (w : World) (hv : Sec w v l) (hl : l.length ≤ 100000) :
    Calls Try.prog 18 #[v] w (DecQ w l) := by
  have hS := hv.1
  obtain ⟨A, c, rfl⟩ := sec_form hv
  obtain ⟨W1, hW1⟩ : ∃ W1, w.alloc (.cells #[.int .i64 0, .int .i64 0, .slice none 0 0] 27) = W1 := ⟨_, rfl⟩
  have hx1 : W1.heap[w.heap.size]? = some (.cells #[.int .i64 0, .int .i64 0, .slice none 0 0] 27) := by rw [← hW1]; exact heap_alloc_new _ _
  have hb1 : Below w.heap.size w W1 := by rw [← hW1]; exact al1 _ _
  have HX1 := hid hx1
  have HB1 := hid hb1
  have HW1 := hid hW1
  have hsz1 : W1.heap.size = w.heap.size + 1 := by rw [← hW1]; simp
  have HV := hid hv
  have HS := hid hS
  rcases hle : l with _ | ⟨s, t⟩
  · have HE : Hid (dR ([] : List Sect) = .error 10) := hid rfl
    subst hW1
    show Calls Try.prog 18 #[.slice A 0 c] w _
    clear hv hS hx1 hb1 hsz1 hle
    go_enter Try.func18, Try.ntmps18
    have z0 := cell_of_row _ _ 0 _ _ _ HX1.out
    have z1 := cell_of_row _ _ 1 _ _ _ HX1.out
    have z2 := cell_of_row _ _ 2 _ _ _ HX1.out
    have q0 : (w.alloc (.cells #[.int .i64 0, .int .i64 0, .slice none 0 0] 27)).cell? ⟨w.heap.size, 0, none⟩ = some (.int .i64 0) := z0
    have q1 : (w.alloc (.cells #[.int .i64 0, .int .i64 0, .slice none 0 0] 27)).cell? ⟨w.heap.size, 1, none⟩ = some (.int .i64 0) := z1
    have q2 : (w.alloc (.cells #[.int .i64 0, .int .i64 0, .slice none 0 0] 27)).cell? ⟨w.heap.size, 2, none⟩ = some (.slice none 0 0) := z2
    clear z0 z1 z2
    go_wp2_with fail
    refine bodyPost_ret (v := .tuple #[.agg #[.int .i64 0, .int .i64 0, .slice none 0 0], .int .i64 0, .int .i64 10]) (by simp [results, Try.results18, go_sem, q0, q1, q2]) rfl ?_
    exact ⟨HB1.out, .inr ⟨10, HE.out, rfl⟩⟩
  · rw [← hle]
    have hE : dR l = dS s l := by rw [hle]; rfl
    have hl0 : l[0]? = some s := by rw [hle]; rfl
    have hlpos : 0 < l.length := by rw [hle]; simp
    obtain ⟨hs8, hsb⟩ := hS s (List.mem_of_getElem? hl0)
    obtain ⟨b, off, cap, he, _, _, hbl, hsc⟩ := sec_at hv (by rw [hle]; simp)
    injection he with he1 he2 he3
    subst he1
    subst he3
    have HSC := hid hsc
    have hsc0 := hsc 0 s hl0
    rw [Nat.zero_mul, Nat.add_zero] at hsc0
    have hsc' := hsc0.below hbl hb1
    obtain ⟨N, hN⟩ : ∃ N, num s = N := ⟨_, rfl⟩
    obtain ⟨m, hm⟩ : ∃ m, lenOf s = m := ⟨_, rfl⟩
    have hN32 := num_lt hs8 hsb
    have hm65 : m < 65536 := by
      have h := ge_lt (b8_take (b8_drop hsb 5) 2)
      rw [List.length_take, List.length_drop, hs8] at h
      rw [← hm]; exact h
    have HNUM := hid (fun W => rnum_any s W hs8 hsb)
    obtain ⟨L, hL⟩ : ∃ L, l.length = L := ⟨_, rfl⟩
    have HLL := hid hL
    have HNE := hid hN
    have HME := hid hm
    have HE := hid hE
    have HBL := hid hbl
    have HSB := hid hsb
    have HS8 := hid hs8
    rw [hN] at HNUM hN32
    rw [hL] at HV hl hlpos ⊢
    obtain ⟨x0, x1, x2, x3, x4, x5, x6, x7, hxs⟩ := list8 hs8
    have HXS := hid hxs
    rw [hxs] at hsc' HNUM
    obtain ⟨p0, p1, p2, p3, p4, p5, p6, p7⟩ := hsc'.facts
    have hLi : (0 : Int) < (L : Int) := by omega
    have HSC0 := hid hsc0
    clear hv hS hle hE hs8 hsb hsc hsc' hsc0 hN hm hL hxs hbl hx1 hb1
    subst hW1
    go_enter Try.func18, Try.ntmps18
    go_wp2_with fail
    refine (HNUM.out _).mono ?_
    rintro e w2 ⟨rfl, hb2⟩
    have hx2 := (hb2.block w.heap.size (by omega)).trans HX1.out
    have HX2 := hid hx2
    have HB2 := hid (HB1.out.trans (hb2.mono HB1.out.size))
    have hz2 : w.heap.size + 1 ≤ w2.heap.size := by have := hb2.size; omega
    clear hb2 hx2 p0 p1 p2 p3 p4 p5 p6 p7
    by_cases hN0 : N = 0
    · subst hN0
      have HE2 : Hid (dR l = .error 7) := hid (by rw [HE.out]; unfold dS; rw [if_pos HNE.out])
      have z0 : w2.cell? ⟨w.heap.size, 0, none⟩ = some (.int .i64 0) := cell_of_row _ _ 0 _ _ _ HX2.out
      have z1 : w2.cell? ⟨w.heap.size, 1, none⟩ = some (.int .i64 0) := cell_of_row _ _ 1 _ _ _ HX2.out
      have z2 : w2.cell? ⟨w.heap.size, 2, none⟩ = some (.slice none 0 0) := cell_of_row _ _ 2 _ _ _ HX2.out
      have fz := box_fr HX2.out
      obtain ⟨r0, r1, r2⟩ := put3 (.int .i64 0) (.int .i64 0) (.slice none 0 0) HX2.out
      have HR0 := hid r0
      have HR1 := hid r1
      have HR2 := hid r2
      clear r0 r1 r2
      go_wp2_with fail
      have q0 := HR0.out
      have q1 := HR1.out
      have q2 := HR2.out
      refine bodyPost_ret (v := .tuple #[.agg #[.int .i64 0, .int .i64 0, .slice none 0 0], .int .i64 0, .int .i64 7]) (by simp [results, Try.results18, go_sem, q0, q1, q2]) rfl ?_
      exact ⟨((HB2.out.setCell (p := ⟨w.heap.size, 0, none⟩) (Nat.le_refl _) _).setCell (p := ⟨w.heap.size, 1, none⟩) (Nat.le_refl _) _).setCell (p := ⟨w.heap.size, 2, none⟩) (Nat.le_refl _) _, .inr ⟨7, HE2.out, rfl⟩⟩
    · have hd1 : ((N : Int) == 0) = false := by rw [beq_eq_false_iff_ne]; omega
      have hsc2 := HSC0.out.below HBL.out HB2.out
      have hv57 : Byt w2 (.slice (some ⟨b, off + 5, none⟩) 2 3) ((s.drop 5).take 2) := by
        have h2 : ((s.drop 5).take 2).length = 2 := by rw [List.length_take, List.length_drop, HS8.out]; rfl
        refine ⟨b8_take (b8_drop HSB.out 5) 2, some ⟨b, off + 5, none⟩, 3, by rw [h2], by rw [h2]; omega, by unfold maxLen; omega, b, off + 5, fun _ => ⟨rfl, Nat.lt_of_lt_of_le HBL.out HB2.out.size⟩, fun i x hx => ?_⟩
        rw [List.getElem?_take] at hx
        split at hx
        · rw [List.getElem?_drop] at hx
          have h := hsc2 (5 + i) (byteV x) (by unfold cSec; rw [List.getElem?_map, hx]; rfl)
          rw [Nat.add_assoc]
          exact h
        · cases hx
      have HG := hid (rget_any _ _ w2 hv57 (by rw [List.length_take, List.length_drop, HS8.out]; omega))
      have hlen : ge ((s.drop 5).take 2) = m := HME.out
      rw [hlen] at HG
      clear hsc2 hv57 hlen
      go_wp2_with fail
      refine HG.out.mono ?_
      rintro e w' ⟨rfl, rfl⟩
      clear HG
      by_cases hm4 : 4096 < m
      · have hd2 : decide ((4096 : Int) < (m : Int)) = true := decide_eq_true (by omega)
        have HE2 : Hid (dR l = .error 5) := hid (by rw [HE.out]; unfold dS; rw [if_neg (by rw [HNE.out]; exact hN0), if_pos (by rw [HME.out]; exact hm4)])
        have z0 : w2.cell? ⟨w.heap.size, 0, none⟩ = some (.int .i64 0) := cell_of_row _ _ 0 _ _ _ HX2.out
        have z1 : w2.cell? ⟨w.heap.size, 1, none⟩ = some (.int .i64 0) := cell_of_row _ _ 1 _ _ _ HX2.out
        have z2 : w2.cell? ⟨w.heap.size, 2, none⟩ = some (.slice none 0 0) := cell_of_row _ _ 2 _ _ _ HX2.out
        have fz := box_fr HX2.out
        obtain ⟨r0, r1, r2⟩ := put3 (.int .i64 0) (.int .i64 0) (.slice none 0 0) HX2.out
        have HR0 := hid r0
        have HR1 := hid r1
        have HR2 := hid r2
        clear r0 r1 r2
        go_wp2_with fail
        have q0 := HR0.out
        have q1 := HR1.out
        have q2 := HR2.out
        refine bodyPost_ret (v := .tuple #[.agg #[.int .i64 0, .int .i64 0, .slice none 0 0], .int .i64 0, .int .i64 5]) (by simp [results, Try.results18, go_sem, q0, q1, q2]) rfl ?_
        exact ⟨((HB2.out.setCell (p := ⟨w.heap.size, 0, none⟩) (Nat.le_refl _) _).setCell (p := ⟨w.heap.size, 1, none⟩) (Nat.le_refl _) _).setCell (p := ⟨w.heap.size, 2, none⟩) (Nat.le_refl _) _, .inr ⟨5, HE2.out, rfl⟩⟩
      · have hd2 : decide ((4096 : Int) < (m : Int)) = false := decide_eq_false (by omega)
        obtain ⟨n, hn⟩ : ∃ n, size m = n := ⟨_, rfl⟩
        have HSZ := hid (show szI (m : Int) = (n : Int) by rw [← hn]; exact szI_nat (by omega))
        have hn2 : 7 + m ≤ 4 * n ∧ n ≤ 1100 ∧ 2 ≤ n := by rw [← hn]; unfold size; omega
        have HNE2 := hid hn
        have HE3 : Hid (dR l = if L < n ∨ others N (l.take n) = true then .error 10 else dB N n m (dts (l.take n))) := hid (by
          rw [HE.out]; unfold dS
          rw [if_neg (by rw [HNE.out]; exact hN0), if_neg (by rw [HME.out]; exact hm4), HME.out, hn, HNE.out, HLL.out])
        clear hn
        go_wp2_with fail
        refine (rsize_any (m : Int) _).mono ?_
        rintro e w' ⟨rfl, rfl⟩
        rw [HSZ.out]
        by_cases hLn : L < n
        · have hd3 : decide ((L : Int) < (n : Int)) = true := decide_eq_true (by omega)
          have HE2 : Hid (dR l = .error 10) := hid (by rw [HE3.out, if_pos (.inl hLn)])
          have z0 : w2.cell? ⟨w.heap.size, 0, none⟩ = some (.int .i64 0) := cell_of_row _ _ 0 _ _ _ HX2.out
          have z1 : w2.cell? ⟨w.heap.size, 1, none⟩ = some (.int .i64 0) := cell_of_row _ _ 1 _ _ _ HX2.out
          have z2 : w2.cell? ⟨w.heap.size, 2, none⟩ = some (.slice none 0 0) := cell_of_row _ _ 2 _ _ _ HX2.out
          have fz := box_fr HX2.out
          obtain ⟨r0, r1, r2⟩ := put3 (.int .i64 0) (.int .i64 0) (.slice none 0 0) HX2.out
          have HR0 := hid r0
          have HR1 := hid r1
          have HR2 := hid r2
          clear r0 r1 r2
          go_wp2_with fail
          have q0 := HR0.out
          have q1 := HR1.out
          have q2 := HR2.out
          refine bodyPost_ret (v := .tuple #[.agg #[.int .i64 0, .int .i64 0, .slice none 0 0], .int .i64 0, .int .i64 10]) (by simp [results, Try.results18, go_sem, q0, q1, q2]) rfl ?_
          exact ⟨((HB2.out.setCell (p := ⟨w.heap.size, 0, none⟩) (Nat.le_refl _) _).setCell (p := ⟨w.heap.size, 1, none⟩) (Nat.le_refl _) _).setCell (p := ⟨w.heap.size, 2, none⟩) (Nat.le_refl _) _, .inr ⟨10, HE2.out, rfl⟩⟩
        · have hd3 : decide ((L : Int) < (n : Int)) = false := decide_eq_false (by omega)
          have HLn := hid (show n ≤ L by omega)
          go_wp2_with fail
          clear hLn
          go_loopw [8, 9] (fun sv i wr => ∃ (k : Nat) (sA : Option Addr) (sc : Nat), k ≤ n ∧ i = .int .i64 (k : Int) ∧ sv = .slice sA (4 * k) sc ∧ Hid (others N (l.take k) = false) ∧ Hid (wr.ownsRow w2.heap.size 5 1 (.slice sA (4 * k) sc) (4 * k) ((dts (l.take k)).map byteV)) ∧ Hid (Below w2.heap.size w2 wr)) (fun _ i _ => n - (RowKit.intOf i).toNat)
          case atStart => exact ⟨0, none, 0, by omega, rfl, rfl, hid (by rw [List.take_zero]; rfl), hid (by rw [List.take_zero]; exact World.ownsRow_nil _ _ _ _), hid (Below.refl _ _)⟩
          case round =>
            obtain ⟨k, sA, sc, hk, rfl, rfl, HO, HSO, HB⟩ := hrel
            obtain ⟨wo, rfl⟩ : ∃ wo : World, wo = wr := ⟨_, rfl⟩
            have hxo := (HB.out.block w.heap.size (by omega)).trans HX2.out
            have HXO := hid hxo
            have HBO := hid (HB2.out.trans (HB.out.mono (by omega)))
            clear hxo
            by_cases hkn : k < n
            · obtain ⟨y, hy⟩ : ∃ y, l[k]? = some y := ⟨l[k]'(by rw [HLL.out]; have := HLn.out; omega), List.getElem?_eq_getElem _⟩
              obtain ⟨hy8, hyb⟩ := HS.out y (List.mem_of_getElem? hy)
              have hscy := (HSC.out k y hy).below HBL.out HBO.out
              have HNY := hid (fun W => rnum_any y W hy8 hyb)
              have HOT := hid (others_take (q := N) hy)
              have HOI := hid (fun h : num y ≠ N => (others_any (l := l.take n) (q := N) (i := k) (s := y) (by rw [List.getElem?_take, if_pos hkn]; exact hy) h))
              have HDT := hid (dts_take hy)
              have HYL := hid hy
              obtain ⟨Y, hY⟩ : ∃ Y, num y = Y := ⟨_, rfl⟩
              rw [hY] at HNY HOT HOI
              obtain ⟨y0, y1, y2, y3, y4, y5, y6, y7, hys⟩ := list8 hy8
              have HYB := hid hyb
              have HYS := hid hys
              rw [hys] at hscy HNY
              obtain ⟨p0, p1, p2, p3, p4, p5, p6, p7⟩ := hscy.facts
              have hkL : (k : Int) < (L : Int) := by have := HLn.out; omega
              have hkc : (k : Int) < (n : Int) := by omega
              clear hy hy8 hyb hscy hY hys
              go_wp2_with fail
              refine (HNY.out wo).mono ?_
              rintro e w3 ⟨rfl, hb3⟩
              have HB3 := hid (HB.out.trans (hb3.mono HB.out.size))
              have HX3 := hid ((hb3.block w.heap.size (box_lt HXO.out)).trans HXO.out)
              have HSO3 := hid (own_keep HSO.out (keep_below hb3))
              have HBW3 := hid (HBO.out.trans (hb3.mono HBO.out.size))
              have HSC3 := hid ((HSC.out k [y0, y1, y2, y3, y4, y5, y6, y7] (by
                rw [← HYS.out]; exact HYL.out)).below HBL.out HBW3.out)
              clear hb3 p0 p1 p2 p3 p4 p5 p6 p7 HNY
              by_cases hYN : Y = N
              · subst hYN
                have hd5 : ((Y : Int) != (Y : Int)) = false := by simp
                obtain ⟨q0, q1, q2, q3, q4, q5, q6, q7⟩ := HSC3.out.facts
                have HBY : Hid (Byt w3 (.slice (some ⟨b, off + k * 8 + 4, none⟩) 4 4) [y4, y5, y6, y7]) := hid (by
                  refine ⟨fun z hz => HYB.out z (by rw [HYS.out]; simp at hz ⊢; omega), some ⟨b, off + k * 8 + 4, none⟩, 4, rfl, Nat.le_refl _, by unfold maxLen; omega, b, off + k * 8 + 4, fun _ => ⟨rfl, Nat.lt_of_lt_of_le HBL.out HBW3.out.size⟩, fun i x hx => ?_⟩
                  rcases i with _ | _ | _ | _ | i
                  all_goals simp at hx
                  all_goals subst hx
                  · exact q4
                  · exact q5
                  · exact q6
                  · exact q7)
                have hz3 : w2.heap.size ≤ w3.heap.size := HB3.out.size
                clear q0 q1 q2 q3 q4 q5 q6 q7
                go_wp2_with (first | (at_builtin; refine append_byt rfl (.tmp 50) (.tmp 54) rfl w2.heap.size (.slice sA (4 * k) sc) (4 * k) _ rfl HSO3.out [y4, y5, y6, y7] _ rfl HBY.out (nilOk_some _ _ _) (by simp; omega) hz3 ?_; intro v4 w4 ho4 hg4; have HB4 := hid (below_own HB3.out HSO3.out hg4 hz3 (Nat.le_refl _)); obtain ⟨s4, sc4, rfl⟩ := own_form ho4; have HO4 := hid ho4; clear ho4 hg4) | fail)
                go_roundw
                case rel =>
                  exact ⟨k + 1, s4, sc4, by omega, by go_num, by rw [show 4 * (k + 1) = 4 * k + 4 from rfl], hid (by rw [HOT.out, HO.out]; simp), hid (by
                    rw [HDT.out, List.map_append, HYS.out]; exact HO4.out), HB4⟩
                case measure => simp [RowKit.intOf]; omega
              · have hd5 : ((Y : Int) != (N : Int)) = true := by rw [bne_iff_ne]; omega
                have HE2 : Hid (dR l = .error 10) := hid (by rw [HE3.out, if_pos (.inr (HOI.out hYN))])
                have z0 : w3.cell? ⟨w.heap.size, 0, none⟩ = some (.int .i64 0) := cell_of_row _ _ 0 _ _ _ HX3.out
                have z1 : w3.cell? ⟨w.heap.size, 1, none⟩ = some (.int .i64 0) := cell_of_row _ _ 1 _ _ _ HX3.out
                have z2 : w3.cell? ⟨w.heap.size, 2, none⟩ = some (.slice none 0 0) := cell_of_row _ _ 2 _ _ _ HX3.out
                have fz := box_fr HX3.out
                obtain ⟨r0, r1, r2⟩ := put3 (.int .i64 0) (.int .i64 0) (.slice none 0 0) HX3.out
                have HR0 := hid r0
                have HR1 := hid r1
                have HR2 := hid r2
                clear r0 r1 r2
                go_wp2_with fail
                have q0 := HR0.out
                have q1 := HR1.out
                have q2 := HR2.out
                refine bodyPost_ret (v := .tuple #[.agg #[.int .i64 0, .int .i64 0, .slice none 0 0], .int .i64 0, .int .i64 10]) (by simp [results, Try.results18, go_sem, q0, q1, q2]) rfl ?_
                exact ⟨((HBW3.out.setCell (p := ⟨w.heap.size, 0, none⟩) (Nat.le_refl _) _).setCell (p := ⟨w.heap.size, 1, none⟩) (Nat.le_refl _) _).setCell (p := ⟨w.heap.size, 2, none⟩) (Nat.le_refl _) _, .inr ⟨10, HE2.out, rfl⟩⟩
            · obtain rfl : k = n := by omega
              obtain ⟨D, hD⟩ : ∃ D, dts (l.take k) = D := ⟨_, rfl⟩
              have hD8 : B8 D := by rw [← hD]; exact dts_b8 (secs_take HS.out k)
              have hDl : D.length = 4 * k := by rw [← hD, dts_len (secs_take HS.out k), List.length_take, HLL.out, Nat.min_eq_left HLn.out]
              have HE4 : Hid (dR l = dB N k m D) := hid (by rw [HE3.out, if_neg (by rw [HO.out]; have := HLn.out; simp; omega), hD])
              have hso := HSO.out
              rw [hD] at hso
              obtain ⟨M, hM⟩ : ∃ M, 4 * k = M := ⟨_, rfl⟩
              rw [hM] at hso hDl hn2 ⊢
              have hvD := byt_of_own hso hD8
              have hcap := byt_cap' hvD
              obtain ⟨a3, ha3⟩ : ∃ a3, 3 + m = a3 := ⟨_, rfl⟩
              obtain ⟨a7, ha7⟩ : ∃ a7, 7 + m = a7 := ⟨_, rfl⟩
              have h37 : a7 - a3 = 4 := by omega
              have hle37 : a3 ≤ a7 ∧ a7 ≤ M ∧ M ≤ 4400 := by omega
              have hw3 : IntKind.i64.wrap (3 + (m : Int)) = (a3 : Int) := by rw [show 3 + (m : Int) = (a3 : Int) by omega]; exact wrap64_nat (by omega)
              have hw7 : IntKind.i64.wrap (7 + (m : Int)) = (a7 : Int) := by rw [show 7 + (m : Int) = (a7 : Int) by omega]; exact wrap64_nat (by omega)
              have hsl := fun W : World => run_slice_both sA M sc a3 a7 (by omega) (by omega) W
              have hsl2 := fun W : World => run_slice_to sA M sc a3 (by omega) W
              obtain ⟨ab, aoff, hsA, _, hcellD⟩ := byt_at hvD (by omega)
              have hadr : ∃ ad, fromA sA sc a3 = some ad := by rw [hsA]; unfold fromA; split <;> exact ⟨_, rfl⟩
              obtain ⟨ad, had⟩ := hadr
              have hb1 := byt_upto (byt_from (by rw [hDl]; exact hvD) (k := a3) (by rw [hDl]; omega)) 4
              have h4l : ((D.drop a3).take 4).length = 4 := by rw [List.length_take, List.length_drop, hDl]; omega
              rw [h4l, had] at hb1
              rw [h37, had] at hsl
              have hb2 := byt_upto (by rw [← hDl] at hvD; exact hvD) a3
              have h3l : (D.take a3).length = a3 := by rw [List.length_take, hDl]; omega
              rw [h3l] at hb2
              obtain ⟨T, hT⟩ : ∃ T, ge ((D.drop a3).take 4) = T := ⟨_, rfl⟩
              obtain ⟨S, hS⟩ : ∃ S, sum0 (D.take a3) = S := ⟨_, rfl⟩
              have hS32 : S < 4294967296 := by have := sum0_lt' (b8_take hD8 a3); rw [hS] at this; simpa using this
              have HGQ := hid (fun (q : Nat) => rget_any _ _ (wo.drewN q) (hb1.below (below_drewN (Below.refl _ _) q)) (by rw [h4l]; omega))
              have HSQ := hid (fun (q : Nat) => rsum_any _ _ (wo.drewN q) (hb2.below (below_drewN (Below.refl _ _) q)))
              rw [hT] at HGQ
              rw [hS] at HSQ
              have hwS : IntKind.i64.wrap (S : Int) = (S : Int) := wrap64_nat (by omega)
              have HDD := hid hvD
              have HD8 := hid hD8
              have HDL := hid hDl
              have HSO' := hid hso
              have HTE := hid (show dB N k m D = if T ≠ S then .error 9 else if ge (D.take 1) = 0 ∨ some0 (D.drop a7) = true then .error 3 else .ok ((ge (D.take 1), N, (D.drop 3).take m), k) by unfold dB; rw [ha3, ha7, hT, hS])
              have HA3 := hid ha3
              have HA7 := hid ha7
              clear hD hD8 hDl hso hM hvD hb1 hb2 had hT hS h4l h3l hS32 hsA hcellD HSO ha3 ha7
              go_wp2_with fail
              go_quiet (first | (go_at_call 36; refine Calls.quiet_of_same ((HGQ.out _).mono fun _ _ ⟨h1, h2⟩ => ⟨h1, h2.symm⟩)) | (go_at_call 31; refine Calls.quiet_of_same ((HSQ.out _).mono fun _ _ ⟨h1, h2⟩ => ⟨h1, h2.symm⟩)))
              obtain ⟨V, hV⟩ : ∃ V, wo.drewN nq = V := ⟨_, rfl⟩
              have hbV : Below wo.heap.size wo V := by rw [← hV]; exact below_drewN (Below.refl _ _) nq
              rw [hV]
              have HXV := hid ((hbV.block w.heap.size (box_lt HXO.out)).trans HXO.out)
              have HBV := hid (HBO.out.trans (hbV.mono HBO.out.size))
              have HVV := hid (HDD.out.below hbV)
              clear hV hbV HGQ HSQ HSO' HB HXO HBO HDD
              by_cases hTS : T = S
              · subst hTS
                have hdT : ((T : Int) != (T : Int)) = false := by simp
                go_wp2_with fail
                go_loopw [10] (fun i wr => ∃ (j : Nat), a7 ≤ j ∧ j ≤ M ∧ i = .int .i64 (j : Int) ∧ Hid (some0 ((D.drop a7).take (j - a7)) = false) ∧ V = wr) (fun i _ => M - (RowKit.intOf i).toNat)
                case atStart => exact ⟨a7, Nat.le_refl _, hle37.2.1, rfl, hid (by rw [Nat.sub_self, List.take_zero]; rfl), rfl⟩
                case round =>
                  obtain ⟨j, hj1, hj2, rfl, HZ, rfl⟩ := hrel
                  obtain ⟨db, doff, rfl, _, hcellD⟩ := byt_at HVV.out (by rw [HDL.out]; omega)
                  by_cases hjM : j < M
                  · obtain ⟨x, hx⟩ : ∃ x, D[j]? = some x := ⟨D[j]'(by rw [HDL.out]; exact hjM), List.getElem?_eq_getElem _⟩
                    have hc := hcellD j x hx
                    have hx2 : (D.drop a7)[j - a7]? = some x := by rw [List.getElem?_drop, show a7 + (j - a7) = j by omega]; exact hx
                    have hjc : (j : Int) < (M : Int) := by omega
                    by_cases hx0 : x = 0
                    · subst hx0
                      have HT := hid (some0_take hx2)
                      clear hx hx2 hcellD
                      go_wp2_with fail
                      go_roundw
                      case rel => exact ⟨j + 1, by omega, by omega, by go_num, hid (by rw [show j + 1 - a7 = j - a7 + 1 by omega, HT.out, HZ.out]; rfl), trivial⟩
                      case measure => simp [RowKit.intOf]; omega
                    · have hdx : ((x : Int) != 0) = true := by rw [bne_iff_ne]; omega
                      have HI : Hid (some0 (D.drop a7) = true) := hid (some0_in hx2 (by simpa using hx0))
                      have HE2 : Hid (dR l = .error 3) := hid (by rw [HE4.out, HTE.out, if_neg (by simp), if_pos (.inr HI.out)])
                      clear hx hx2 hcellD
                      have z0 : V.cell? ⟨w.heap.size, 0, none⟩ = some (.int .i64 0) := cell_of_row _ _ 0 _ _ _ HXV.out
                      have z1 : V.cell? ⟨w.heap.size, 1, none⟩ = some (.int .i64 0) := cell_of_row _ _ 1 _ _ _ HXV.out
                      have z2 : V.cell? ⟨w.heap.size, 2, none⟩ = some (.slice none 0 0) := cell_of_row _ _ 2 _ _ _ HXV.out
                      have fz := box_fr HXV.out
                      obtain ⟨r0, r1, r2⟩ := put3 (.int .i64 0) (.int .i64 0) (.slice none 0 0) HXV.out
                      have HR0 := hid r0
                      have HR1 := hid r1
                      have HR2 := hid r2
                      clear r0 r1 r2
                      go_wp2_with fail
                      have q0 := HR0.out
                      have q1 := HR1.out
                      have q2 := HR2.out
                      refine bodyPost_ret (v := .tuple #[.agg #[.int .i64 0, .int .i64 0, .slice none 0 0], .int .i64 0, .int .i64 3]) (by simp [results, Try.results18, go_sem, q0, q1, q2]) rfl ?_
                      exact ⟨((HBV.out.setCell (p := ⟨w.heap.size, 0, none⟩) (Nat.le_refl _) _).setCell (p := ⟨w.heap.size, 1, none⟩) (Nat.le_refl _) _).setCell (p := ⟨w.heap.size, 2, none⟩) (Nat.le_refl _) _, .inr ⟨3, HE2.out, rfl⟩⟩
                  · obtain rfl : j = M := by omega
                    have hz0 : some0 (D.drop a7) = false := by
                      have h := HZ.out
                      rw [List.take_of_length_le (by rw [List.length_drop, HDL.out]; exact Nat.le_refl _)] at h
                      exact h
                    obtain ⟨x, hx⟩ : ∃ x, D[0]? = some x := ⟨D[0]'(by rw [HDL.out]; omega), List.getElem?_eq_getElem _⟩
                    have hc := hcellD 0 x hx
                    rw [Nat.add_zero] at hc
                    have hg1 := ge_one hx
                    have hx8 := HD8.out x (List.mem_of_getElem? hx)
                    have HX0 := hid hx
                    have h0M : (0 : Int) < (j : Int) := by omega
                    by_cases hx0 : x = 0
                    · subst hx0
                      have HE2 : Hid (dR l = .error 3) := hid (by rw [HE4.out, HTE.out, if_neg (by simp), if_pos (.inl hg1)])
                      clear hx hg1 hcellD hz0
                      have z0 : V.cell? ⟨w.heap.size, 0, none⟩ = some (.int .i64 0) := cell_of_row _ _ 0 _ _ _ HXV.out
                      have z1 : V.cell? ⟨w.heap.size, 1, none⟩ = some (.int .i64 0) := cell_of_row _ _ 1 _ _ _ HXV.out
                      have z2 : V.cell? ⟨w.heap.size, 2, none⟩ = some (.slice none 0 0) := cell_of_row _ _ 2 _ _ _ HXV.out
                      have fz := box_fr HXV.out
                      obtain ⟨r0, r1, r2⟩ := put3 (.int .i64 0) (.int .i64 0) (.slice none 0 0) HXV.out
                      have HR0 := hid r0
                      have HR1 := hid r1
                      have HR2 := hid r2
                      clear r0 r1 r2
                      go_wp2_with fail
                      have q0 := HR0.out
                      have q1 := HR1.out
                      have q2 := HR2.out
                      refine bodyPost_ret (v := .tuple #[.agg #[.int .i64 0, .int .i64 0, .slice none 0 0], .int .i64 0, .int .i64 3]) (by simp [results, Try.results18, go_sem, q0, q1, q2]) rfl ?_
                      exact ⟨((HBV.out.setCell (p := ⟨w.heap.size, 0, none⟩) (Nat.le_refl _) _).setCell (p := ⟨w.heap.size, 1, none⟩) (Nat.le_refl _) _).setCell (p := ⟨w.heap.size, 2, none⟩) (Nat.le_refl _) _, .inr ⟨3, HE2.out, rfl⟩⟩
                    · have hdx : ((x : Int) == 0) = false := by rw [beq_eq_false_iff_ne]; omega
                      obtain ⟨P, hP⟩ : ∃ P, (D.drop 3).take m = P := ⟨_, rfl⟩
                      have hPl : P.length = m := by rw [← hP, List.length_take, List.length_drop, HDL.out]; have := HA7.out; omega
                      have hP8 : B8 P := by rw [← hP]; exact b8_take (b8_drop HD8.out 3) m
                      have HE2 : Hid (dR l = .ok ((x, N, P), k)) := hid (by rw [HE4.out, HTE.out, if_neg (by simp), if_neg (by rw [hg1, hz0]; simp; exact hx0), hg1, hP])
                      have hm3 : a3 - 3 = m := by have := HA3.out; omega
                      have hcap2 := byt_cap' HVV.out
                      have hsl3 : ∀ W : World, (Instr.slice 25 (.slice (some ⟨db, doff, none⟩) j sc) (some (.int .i64 3)) (some (.int .i64 (a3 : Int))) none).run Try.prog W = .ok (.slice (fromA (some ⟨db, doff, none⟩) sc 3) m (sc - 3)) W := fun W => by
                        have h := run_slice_both (some ⟨db, doff, none⟩) j sc 3 a3 (by have := HA3.out; omega) (by omega) W
                        rw [hm3] at h
                        exact h
                      obtain ⟨ad3, had3⟩ : ∃ ad, fromA (some ⟨db, doff, none⟩) sc 3 = some ad := by unfold fromA; split <;> exact ⟨_, rfl⟩
                      have hbp := byt_upto (byt_from (by rw [HDL.out]; exact HVV.out) (k := 3) (by rw [HDL.out]; omega)) m
                      rw [hP, hPl, had3] at hbp
                      rw [had3] at hsl3
                      have HBP := hid hbp
                      have HPL := hid hPl
                      have HP8 := hid hP8
                      have hown0 := World.ownsRow_nil V V.heap.size 5 1
                      have HON := hid hown0
                      clear hx hg1 hcellD hz0 hP hPl hP8 hbp had3 hown0
                      go_wp2_with (first | (at_builtin; refine append_byt rfl (.tmp 90) (.tmp 94) rfl V.heap.size (.slice none 0 0) 0 [] rfl HON.out P _ rfl HBP.out (nilOk_some _ _ _) (by rw [HPL.out]; omega) (Nat.le_refl _) ?_; intro v12 w12 ho12 hg12; have hb12 := below_own (Below.refl V.heap.size V) HON.out hg12 (Nat.le_refl _) (Nat.le_refl _); have HX12 := hid ((hb12.block w.heap.size (box_lt HXV.out)).trans HXV.out); have HB12 := hid (HBV.out.trans (hb12.mono HBV.out.size)); have hvv := HVV.out.below hb12; have hc12 : w12.cell? ⟨db, doff, none⟩ = some (.int .u8 (x : Int)) := (by obtain ⟨db', doff', he', _, hcell'⟩ := byt_at hvv (by rw [HDL.out]; omega); injection he' with he'; injection he' with e1 e2; subst e1; subst e2; have h := hcell' 0 x HX0.out; rw [Nat.add_zero] at h; exact h); obtain ⟨pA, pc, rfl⟩ := own_form ho12; rw [Nat.zero_add, HPL.out, List.nil_append] at ho12; have HO12 := hid ho12; have z0 := cell_of_row _ _ 0 _ _ _ HX12.out; have z1 := cell_of_row _ _ 1 _ _ _ HX12.out; have z2 := cell_of_row _ _ 2 _ _ _ HX12.out; have fz := box_fr HX12.out; have hzV := HBV.out.size; clear ho12 hg12 hb12 hvv) | fail)
                      obtain ⟨q0, q1, q2⟩ := put3 (.int .i64 (x : Int)) (.int .i64 (N : Int)) (.slice pA P.length pc) HX12.out
                      refine bodyPost_ret (v := .tuple #[.agg #[.int .i64 (x : Int), .int .i64 (N : Int), .slice pA P.length pc], .int .i64 (k : Int), .int .i64 0]) (by simp [results, Try.results18, go_sem, q0, q1, q2]) rfl ?_
                      have hu := (((Upd.refl w.heap.size w12).set 0 (.int .i64 (x : Int))).set 1 (.int .i64 (N : Int))).set 2 (.slice pA P.length pc)
                      have hok := own_keep HO12.out (keep_updc hu HX12.out (by decide))
                      rw [← HPL.out] at hok
                      exact ⟨((HB12.out.setCell (p := ⟨w.heap.size, 0, none⟩) (Nat.le_refl _) _).setCell (p := ⟨w.heap.size, 1, none⟩) (Nat.le_refl _) _).setCell (p := ⟨w.heap.size, 2, none⟩) (Nat.le_refl _) _, .inl ⟨(x, N, P), k, _, HE2.out, rfl, own_base hok hzV, HP8.out⟩⟩
              · have hdT : ((T : Int) != (S : Int)) = true := by rw [bne_iff_ne]; omega
                have HE2 : Hid (dR l = .error 9) := hid (by rw [HE4.out, HTE.out, if_pos hTS])
                have z0 : V.cell? ⟨w.heap.size, 0, none⟩ = some (.int .i64 0) := cell_of_row _ _ 0 _ _ _ HXV.out
                have z1 : V.cell? ⟨w.heap.size, 1, none⟩ = some (.int .i64 0) := cell_of_row _ _ 1 _ _ _ HXV.out
                have z2 : V.cell? ⟨w.heap.size, 2, none⟩ = some (.slice none 0 0) := cell_of_row _ _ 2 _ _ _ HXV.out
                have fz := box_fr HXV.out
                obtain ⟨r0, r1, r2⟩ := put3 (.int .i64 0) (.int .i64 0) (.slice none 0 0) HXV.out
                have HR0 := hid r0
                have HR1 := hid r1
                have HR2 := hid r2
                clear r0 r1 r2
                go_wp2_with fail
                have q0 := HR0.out
                have q1 := HR1.out
                have q2 := HR2.out
                refine bodyPost_ret (v := .tuple #[.agg #[.int .i64 0, .int .i64 0, .slice none 0 0], .int .i64 0, .int .i64 9]) (by simp [results, Try.results18, go_sem, q0, q1, q2]) rfl ?_
                exact ⟨((HBV.out.setCell (p := ⟨w.heap.size, 0, none⟩) (Nat.le_refl _) _).setCell (p := ⟨w.heap.size, 1, none⟩) (Nat.le_refl _) _).setCell (p := ⟨w.heap.size, 2, none⟩) (Nat.le_refl _) _, .inr ⟨9, HE2.out, rfl⟩⟩
end Go.Proofs.Ytcmmkeadbedooaa
