/- The law EventqueueCancels. -/
import Derived.Test.YtjpfogdfgcfkcaaRc
import Derived.Test.YtjpfogdfgcfkcaaSa
import Derived.Test.YtjpfogdfgcfkcaaSb
namespace Go.Proofs.Ytjpfogdfgcfkcaa
open Go.RowKit Go.Lib

theorem tms_le {l : List Nat} {t : Int} (h : t ∈ tmsL l) : t ≤ 100 := by
  unfold tmsL at h
  obtain ⟨x, _, rfl⟩ := List.mem_map.1 h
  omega

set_option maxHeartbeats 4000000 in
set_option maxRecDepth 100000 in
theorem cancels_walk (l : List Nat) (ni : Int) (v : Value) (w : World) (hv : UL w v l) (hni : (Lit.int .u8 ni).wf = true) :
    Calls Try.prog 8 #[v, .int .u8 ni] w fun e w' => e = .returned (.bool true) ∧ Below w.heap.size w w' := by
  have hb := bounds_u8 hni
  obtain ⟨y, rfl⟩ := Int.eq_ofNat_of_zero_le hb.1
  have hy : y < 256 := by omega
  have hwn : IntKind.i64.wrap (y : Int) = (y : Int) := by rw [IntKind.wrap_i64]; omega
  have HTM := hid (fun (X : World) (hX : Below w.heap.size w X) => times_any l v X (hv.below hX))
  obtain ⟨T, hT⟩ : ∃ T, tmsL l = T := ⟨_, rfl⟩
  have hT30 : T.length ≤ 30 := by rw [← hT]; exact tms_len l
  have hTok : ∀ t ∈ T, 0 ≤ t ∧ t ≤ 1073741824 := by rw [← hT]; exact fun t => tms_ok
  have hT100 : ∀ t ∈ T, t ≤ 100 := by rw [← hT]; exact fun t => tms_le
  rw [hT] at HTM
  obtain ⟨n, hn⟩ : ∃ n, T.length = n := ⟨_, rfl⟩
  obtain ⟨L, hL1, hL2, hL3, _, hL5, hL6⟩ := adds_more T [] 0 good_nil rfl (by omega) hTok
  rw [Nat.zero_add, hn] at hL1 hL2 hL3 hL5
  rw [hn] at HTM hT30
  have hL100 : ∀ e ∈ L, e.1 ≤ 100 := fun e he => (hL6 e he).elim (fun h => by cases h) (hT100 _)
  have HL1 := hid hL1
  have HL2 := hid hL2
  have HL5 := hid hL5
  have HL100 := hid hL100
  have HN := hid hn
  have HLEN := hid hL3
  obtain ⟨A, c, rfl⟩ := ul_form hv
  obtain ⟨N, hN⟩ : ∃ N, l.length = N := ⟨_, rfl⟩
  rw [hN] at HTM ⊢
  clear hv hni hb hT hTok hT100 hn hL1 hL2 hL3 hL5 hL6 hL100 hN
  go_enter Try.func8, Try.ntmps8
  go_wp2_with fail
  refine (HTM.out w (Below.refl _ _)).mono ?_
  rintro e w1 ⟨tA, tc, rfl, hil1, hb1⟩
  have HAD := hid (added_any T _ w1 hil1 (by rw [HN.out]; omega))
  have HB1 := hid hb1
  clear hil1 hb1 HTM
  go_wp2_with fail
  refine HAD.out.mono ?_
  rintro e w2 ⟨q, rfl, hq⟩
  rw [HL1.out] at hq ⊢
  dsimp only at hq ⊢
  obtain ⟨A2, c2, vs2, rfl, ho2, hb2⟩ := own_of_qu hq
  rw [HLEN.out] at ho2 ⊢
  obtain ⟨W3, hW3⟩ : ∃ W3, w2.alloc (.cells #[.slice A2 n c2, .int .i64 (n : Int)] 24) = W3 := ⟨_, rfl⟩
  obtain ⟨g6, hg6⟩ : ∃ g, w2.heap.size = g := ⟨_, rfl⟩
  have hb3 : Below w2.heap.size w2 W3 := by rw [← hW3]; exact al1 _ _
  have HX3 : Hid (W3.heap[g6]? = some (.cells #[.slice A2 n c2, .int .i64 (n : Int)] 24)) := hid (by rw [← hW3, ← hg6]; exact heap_alloc_new _ _)
  have HO3 := hid (ho2.below hb3)
  have HB3 := hid (HB1.out.trans ((hb2.trans (hb3.mono hb2.size)).mono HB1.out.size))
  have HW3 := hid hW3
  have HG6 := hid hg6
  clear hq ho2 hb2 hW3 hb3 hg6 HAD
  by_cases hn0 : n = 0
  · have d0 : ((n : Int) == 0) = true := by rw [beq_iff_eq]; omega
    clear hn0
    go_wp2_with fail
    rw [HW3.out]
    refine (awake_any W3).mono ?_
    rintro e w4 ⟨rfl, hb4⟩
    have HB4 := hid (HB3.out.trans (hb4.mono HB3.out.size))
    clear hb4
    go_wp2
    go_ret
    exact ⟨rfl, HB4.out⟩
  have d0 : ((n : Int) == 0) = false := by rw [beq_eq_false_iff_ne]; omega
  obtain ⟨kn, hkn⟩ : ∃ k, k + 1 = n := ⟨n - 1, by omega⟩
  obtain ⟨m, hm⟩ : ∃ m, y % n = m := ⟨_, rfl⟩
  have hmn : m < n := by rw [← hm]; exact Nat.mod_lt _ (by omega)
  have htm : Int.tmod (y : Int) (n : Int) = (m : Int) := by rw [← hm, Int.tmod_eq_emod_of_nonneg (by omega)]; omega
  have hwm : IntKind.i64.wrap (m : Int) = (m : Int) := by rw [IntKind.wrap_i64]; omega
  have hwk : IntKind.i64.wrap ((n : Int) - 1) = (kn : Int) := by rw [IntKind.wrap_i64]; omega
  obtain ⟨e0, he0, hen⟩ := HL5.out m (by omega) hmn
  obtain ⟨r, hr, hc1, hg1, hc2, hsub, huniq⟩ := cancel_good HL2.out he0 hen
  have hwa := fun i (h : i ≠ r) => without_at hr h
  have hKl := without_len hr
  rw [HLEN.out] at hr hKl
  obtain ⟨K, hK⟩ : ∃ K, L.take r ++ L.drop (r + 1) = K := ⟨_, rfl⟩
  rw [hK] at hc1 hg1 hc2 hsub hwa hKl
  have hKl' : K.length = kn := by omega
  have HK100 := hid (fun e (he : e ∈ K) => HL100.out e (hsub.subset he))
  have HKL := hid hKl'
  have HWA := hid hwa
  have HUN := hid huniq
  have HGK := hid hg1
  have HC2 := hid hc2
  have HKN := hid hkn
  have hcn := cancel_any vs2 (.slice A2 n c2) (n : Int) (m : Int) W3 HO3.out.el (HO3.out.all (P := fun e => R64 e.2.1) HL2.out.r64) (by rw [HO3.out.2.1]; omega) (HO3.out.all (P := fun e => e.2.2.2.2.length ≤ 100000) HL2.out.body)
  rw [HO3.out.2.2.1, hc1] at hcn
  have HCN := hid hcn
  have x0 : (w2.alloc (.cells #[.slice A2 n c2, .int .i64 (n : Int)] 24)).cell? ⟨w2.heap.size, 0, none⟩ = some (.slice A2 n c2) := cell_of_row _ _ 0 _ _ _ (heap_alloc_new w2 _)
  have x1 : (w2.alloc (.cells #[.slice A2 n c2, .int .i64 (n : Int)] 24)).cell? ⟨w2.heap.size, 1, none⟩ = some (.int .i64 (n : Int)) := cell_of_row _ _ 1 _ _ _ (heap_alloc_new w2 _)
  clear hn0 hm hkn he0 hen hc1 hg1 hc2 hsub huniq hwa hKl hK hKl' hcn HL5
  go_wp2_with fail
  rw [HW3.out]
  refine HCN.out.mono ?_
  rintro e w4 ⟨q, rfl, hq⟩
  dsimp only at hq ⊢
  obtain ⟨A4, c4, vs4, rfl, ho4, hb4⟩ := own_of_qu hq
  rw [HKL.out] at ho4 ⊢
  obtain ⟨W5, hW5⟩ : ∃ W5, w4.alloc (.cells #[.slice A4 kn c4, .int .i64 (n : Int)] 24) = W5 := ⟨_, rfl⟩
  obtain ⟨g9, hg9⟩ : ∃ g, w4.heap.size = g := ⟨_, rfl⟩
  have hb5 : Below w4.heap.size w4 W5 := by rw [← hW5]; exact al1 _ _
  have hb35 := hb4.trans (hb5.mono hb4.size)
  have HX5 : Hid (W5.heap[g9]? = some (.cells #[.slice A4 kn c4, .int .i64 (n : Int)] 24)) := hid (by rw [← hW5, ← hg9]; exact heap_alloc_new _ _)
  have HY5 := hid ((hb35.block _ (box_lt HX3.out)).trans HX3.out)
  have HO5 := hid (HO3.out.below hb35)
  have HR5 := hid (ho4.below hb5)
  have HB5 := hid (HB3.out.trans (hb35.mono HB3.out.size))
  have HW5 := hid hW5
  have HG9 := hid hg9
  have x0 : (w4.alloc (.cells #[.slice A4 kn c4, .int .i64 (n : Int)] 24)).cell? ⟨w4.heap.size, 0, none⟩ = some (.slice A4 kn c4) := cell_of_row _ _ 0 _ _ _ (heap_alloc_new w4 _)
  have x1 : (w4.alloc (.cells #[.slice A4 kn c4, .int .i64 (n : Int)] 24)).cell? ⟨w4.heap.size, 1, none⟩ = some (.int .i64 (n : Int)) := cell_of_row _ _ 1 _ _ _ (heap_alloc_new w4 _)
  have hcn := cancel_any vs4 (.slice A4 kn c4) (n : Int) (m : Int) W5 HR5.out.el (HR5.out.all (P := fun e => R64 e.2.1) HGK.out.r64) (by rw [HR5.out.2.1]; have := HKN.out; omega) (HR5.out.all (P := fun e => e.2.2.2.2.length ≤ 100000) HGK.out.body)
  rw [HR5.out.2.2.1, HC2.out] at hcn
  have HCN2 := hid hcn
  clear hq ho4 hb4 hb5 hb35 hcn HCN hW5 hg9
  go_wp2_with fail
  rw [HW5.out]
  refine HCN2.out.mono ?_
  rintro e w6 ⟨q, rfl, hq⟩
  dsimp only at hq ⊢
  obtain ⟨A6, c6, vs6, rfl, ho6, hb6⟩ := own_of_qu hq
  rw [HKL.out] at ho6 ⊢
  obtain ⟨W7, hW7⟩ : ∃ W7, w6.alloc (.cells #[.slice A6 kn c6, .int .i64 (n : Int)] 24) = W7 := ⟨_, rfl⟩
  have hb7 : Below w6.heap.size w6 W7 := by rw [← hW7]; exact al1 _ _
  have hb57 := hb6.trans (hb7.mono hb6.size)
  have HX7 := hid ((hb57.block _ (box_lt HX5.out)).trans HX5.out)
  have HY7 := hid ((hb57.block _ (box_lt HY5.out)).trans HY5.out)
  have HO7 := hid (HO5.out.below hb57)
  have HR7 := hid (HR5.out.below hb57)
  have HB7 := hid (HB5.out.trans (hb57.mono HB5.out.size))
  have HW7 := hid hW7
  have dnn : ((kn : Int) != (kn : Int)) = false := by simp
  have x9 : (w6.alloc (.cells #[.slice A6 kn c6, .int .i64 (n : Int)] 24)).cell? ⟨w4.heap.size, 0, none⟩ = some (.slice A4 kn c4) := by rw [hW7, HG9.out]; exact cell_of_row _ _ 0 _ _ _ HX7.out
  have y0 : (w6.alloc (.cells #[.slice A6 kn c6, .int .i64 (n : Int)] 24)).cell? ⟨w2.heap.size, 0, none⟩ = some (.slice A2 n c2) := by rw [hW7, HG6.out]; exact cell_of_row _ _ 0 _ _ _ HY7.out
  have y1 : (w6.alloc (.cells #[.slice A6 kn c6, .int .i64 (n : Int)] 24)).cell? ⟨w2.heap.size, 1, none⟩ = some (.int .i64 (n : Int)) := by rw [hW7, HG6.out]; exact cell_of_row _ _ 1 _ _ _ HY7.out
  have hdu := due_any vs2 (.slice A2 n c2) (n : Int) 100 W7 HO7.out.el (HO7.out.all (P := fun e => R64 e.2.1) HL2.out.r64) (by rw [HO7.out.2.1]; omega) (HO7.out.all (P := fun e => e.2.2.2.2.length ≤ 100000) HL2.out.body)
  rw [HO7.out.2.2.1, dueN_all HL2.out HL100.out, List.take_length] at hdu
  have HDU := hid hdu
  clear hq ho6 hb6 hb7 hb57 hdu HCN2 hW7 x0 x1
  go_wp2_with fail
  rw [HW7.out]
  refine HDU.out.mono ?_
  rintro e w8 ⟨q, va, vsa, rfl, hq, hoa, hca, hpa⟩
  obtain ⟨A8, c8, vs8, rfl, ho8, hb8⟩ := own_of_qu hq
  obtain ⟨z8, hz8⟩ : ∃ z, (L.drop L.length).length = z := ⟨_, rfl⟩
  rw [hz8]
  have hla : vsa.length = n := by rw [← HLEN.out, ← hca, List.length_map]
  rw [hla] at hoa
  obtain ⟨aA, ac, rfl⟩ := own_form32 hoa
  obtain ⟨W9, hW9⟩ : ∃ W9, w8.alloc (.cells #[.slice A8 z8 c8, .int .i64 (n : Int)] 24) = W9 := ⟨_, rfl⟩
  have hb9 : Below w8.heap.size w8 W9 := by rw [← hW9]; exact al1 _ _
  have hb79 := hb8.trans (hb9.mono hb8.size)
  have hel : EL w8 (.slice aA n ac) vsa := el_of_own hoa hla hpa
  have HE9 := hid (hel.below hb9)
  have HCA := hid hca
  have HLA := hid hla
  have HX9 := hid ((hb79.block _ (box_lt HX7.out)).trans HX7.out)
  have HR9 := hid (HR7.out.below hb79)
  have HB9 := hid (HB7.out.trans (hb79.mono HB7.out.size))
  have HW9 := hid hW9
  have x0 : (w8.alloc (.cells #[.slice A8 z8 c8, .int .i64 (n : Int)] 24)).cell? ⟨w4.heap.size, 0, none⟩ = some (.slice A4 kn c4) := by rw [hW9, HG9.out]; exact cell_of_row _ _ 0 _ _ _ HX9.out
  have x1 : (w8.alloc (.cells #[.slice A8 z8 c8, .int .i64 (n : Int)] 24)).cell? ⟨w4.heap.size, 1, none⟩ = some (.int .i64 (n : Int)) := by rw [hW9, HG9.out]; exact cell_of_row _ _ 1 _ _ _ HX9.out
  have hdu := due_any vs4 (.slice A4 kn c4) (n : Int) 100 W9 HR9.out.el (HR9.out.all (P := fun e => R64 e.2.1) HGK.out.r64) (by rw [HR9.out.2.1]; have := HKN.out; omega) (HR9.out.all (P := fun e => e.2.2.2.2.length ≤ 100000) HGK.out.body)
  rw [HR9.out.2.2.1, dueN_all HGK.out HK100.out, List.take_length] at hdu
  have HDU2 := hid hdu
  clear hq hoa hca hpa ho8 hb8 hz8 hla hb9 hb79 hel hdu HDU hW9 x9 y0 y1
  go_wp2_with fail
  rw [HW9.out]
  refine HDU2.out.mono ?_
  rintro e w10 ⟨q, vb, vsb, rfl, hq, hob, hcb, hpb⟩
  obtain ⟨A10, c10, vs10, rfl, ho10, hb10⟩ := own_of_qu hq
  obtain ⟨z10, hz10⟩ : ∃ z, (K.drop K.length).length = z := ⟨_, rfl⟩
  rw [hz10]
  have hlb : vsb.length = kn := by rw [← HKL.out, ← hcb, List.length_map]
  rw [hlb] at hob
  obtain ⟨bA, bc, rfl⟩ := own_form32 hob
  obtain ⟨W, hW⟩ : ∃ W, w10.alloc (.cells #[.slice A10 z10 c10, .int .i64 (n : Int)] 24) = W := ⟨_, rfl⟩
  have hb11 : Below w10.heap.size w10 W := by rw [← hW]; exact al1 _ _
  have hb911 := hb10.trans (hb11.mono hb10.size)
  have hel : EL w10 (.slice bA kn bc) vsb := el_of_own hob hlb hpb
  have HEB := hid (hel.below hb11)
  have HEA := hid (HE9.out.below hb911)
  have HCB := hid hcb
  have HLB := hid hlb
  have HBW := hid (HB9.out.trans (hb911.mono HB9.out.size))
  have HW := hid hW
  clear hq hob hcb hpb ho10 hb10 hz10 hlb hb11 hb911 hel HDU2 hW x0 x1
  go_wp2_with fail
  rw [HW.out]
  go_loopw [17, 18] (fun av iv wr => ∃ k a : Nat, k ≤ n ∧ iv = .int .i64 (k : Int) ∧ av = .int .i64 (a : Int) ∧ Hid (a = if k ≤ r then k else k - 1) ∧ Hid (Below W.heap.size W wr)) (fun _ i _ => n - (Lib.intOf i).toNat)
  case atStart => exact ⟨0, 0, Nat.zero_le _, rfl, rfl, hid (by simp), hid (Below.refl _ _)⟩
  case round =>
    obtain ⟨k, a, hk, rfl, rfl, HA, HB⟩ := hrel
    have hak : a ≤ k := by rw [HA.out]; split <;> omega
    have HBA := hid (HBW.out.trans (HB.out.mono HBW.out.size))
    by_cases hkn : k < n
    · have hkn' : (k : Int) < (n : Int) := by omega
      obtain ⟨b, off, rfl, hbl, hc⟩ := el_cells HEA.out (by rw [HLA.out]; omega)
      obtain ⟨x, hx⟩ : ∃ x, vsa[k]? = some x := ⟨vsa[k]'(by rw [HLA.out]; exact hkn), List.getElem?_eq_getElem _⟩
      obtain ⟨p0, p1, p2, p3, p4⟩ := hc k x hx
      have hLx : L[k]? = some (core x) := by rw [← HCA.out, List.getElem?_map, hx]; rfl
      have hu := HUN.out k _ hLx
      have hxb := (HEA.out.1 x (List.mem_of_getElem? hx)).1
      have hsame : k ≠ r → ∃ z, vsb[a]? = some z ∧ core z = core x := fun hkr => by
        have h1 := HWA.out k hkr
        rw [hLx] at h1
        have h2 : a = if k < r then k else k - 1 := by rw [HA.out]; split <;> split <;> omega
        rw [← h2, ← HCB.out, List.getElem?_map] at h1
        rcases hz : vsb[a]? with _ | z
        · rw [hz] at h1; cases h1
        · rw [hz] at h1; injection h1 with h1; exact ⟨z, rfl, h1⟩
      have HSAME := hid hsame
      clear hc hLx hx hsame
      obtain ⟨xt, xn, xk, xo, xd, xp⟩ := x
      dsimp only at p0 p1 p2 p3 p4 hu hxb
      have hu' : xn = (m : Int) ↔ k = r := hu
      obtain ⟨xA, xc, rfl⟩ := byt_form hxb
      obtain ⟨xm, hxm⟩ : ∃ xm, xp.length = xm := ⟨_, rfl⟩
      rw [hxm] at p4 hxb
      have HK := hid (fun (X : World) (hX : Below W.heap.size W X) => And.intro ((hX.cell (p := ⟨b, off + k * 5, none⟩) hbl).trans p0) (And.intro ((hX.cell (p := ⟨b, off + k * 5 + 1, none⟩) hbl).trans p1) (And.intro ((hX.cell (p := ⟨b, off + k * 5 + 2, none⟩) hbl).trans p2) (And.intro ((hX.cell (p := ⟨b, off + k * 5 + 3, none⟩) hbl).trans p3) ((hX.cell (p := ⟨b, off + k * 5 + 4, none⟩) hbl).trans p4)))))
      clear p0 p1 p2 p3 p4 hu
      obtain ⟨p0, p1, p2, p3, p4⟩ := HK.out wr HB.out
      by_cases hkr : k = r
      · have dn : (xn == (m : Int)) = true := by rw [beq_iff_eq]; exact hu'.2 hkr
        have HA1 : Hid (a = if k + 1 ≤ r then k + 1 else k + 1 - 1) := hid (by rw [HA.out, if_pos (by omega), if_neg (by omega)]; omega)
        clear hu' hkr HSAME hxb
        go_wp2_with fail
        go_roundw
        case rel => exact ⟨k + 1, a, by omega, by go_num, rfl, HA1, HB⟩
        case measure => simp [Lib.intOf]; omega
      · have dn : (xn == (m : Int)) = false := by rw [beq_eq_false_iff_ne]; exact fun h => hkr (hu'.1 h)
        have HA1 : Hid (a + 1 = if k + 1 ≤ r then k + 1 else k + 1 - 1) := hid (by rw [HA.out]; split <;> split <;> omega)
        obtain ⟨z, hz, hzc⟩ := HSAME.out hkr
        have hakn : a < kn := by rw [← HLB.out]; exact (List.getElem?_eq_some_iff.1 hz).1
        have hakn' : (a : Int) < (kn : Int) := by omega
        have hge : decide ((kn : Int) ≤ (a : Int)) = false := decide_eq_false (by omega)
        have hge2 : decide (kn ≤ a) = false := decide_eq_false (by omega)
        obtain ⟨b2, off2, rfl, hbl2, hc2⟩ := el_cells HEB.out (by rw [HLB.out]; omega)
        obtain ⟨q0, q1, q2, q3, q4⟩ := hc2 a z hz
        have hzb := (HEB.out.1 z (List.mem_of_getElem? hz)).1
        obtain ⟨zt, zn, zk, zo, zd, zp⟩ := z
        dsimp only at q0 q1 q2 q3 q4 hzb
        obtain ⟨rfl, rfl, rfl, rfl, rfl⟩ : zt = xt ∧ zn = xn ∧ zk = xk ∧ zo = xo ∧ zp = xp := by
          have h := hzc
          unfold core at h
          simp only [Prod.mk.injEq] at h
          exact h
        obtain ⟨zA, zc, rfl⟩ := byt_form hzb
        rw [hxm] at q4 hzb
        have HK2 := hid (fun (X : World) (hX : Below W.heap.size W X) => And.intro ((hX.cell (p := ⟨b2, off2 + a * 5, none⟩) hbl2).trans q0) (And.intro ((hX.cell (p := ⟨b2, off2 + a * 5 + 1, none⟩) hbl2).trans q1) (And.intro ((hX.cell (p := ⟨b2, off2 + a * 5 + 2, none⟩) hbl2).trans q2) (And.intro ((hX.cell (p := ⟨b2, off2 + a * 5 + 3, none⟩) hbl2).trans q3) ((hX.cell (p := ⟨b2, off2 + a * 5 + 4, none⟩) hbl2).trans q4)))))
        have HS := hid (fun (X : World) (hX : Below W.heap.size W X) => sameEv_any zt zn zk zo zp _ _ X (hxb.below hX) (hzb.below hX))
        have hlt1 : b < wr.heap.size := Nat.lt_of_lt_of_le hbl HB.out.size
        have hlt2 : b2 < wr.heap.size := Nat.lt_of_lt_of_le hbl2 HB.out.size
        clear q0 q1 q2 q3 q4 hu' hkr HSAME hxb hzb hz hzc hc2 hxm
        obtain ⟨q0, q1, q2, q3, q4⟩ := HK2.out wr HB.out
        go_wp2_with fail
        go_region_held3 (fun X => X.cell? ⟨b, off + k * 5, none⟩ = some (.int .i64 zt) ∧ X.cell? ⟨b, off + k * 5 + 1, none⟩ = some (.int .i64 zn) ∧ X.cell? ⟨b, off + k * 5 + 2, none⟩ = some (.int .i64 zk) ∧ X.cell? ⟨b, off + k * 5 + 3, none⟩ = some (.int .i64 zo) ∧ X.cell? ⟨b, off + k * 5 + 4, none⟩ = some (.slice xA xm xc) ∧ X.cell? ⟨b2, off2 + a * 5, none⟩ = some (.int .i64 zt) ∧ X.cell? ⟨b2, off2 + a * 5 + 1, none⟩ = some (.int .i64 zn) ∧ X.cell? ⟨b2, off2 + a * 5 + 2, none⟩ = some (.int .i64 zk) ∧ X.cell? ⟨b2, off2 + a * 5 + 3, none⟩ = some (.int .i64 zo) ∧ X.cell? ⟨b2, off2 + a * 5 + 4, none⟩ = some (.slice zA xm zc)) (go_keep)
          (first | (go_at_call 19; refine (HS.out wr.drew (below_both_drewN HB.out 1)).mono ?_; rintro e w2 ⟨rfl, hb2'⟩; have hb3 : Below wr.heap.size wr w2 := ⟨hb2'.os, hb2'.tape, hb2'.output, hb2'.size, hb2'.block⟩; have HB2 := hid (HB.out.trans (hb3.mono HB.out.size)); obtain ⟨p0, p1, p2, p3, p4⟩ := HK.out w2 HB2.out; obtain ⟨q0, q1, q2, q3, q4⟩ := HK2.out w2 HB2.out; clear hb2' hb3))
        go_wp2_with fail
        go_roundw
        case rel => exact ⟨k + 1, a + 1, by omega, by go_num, by go_num, HA1, HB2⟩
        case measure => simp [Lib.intOf]; omega
    · obtain rfl : k = n := by omega
      have HAE : Hid (a = kn) := hid (by have h1 := HA.out; have h2 := HKN.out; rw [if_neg (by omega)] at h1; omega)
      obtain rfl := HAE.out
      have dkk : ((a : Int) == (a : Int)) = true := by simp
      go_wp2_with fail
      refine (awake_any wr).mono ?_
      rintro e wz ⟨rfl, hbz⟩
      have HBZ := hid (HBA.out.trans (hbz.mono HBA.out.size))
      clear hbz
      go_wp2
      go_ret
      exact ⟨rfl, HBZ.out⟩
end Go.Proofs.Ytjpfogdfgcfkcaa
