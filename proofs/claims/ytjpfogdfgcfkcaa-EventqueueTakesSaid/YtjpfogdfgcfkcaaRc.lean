/- The law EventqueueNumbers. -/
import Derived.Test.YtjpfogdfgcfkcaaV
namespace Go.Proofs.Ytjpfogdfgcfkcaa
open Go.RowKit Go.Lib

theorem tms_ok {l : List Nat} {t : Int} (h : t ∈ tmsL l) : 0 ≤ t ∧ t ≤ 1073741824 := by
  unfold tmsL at h
  obtain ⟨x, _, rfl⟩ := List.mem_map.1 h
  omega
theorem tms_len (l : List Nat) : (tmsL l).length ≤ 30 := by unfold tmsL; rw [List.length_map, List.length_take]; omega
theorem Good.r64 {l : List Ec} {next : Int} (h : Good l next) : ∀ e ∈ l, R64 e.2.1 := fun e he => by
  have h1 := fldC_ok (h.fld e he)
  have := h.high
  unfold R64
  omega
theorem Good.body {l : List Ec} {next : Int} (h : Good l next) : ∀ e ∈ l, e.2.2.2.2.length ≤ 100000 := fun e he => by
  have h1 := fldC_ok (h.fld e he)
  omega

set_option maxHeartbeats 4000000 in
set_option maxRecDepth 100000 in
theorem numbers_walk (l : List Nat) (ni : Int) (v : Value) (w : World) (hv : UL w v l) (hni : (Lit.int .u8 ni).wf = true) :
    Calls Try.prog 9 #[v, .int .u8 ni] w fun e w' => e = .returned (.bool true) ∧ Below w.heap.size w w' := by
  have hb := bounds_u8 hni
  have hwn : IntKind.i64.wrap ni = ni := by rw [IntKind.wrap_i64]; omega
  have HTM := hid (fun (X : World) (hX : Below w.heap.size w X) => times_any l v X (hv.below hX))
  obtain ⟨T, hT⟩ : ∃ T, tmsL l = T := ⟨_, rfl⟩
  have hT30 : T.length ≤ 30 := by rw [← hT]; exact tms_len l
  have hTok : ∀ t ∈ T, 0 ≤ t ∧ t ≤ 1073741824 := by rw [← hT]; exact fun t => tms_ok
  rw [hT] at HTM
  obtain ⟨n, hn⟩ : ∃ n, T.length = n := ⟨_, rfl⟩
  obtain ⟨L, hL1, hL2, hL3⟩ := adds_good T [] 0 good_nil rfl (by omega) hTok
  rw [Nat.zero_add, hn] at hL1 hL2 hL3
  rw [hn] at HTM hT30
  have HL1 := hid hL1
  have HL2 := hid hL2
  have HN := hid hn
  have HLEN := hid hL3
  obtain ⟨A, c, rfl⟩ := ul_form hv
  obtain ⟨N, hN⟩ : ∃ N, l.length = N := ⟨_, rfl⟩
  rw [hN] at HTM ⊢
  clear hv hni hb hT hTok hn hL1 hL2 hL3 hN
  go_enter Try.func9, Try.ntmps9
  go_wp2_with fail
  refine (HTM.out w (Below.refl _ _)).mono ?_
  rintro e w1 ⟨tA, tc, rfl, hil1, hb1⟩
  have HAD := hid (added_any T _ w1 hil1 (by rw [HN.out]; omega))
  have HB1 := hid hb1
  clear hil1 hb1
  go_wp2_with fail
  refine HAD.out.mono ?_
  rintro e w2 ⟨q, rfl, hq⟩
  rw [HL1.out] at hq ⊢
  dsimp only at hq ⊢
  obtain ⟨A2, c2, vs2, rfl, ho2, hb2⟩ := own_of_qu hq
  obtain ⟨m2, hm2⟩ : ∃ m, L.length = m := ⟨_, rfl⟩
  rw [hm2] at ho2 ⊢
  obtain ⟨W3, hW3⟩ : ∃ W3, w2.alloc (.cells #[.slice A2 m2 c2, .int .i64 (n : Int)] 24) = W3 := ⟨_, rfl⟩
  have hb3 : Below w2.heap.size w2 W3 := by rw [← hW3]; exact al1 _ _
  have ho3 := ho2.below hb3
  have hdu := due_any vs2 (.slice A2 m2 c2) (n : Int) ni W3 ho3.el (ho3.all (P := fun e => R64 e.2.1) HL2.out.r64) (by rw [ho3.2.1, ← hm2]; have := HL2.out.len; omega) (ho3.all (P := fun e => e.2.2.2.2.length ≤ 100000) HL2.out.body)
  rw [ho3.2.2.1] at hdu
  obtain ⟨m, hm⟩ : ∃ m, dueN L (n : Int) ni = m := ⟨_, rfl⟩
  rw [hm] at hdu
  have HDU := hid hdu
  have HB3 := hid (HB1.out.trans ((hb2.trans (hb3.mono hb2.size)).mono HB1.out.size))
  have HW3 := hid hW3
  have x0 : (w2.alloc (.cells #[.slice A2 m2 c2, .int .i64 (n : Int)] 24)).cell? ⟨w2.heap.size, 0, none⟩ = some (.slice A2 m2 c2) := cell_of_row _ _ 0 _ _ _ (heap_alloc_new w2 _)
  have x1 : (w2.alloc (.cells #[.slice A2 m2 c2, .int .i64 (n : Int)] 24)).cell? ⟨w2.heap.size, 1, none⟩ = some (.int .i64 (n : Int)) := cell_of_row _ _ 1 _ _ _ (heap_alloc_new w2 _)
  clear hq ho2 hb2 hm2 hW3 hb3 ho3 hdu hm HAD
  go_wp2_with fail
  rw [HW3.out]
  refine HDU.out.mono ?_
  rintro e w4 ⟨q, va, vsa, rfl, hq, hoa, hca, hpa⟩
  obtain ⟨A4, c4, vs4, rfl, ho4, hb4⟩ := own_of_qu hq
  have HG4 := hid (HL2.out.drop m)
  have HLL := HLEN.out
  obtain ⟨P, hP⟩ : ∃ P, L.drop m = P := ⟨_, rfl⟩
  have hPl : P.length ≤ 30 := by rw [← hP, List.length_drop, HLL]; omega
  rw [hP] at HG4 ho4 ⊢
  obtain ⟨hadd, hgood⟩ := HG4.out.ins (t := 7) (k := 1) (o := 2) (p := [3]) (by omega) (by omega) (by omega) (by omega) (by decide) (by omega) (by omega)
  obtain ⟨R, hR⟩ : ∃ R, insE P 7 (7, (n : Int), 1, 2, [3]) = R := ⟨_, rfl⟩
  rw [hR] at hadd hgood
  obtain ⟨m4, hm4⟩ : ∃ m, P.length = m := ⟨_, rfl⟩
  rw [hm4] at ho4 ⊢
  have hla : vsa.length = (L.take m).length := by rw [← hca, List.length_map]
  obtain ⟨na, hna⟩ : ∃ n, vsa.length = n := ⟨_, rfl⟩
  rw [hna] at hoa
  obtain ⟨aA, ac, rfl⟩ := own_form32 hoa
  obtain ⟨W5, hW5⟩ : ∃ W5, (w4.alloc (.cells #[.slice A4 m4 c4, .int .i64 (n : Int)] 24)).alloc (.cells #[.int .u8 3] 5) = W5 := ⟨_, rfl⟩
  have hb5 : Below w4.heap.size w4 W5 := by rw [← hW5]; exact ((Below.refl _ w4).alloc (Nat.le_refl _) _).alloc (by simp) _
  have hby : Byt W5 (.slice (some ⟨w4.heap.size + 1, 0, none⟩) 1 1) [3] := by
    have h := byt_one (w4.alloc (.cells #[.slice A4 m4 c4, .int .i64 (n : Int)] 24)) 3 (by decide)
    rw [← hW5]
    simpa using h
  have ho5 := ho4.below hb5
  have had := add_any vs4 (.slice A4 m4 c4) (n : Int) 7 1 2 (.slice (some ⟨w4.heap.size + 1, 0, none⟩) 1 1) [3] W5 ho5.el (ho5.all (P := fun e => R64 e.2.1) HG4.out.r64) hby (nilOk_some _ _ _)
  rw [ho5.2.2.1, hadd] at had
  have HADD := hid had
  have HGR := hid hgood
  have HB5 := hid (HB3.out.trans ((hb4.trans (hb5.mono hb4.size)).mono HB3.out.size))
  have HW5 := hid hW5
  have x0 : (w4.alloc (.cells #[.slice A4 m4 c4, .int .i64 (n : Int)] 24)).cell? ⟨w4.heap.size, 0, none⟩ = some (.slice A4 m4 c4) := cell_of_row _ _ 0 _ _ _ (heap_alloc_new w4 _)
  have x1 : (w4.alloc (.cells #[.slice A4 m4 c4, .int .i64 (n : Int)] 24)).cell? ⟨w4.heap.size, 1, none⟩ = some (.int .i64 (n : Int)) := cell_of_row _ _ 1 _ _ _ (heap_alloc_new w4 _)
  clear hq ho4 hb4 hm4 hW5 hb5 hby ho5 had hadd hgood hoa hca hpa hla hna hP hR HLL HDU
  go_wp2_with fail
  rw [HW5.out]
  refine HADD.out.mono ?_
  rintro e w6 (⟨er, he, _⟩ | ⟨R', q, he, rfl, hq⟩)
  · cases he
  · injection he with he
    subst he
    obtain ⟨A6, c6, vs6, rfl, ho6, hb6⟩ := own_of_qu hq
    obtain ⟨m6, hm6⟩ : ∃ m, R.length = m := ⟨_, rfl⟩
    rw [hm6] at ho6 ⊢
    obtain ⟨W7, hW7⟩ : ∃ W7, w6.alloc (.cells #[.slice A6 m6 c6, .int .i64 ((n : Int) + 1)] 24) = W7 := ⟨_, rfl⟩
    obtain ⟨h, hh⟩ : ∃ h, w6.heap.size = h := ⟨_, rfl⟩
    have hb7 : Below w6.heap.size w6 W7 := by rw [← hW7]; exact al1 _ _
    have hx7 : W7.heap[h]? = some (.cells #[.slice A6 m6 c6, .int .i64 ((n : Int) + 1)] 24) := by rw [← hW7, ← hh]; exact heap_alloc_new _ _
    have HO7 := hid (ho6.below hb7)
    have HB7 := hid (HB5.out.trans ((hb6.trans (hb7.mono hb6.size)).mono HB5.out.size))
    have HX7 := hid hx7
    have HW7 := hid hW7
    have HH := hid hh
    have HM6 := hid hm6
    clear hq ho6 hb6 hm6 hW7 hb7 hx7 hh HADD
    go_wp2_with fail
    rw [HW7.out, HH.out]
    refine (awake_any W7).mono ?_
    rintro e w8 ⟨rfl, hb8⟩
    have HO8 := hid (HO7.out.below hb8)
    have HX8 := hid ((hb8.block _ (box_lt HX7.out)).trans HX7.out)
    have HB8 := hid (HB7.out.trans (hb8.mono HB7.out.size))
    clear hb8
    go_wp2_with fail
    refine (HTM.out w8 HB8.out).mono ?_
    rintro e w9 ⟨tA9, tc9, rfl, _, hb9⟩
    have HO9 := hid (HO8.out.below hb9)
    have HX9 := hid ((hb9.block _ (box_lt HX8.out)).trans HX8.out)
    have HB9 := hid (HB8.out.trans (hb9.mono HB8.out.size))
    have x0 := cell_of_row _ _ 0 _ _ _ HX9.out
    have x1 := cell_of_row _ _ 1 _ _ _ HX9.out
    have dnn : ((n : Int) == (n : Int)) = true := by simp
    have dnn1 : (((n : Int) + 1) == ((n : Int) + 1)) = true := by simp
    have hwn1 : IntKind.i64.wrap ((n : Int) + 1) = (n : Int) + 1 := by rw [IntKind.wrap_i64]; omega
    have hck := check_any vs6 (.slice A6 m6 c6) ((n : Int) + 1) w9 HO9.out.el (HO9.out.all (P := fun e => R64 e.2.1) HGR.out.r64)
    rw [HO9.out.2.2.1, HGR.out.chk] at hck
    have HCK := hid hck
    clear hb9 hck
    go_wp2_with fail
    refine HCK.out.mono ?_
    rintro e w10 ⟨rfl, hb10⟩
    have HB10 := hid (HB9.out.trans (hb10.mono HB9.out.size))
    clear hb10
    go_wp2
    go_ret
    exact ⟨rfl, HB10.out⟩
end Go.Proofs.Ytjpfogdfgcfkcaa
