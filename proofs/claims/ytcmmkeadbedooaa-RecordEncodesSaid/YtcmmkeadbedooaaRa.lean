/- The reference's Encode. -/
import Derived.Test.YtcmmkeadbedooaaR2
namespace Go.Proofs.Ytcmmkeadbedooaa
open Go.RowKit Go.Lib

def sliceLen : Value → Nat
  | .slice _ n _ => n
  | _ => 0
theorem pad_of {M : Nat} {x : List Nat} {j : Nat} (h : x.length + j = M) : x ++ List.replicate j 0 = pad M x := by
  unfold pad; rw [show M - x.length = j by omega]
set_option maxHeartbeats 8000000 in
set_option maxRecDepth 100000 in
theorem rencode_any (k q : Int) (p : List Nat) (v : Value) (w : World) (hv : Byt w v p) (hnil : NilOk v) (hk1 : k < 9223372036854775808) (hq1 : q < 9223372036854775808) :
    Calls Try.prog 15 #[.agg #[.int .i64 k, .int .i64 q, v]] w (EncQ w (encS k q p)) := by
  obtain ⟨A, c, rfl⟩ := byt_form hv
  have hplen := byt_len hv
  obtain ⟨W, hW⟩ : ∃ W, w.alloc (.cells #[.int .i64 k, .int .i64 q, .slice A p.length c] 27) = W := ⟨_, rfl⟩
  have hbx : W.heap[w.heap.size]? = some (.cells #[.int .i64 k, .int .i64 q, .slice A p.length c] 27) := by rw [← hW]; exact heap_alloc_new _ _
  have hbW : Below w.heap.size w W := by rw [← hW]; exact al1 _ _
  have c0 : W.cell? ⟨w.heap.size, 0, none⟩ = some (.int .i64 k) := cell_of_row _ _ 0 _ _ _ hbx
  have c1 : W.cell? ⟨w.heap.size, 1, none⟩ = some (.int .i64 q) := cell_of_row _ _ 1 _ _ _ hbx
  have c2 : W.cell? ⟨w.heap.size, 2, none⟩ = some (.slice A p.length c) := cell_of_row _ _ 2 _ _ _ hbx
  have HBX := hid hbx
  have HBW := hid hbW
  have HV := hid hv
  have HW := hid hW
  clear hbx hbW hv hW
  by_cases h0 : k < 1
  · have d0 : decide (k < 1) = true := decide_eq_true h0
    have HE : Hid (encS k q p = .error 2) := hid (by unfold encS; rw [if_pos (.inl h0)])
    go_enter Try.func15, Try.ntmps15
    go_wp2
    refine bodyPost_ret (v := .tuple #[.slice none 0 0, .int .i64 2]) (by simp [results, Try.results15, go_sem]) rfl ?_
    exact ⟨by rw [HW.out]; exact HBW.out, .inr ⟨2, HE.out, rfl⟩⟩
  have d0 : decide (k < 1) = false := decide_eq_false h0
  by_cases h1 : 255 < k
  · have d1 : decide (255 < k) = true := decide_eq_true h1
    have HE : Hid (encS k q p = .error 2) := hid (by unfold encS; rw [if_pos (.inr (.inl h1))])
    go_enter Try.func15, Try.ntmps15
    go_wp2
    refine bodyPost_ret (v := .tuple #[.slice none 0 0, .int .i64 2]) (by simp [results, Try.results15, go_sem]) rfl ?_
    exact ⟨by rw [HW.out]; exact HBW.out, .inr ⟨2, HE.out, rfl⟩⟩
  have d1 : decide (255 < k) = false := decide_eq_false h1
  by_cases h2 : q < 1
  · have d2 : decide (q < 1) = true := decide_eq_true h2
    have HE : Hid (encS k q p = .error 2) := hid (by unfold encS; rw [if_pos (.inr (.inr (.inl h2)))])
    go_enter Try.func15, Try.ntmps15
    go_wp2
    refine bodyPost_ret (v := .tuple #[.slice none 0 0, .int .i64 2]) (by simp [results, Try.results15, go_sem]) rfl ?_
    exact ⟨by rw [HW.out]; exact HBW.out, .inr ⟨2, HE.out, rfl⟩⟩
  have d2 : decide (q < 1) = false := decide_eq_false h2
  by_cases h3 : 4294967295 < q
  · have d3 : decide (4294967295 < q) = true := decide_eq_true h3
    have HE : Hid (encS k q p = .error 2) := hid (by unfold encS; rw [if_pos (.inr (.inr (.inr h3)))])
    go_enter Try.func15, Try.ntmps15
    go_wp2
    refine bodyPost_ret (v := .tuple #[.slice none 0 0, .int .i64 2]) (by simp [results, Try.results15, go_sem]) rfl ?_
    exact ⟨by rw [HW.out]; exact HBW.out, .inr ⟨2, HE.out, rfl⟩⟩
  have d3 : decide (4294967295 < q) = false := decide_eq_false h3
  by_cases h4 : 4096 < p.length
  · have d4 : decide ((4096 : Int) < (p.length : Int)) = true := decide_eq_true (by omega)
    have HE : Hid (encS k q p = .error 5) := hid (by unfold encS; rw [if_neg (by omega), if_pos h4])
    go_enter Try.func15, Try.ntmps15
    go_wp2
    refine bodyPost_ret (v := .tuple #[.slice none 0 0, .int .i64 5]) (by simp [results, Try.results15, go_sem]) rfl ?_
    exact ⟨by rw [HW.out]; exact HBW.out, .inr ⟨5, HE.out, rfl⟩⟩
  have d4 : decide ((4096 : Int) < (p.length : Int)) = false := decide_eq_false (by omega)
  obtain ⟨kn, rfl⟩ : ∃ kn : Nat, k = kn := ⟨k.toNat, by omega⟩
  obtain ⟨qn, rfl⟩ : ∃ qn : Nat, q = qn := ⟨q.toNat, by omega⟩
  have HE : Hid (encS kn qn p = .ok (encR kn qn p)) := hid (by unfold encS; rw [if_neg (by omega), if_neg (by omega)]; rfl)
  obtain ⟨L, hL⟩ : ∃ L, p.length = L := ⟨_, rfl⟩
  have HLL := hid hL
  rw [hL] at h4 d4 c2 HBX HV HW hplen hnil ⊢
  clear hL
  obtain ⟨N, hN⟩ : ∃ N, size L = N := ⟨_, rfl⟩
  have hNs : 7 + L ≤ 4 * N ∧ 4 * N < 7 + L + 4 ∧ N ≤ 1100 := by rw [← hN]; unfold size; omega
  have HNN := hid hN
  have HNS := hid hNs
  have HNIL := hid hnil
  have HK := hid (show 0 < kn ∧ kn < 256 ∧ 0 < qn ∧ qn < 4294967296 ∧ L ≤ 4096 by omega)
  have HV8 := hid HV.out.1
  obtain ⟨B, hB⟩ : ∃ B, W.heap.size = B := ⟨_, rfl⟩
  have hxB : w.heap.size < B := by rw [← hB]; exact box_lt HBX.out
  have HP1 := hid (rput_any kn 1 B [] (.slice none 0 0) W (World.ownsRow_nil _ _ _ _) (by omega) (by omega) (by omega) (by simp))
  clear hN hNs h0 h1 h2 h3 h4 hk1 hq1 hplen hnil
  have HBE := hid hB
  clear hB
  go_enter Try.func15, Try.ntmps15
  go_wp2_with fail
  rw [HW.out]
  refine HP1.out.mono ?_
  rintro e w1 ⟨A1, c1', rfl, ho1, hb1⟩
  rw [show ([] : List Nat).length + 1 = 1 from rfl] at ho1 ⊢
  rw [List.nil_append] at ho1
  have hx1 := (hb1.block w.heap.size hxB).trans HBX.out
  have c2 : w1.cell? ⟨w.heap.size, 2, none⟩ = some (.slice A L c) := cell_of_row _ _ 2 _ _ _ hx1
  have HP2 := hid (rput_any L 2 B (le 1 kn) (.slice A1 1 c1') w1 (by rw [le_length]; exact ho1) (by have := hb1.size; have := HBE.out; omega) (by have := HK.out; omega) (by omega) (by rw [le_length]; omega))
  rw [le_length, show 1 + 2 = 3 from rfl] at HP2
  have HB1 := hid hb1
  clear ho1 hb1 hx1 c0 c1 HP1
  go_wp2_with fail
  refine HP2.out.mono ?_
  rintro e w2 ⟨A2, c2', rfl, ho2, hb2⟩
  have HB2 := hid (HB1.out.trans hb2)
  have hx2 := (HB2.out.block w.heap.size hxB).trans HBX.out
  have c2 : w2.cell? ⟨w.heap.size, 2, none⟩ = some (.slice A L c) := cell_of_row _ _ 2 _ _ _ hx2
  have hBs2 : B ≤ w2.heap.size := by have := HB2.out.size; have := HBE.out; omega
  have HO2 := hid ho2
  have HV2 : Hid (Byt w2 (.slice A L c) p) := hid (HV.out.below (HBW.out.trans (HB2.out.mono (by omega))))
  clear ho2 hb2 hx2 HB1 HP2
  go_wp2_with (first | (at_builtin; refine append_byt rfl (.tmp 40) (.tmp 42) rfl B (.slice A2 3 c2') 3 _ rfl HO2.out p _ rfl HV2.out HNIL.out (by rw [HLL.out]; have := HK.out; omega) hBs2 ?_; intro v3 w3 ho3 hg3; have HB3 := hid (below_own HB2.out HO2.out hg3 hBs2 (Nat.le_refl _)); obtain ⟨A3, c3', rfl⟩ := own_form ho3; rw [HLL.out] at ho3; have HO3 := hid ho3; rw [HLL.out]; clear ho3 hg3) | fail)
  have hst : le 1 kn ++ le 2 L ++ p = stm kn p := by unfold stm; rw [HLL.out, List.append_assoc]
  have hb8 : B8 (stm kn p) := b8_stm HV8.out
  have ho3 := HO3.out
  rw [← List.map_append, hst] at ho3
  have hv3 := byt_of_own ho3 hb8
  have HS3 := hid (rsum_any _ _ w3 hv3)
  obtain ⟨S, hS⟩ : ∃ S, sum0 (stm kn p) = S := ⟨_, rfl⟩
  have hS32 : S < 4294967296 := by have := sum0_lt' (l := stm kn p) hb8; omega
  have hsl : (stm kn p).length = 3 + L := by rw [stm_len, HLL.out]
  rw [hS] at HS3
  have hwS : IntKind.i64.wrap (S : Int) = (S : Int) := wrap64_nat (by omega)
  have HP4 := hid (rput_any S 4 B (stm kn p) (.slice A3 (3 + L) c3') w3 (by rw [hsl]; exact ho3) (by have := HB3.out.size; have := HBE.out; omega) (by omega) (by omega) (by rw [hsl]; have := HK.out; omega))
  rw [hsl, show stm kn p ++ le 4 S = ful kn p by unfold ful; rw [hS], show 3 + L + 4 = 7 + L by omega] at HP4
  clear ho3 hv3 hS hst hb8 HO2 HO3 HV2 HB2 c2
  go_wp2_with fail
  refine HS3.out.mono ?_
  rintro e w' ⟨rfl, rfl⟩
  go_wp2_with fail
  refine HP4.out.mono ?_
  rintro e w4 ⟨A4, c4', rfl, ho4, hb4⟩
  have HB4 := hid (HB3.out.trans hb4)
  have HO4 := hid ho4
  obtain ⟨F, hF⟩ : ∃ F, ful kn p = F := ⟨_, rfl⟩
  rw [hF] at HO4
  have HFE := hid hF
  have HF8 := hid (show B8 F by rw [← hF]; exact b8_ful HV8.out)
  have HFL := hid (show F.length = 7 + L by rw [← hF, ful_len, HLL.out])
  clear ho4 hb4 hF HP4 HS3 HB3 hsl hS32 hwS
  go_wp2_with fail
  go_loopw [4] (fun v wr => ∃ (j : Nat) (A : Option Addr) (c : Nat), 7 + L + j ≤ 4 * N ∧ v = .slice A (7 + L + j) c ∧ Hid (wr.ownsRow B 5 1 (.slice A (7 + L + j) c) (7 + L + j) ((F ++ List.replicate j 0).map byteV)) ∧ Hid (Below B W wr)) (fun v _ => 4 * N - sliceLen v)
  case atStart => exact ⟨0, A4, c4', by have := HNS.out; omega, rfl, hid (by rw [List.replicate_zero, List.append_nil]; exact HO4.out), HB4⟩
  case round =>
    clear HO4 HB4
    obtain ⟨j, A5, c5, hj, rfl, HO, HB⟩ := hrel
    have hBs : B ≤ wr.heap.size := by have := HB.out.size; have := HBE.out; omega
    by_cases hjN : 7 + L + j = 4 * N
    · rw [hjN] at HO ⊢
      have hpe : F ++ List.replicate j 0 = pad (4 * N) F := pad_of (by rw [HFL.out]; exact hjN)
      have ho := HO.out
      rw [hpe] at ho
      obtain ⟨P, hP⟩ : ∃ P, pad (4 * N) F = P := ⟨_, rfl⟩
      have hP8 : B8 P := by rw [← hP]; exact b8_pad HF8.out
      have hPl : P.length = 4 * N := by rw [← hP]; exact pad_len (by rw [HFL.out]; omega)
      rw [hP] at ho
      obtain ⟨M, hM⟩ : ∃ M, 4 * N = M := ⟨_, rfl⟩
      rw [hM] at ho hPl ⊢
      have htm : Int.tmod (M : Int) 4 = ((0 : Nat) : Int) := by rw [Int.tmod_eq_emod_of_nonneg (by omega)]; omega
      have htm' : Int.tmod (M : Int) 4 = 0 := htm
      have hM2 : M ≤ 4400 := by have := HNS.out; omega
      have HOS := hid ho
      have HP8 := hid hP8
      have HPL := hid hPl
      have HPE := hid hP
      have HM := hid hM
      clear ho hP8 hPl hP hM hpe HO hjN hj htm
      go_wp2_with fail
      go_loopw [5, 6] (fun ov i wr => ∃ (k e : Nat) (oA : Option Addr) (oc : Nat), k ≤ N ∧ Hid (e = 4 * k) ∧ i = .int .i64 (e : Int) ∧ ov = .slice oA k oc ∧ Hid (wr.ownsRow B 52 8 (.slice oA k oc) k ((pk qn k P).map cSec).flatten) ∧ Hid (wr.ownsRow B 5 1 (.slice A5 M c5) M (P.map byteV)) ∧ Hid (Below B W wr)) (fun _ i _ => M - (RowKit.intOf i).toNat)
      case atStart => exact ⟨0, 0, none, 0, by omega, hid rfl, rfl, rfl, hid (World.ownsRow_nil _ _ _ _), HOS, HB⟩
      case round =>
        clear HOS HB hBs
        obtain ⟨k, e, oA, oc, hk, he, rfl, rfl, HO, HS, HB⟩ := hrel
        by_cases hkN : k < N
        · obtain ⟨wo, rfl⟩ : ∃ wo : World, wo = wr := ⟨_, rfl⟩
          have heM : e + 4 ≤ M := by have := HM.out; have := he.out; omega
          have hec : (e : Int) < (M : Int) := by omega
          have hBs : B ≤ wo.heap.size := by have := HB.out.size; have := HBE.out; omega
          have hvS := byt_of_own HS.out HP8.out
          have hcap := byt_cap' hvS
          obtain ⟨e4, he4⟩ : ∃ e4, e + 4 = e4 := ⟨_, rfl⟩
          have hwe : IntKind.i64.wrap ((e : Int) + 4) = (e4 : Int) := by rw [show (e : Int) + 4 = (e4 : Int) by omega]; exact wrap64_nat (by omega)
          have hsl := fun W : World => run_slice_both A5 M c5 e e4 (by omega) (by omega) W
          have hxx := (HB.out.block w.heap.size hxB).trans HBX.out
          have hHeld : wo.drew.cell? ⟨w.heap.size, 1, none⟩ = some (.int .i64 (qn : Int)) := cell_of_row _ _ 1 _ _ _ hxx
          have hbu := byt_upto (byt_from (by rw [HPL.out]; exact hvS) (k := e) (by rw [HPL.out]; omega)) 4
          have h4l : ((P.drop e).take 4).length = 4 := by rw [List.length_take, List.length_drop, HPL.out]; omega
          rw [h4l] at hbu
          have HBU := hid hbu
          have HP5 := hid (rput_any qn 4 wo.heap.size [] (.slice none 0 0) wo.drew (World.ownsRow_nil _ _ _ _) (Nat.le_refl _) (by have := HK.out; omega) (by omega) (by simp))
          have h4e : e4 - e = 4 := by omega
          have hadr : ∃ ad, fromA A5 c5 e = some ad := by
            obtain ⟨b, off, hA, _⟩ := byt_at hvS (by rw [HPL.out]; omega)
            subst hA
            unfold fromA
            split
            · exact ⟨_, rfl⟩
            · exact ⟨_, rfl⟩
          obtain ⟨ad, had⟩ := hadr
          rw [h4e, had] at hsl
          rw [had] at HBU
          have hkc : (k : Int) < (N : Int) := by omega
          have HE4 := hid he4
          clear hvS hbu had hxx he4
          go_wp2_with fail
          refine region_tail 8 (fun X : World => X.cell? ⟨w.heap.size, 1, none⟩ = some (.int .i64 (qn : Int))) (by kernel_rfl) ?_
          refine' wpAnyT_take (i := 0) (oi := ?oia0) (v := ?va0) ?hia0 (by kernel_rfl) (by kernel_rfl) ?hqa0 ?hya0 hHeld ?resta0
          case hia0 => (simp only [List.getElem?_toArray, List.getElem?_cons_zero]; rfl)
          case hqa0 => exact fun _ _ _ h => h
          case hya0 => (refine Or.inl ⟨by rfl, ?_⟩; intro w' hSw; (try dsimp only at hSw); go_simp; try with_reducible rfl)
          (try simp only [Act.put, List.setIfInBounds_toArray, List.set_cons_zero, List.set_cons_succ])
          refine' wpAnyT_take (i := 1) (oi := ?oia1) (v := ?va1) ?hia1 (by kernel_rfl) (by kernel_rfl) ?hqa1 ?hya1 hHeld ?resta1
          case hia1 => (simp only [List.getElem?_toArray, List.getElem?_cons_zero, List.getElem?_cons_succ]; rfl)
          case hqa1 => exact fun _ _ _ h => h
          case hya1 => (refine Or.inl ⟨by rfl, ?_⟩; intro w' hSw; (try dsimp only at hSw); go_simp; try with_reducible rfl)
          (try simp only [Act.put, List.setIfInBounds_toArray, List.set_cons_zero, List.set_cons_succ])
          refine' wpAnyT_take (i := 3) (oi := ?oia3) (v := ?va3) ?hia3 (by kernel_rfl) (by kernel_rfl) ?hqa3 ?hya3 hHeld ?resta3
          case hia3 => (simp only [List.getElem?_toArray, List.getElem?_cons_zero, List.getElem?_cons_succ]; rfl)
          case hqa3 => exact fun _ _ _ h => h
          case hya3 => (refine Or.inl ⟨by rfl, ?_⟩; intro w' hSw; (try dsimp only at hSw); go_simp; try with_reducible rfl)
          (try simp only [Act.put, List.setIfInBounds_toArray, List.set_cons_zero, List.set_cons_succ])
          refine' wpAnyT_take (i := 4) (oi := ?oia4) (v := ?va4) ?hia4 (by kernel_rfl) (by kernel_rfl) ?hqa4 ?hya4 hHeld ?resta4
          case hia4 => (simp only [List.getElem?_toArray, List.getElem?_cons_zero, List.getElem?_cons_succ]; rfl)
          case hqa4 => exact fun _ _ _ h => h
          case hya4 => (refine Or.inl ⟨by rfl, ?_⟩; intro w' hSw; (try dsimp only at hSw); go_simp; try with_reducible rfl)
          (try simp only [Act.put, List.setIfInBounds_toArray, List.set_cons_zero, List.set_cons_succ])
          refine' wpAnyT_take (i := 5) (oi := ?oia5) (v := ?va5) ?hia5 (by kernel_rfl) (by kernel_rfl) ?hqa5 ?hya5 hHeld ?resta5
          case hia5 => (simp only [List.getElem?_toArray, List.getElem?_cons_zero, List.getElem?_cons_succ]; rfl)
          case hqa5 => exact fun _ _ _ h => h
          case hya5 => (refine Or.inl ⟨by rfl, ?_⟩; intro w' hSw; (try dsimp only at hSw); go_simp; try with_reducible rfl)
          (try simp only [Act.put, List.setIfInBounds_toArray, List.set_cons_zero, List.set_cons_succ])
          refine' wpAnyT_take (i := 6) (oi := ?oia6) (v := ?va6) ?hia6 (by kernel_rfl) (by kernel_rfl) ?hqa6 ?hya6 hHeld ?resta6
          case hia6 => (simp only [List.getElem?_toArray, List.getElem?_cons_zero, List.getElem?_cons_succ]; rfl)
          case hqa6 => exact fun _ _ _ h => h
          case hya6 => (refine Or.inl ⟨by rfl, ?_⟩; intro w' hSw; (try dsimp only at hSw); go_simp; try with_reducible rfl)
          (try simp only [Act.put, List.setIfInBounds_toArray, List.set_cons_zero, List.set_cons_succ])
          refine' wpAnyT_take (i := 7) (oi := ?oia7) (v := ?va7) ?hia7 (by kernel_rfl) (by kernel_rfl) ?hqa7 ?hya7 hHeld ?resta7
          case hia7 => (simp only [List.getElem?_toArray, List.getElem?_cons_zero, List.getElem?_cons_succ]; rfl)
          case hqa7 => exact fun _ _ _ h => h
          case hya7 => (refine Or.inl ⟨by rfl, ?_⟩; intro w' hSw; (try dsimp only at hSw); go_simp; try with_reducible rfl)
          (try simp only [Act.put, List.setIfInBounds_toArray, List.set_cons_zero, List.set_cons_succ])
          refine' wpAnyT_one (i := 2) (o := ?oib2) (by kernel_rfl) ?hib2 (fun K hK => ?stb2)
          case hib2 => (simp only [List.getElem?_toArray, List.getElem?_cons_zero, List.getElem?_cons_succ]; rfl)
          go_simp
          refine HP5.out.mono ?_
          rintro ee w7 ⟨A7, c7, rfl, ho7, hb7⟩
          rw [show ([] : List Nat).length + 4 = 4 from rfl] at ho7 ⊢
          rw [List.nil_append] at ho7
          clear hHeld
          have hb7' : Below wo.heap.size wo w7 := below_drew1 hb7
          have hHeld : w7.cell? ⟨w.heap.size, 1, none⟩ = some (.int .i64 (qn : Int)) := cell_of_row _ _ 1 _ _ _ ((((HB.out.trans (hb7'.mono hBs))).block w.heap.size hxB).trans HBX.out)
          have HB7 := hid hb7'
          have HO7 := hid ho7
          have HBU7 := hid (HBU.out.below hb7')
          have hz7 : wo.heap.size ≤ w7.heap.size := hb7'.size
          clear hb7 hb7' ho7 HP5 HBU
          refine hK.out _ _ (fun _ => hHeld) ?_
          clear hK K
          (try simp only [Act.put, List.setIfInBounds_toArray, List.set_cons_zero, List.set_cons_succ])
          refine' wpAnyT_one (i := 8) (o := ?oib8) (by kernel_rfl) ?hib8 (fun K hK => ?stb8)
          case hib8 => (simp only [List.getElem?_toArray, List.getElem?_cons_zero, List.getElem?_cons_succ]; rfl)
          refine step_append_byt rfl (.tmp 64) (.tmp 69) rfl wo.heap.size (.slice A7 4 c7) 4 _ (by simp [Act.eval]) HO7.out ((P.drop e).take 4) ad 4 (c5 - e) (by simp [Act.eval]) HBU7.out (by rw [h4l]; omega) hz7 ?_
          intro v8 w8 ho8 hg8
          clear hHeld
          refine hK.out _ _ (fun h => absurd h (by decide)) ?_
          clear hK K
          (try simp only [Act.put, List.setIfInBounds_toArray, List.set_cons_zero, List.set_cons_succ])
          refine' wpAnyT_one (i := 9) (o := ?oib9) (by kernel_rfl) ?hib9 (fun K hK => ?stb9)
          case hib9 => (simp only [List.getElem?_toArray, List.getElem?_cons_zero, List.getElem?_cons_succ]; rfl)
          go_simp
          refine hK.out _ _ (fun h => absurd h (by decide)) ?_
          clear hK K
          (try simp only [Act.put, List.setIfInBounds_toArray, List.set_cons_zero, List.set_cons_succ])
          refine wpAnyT_done (by kernel_rfl) ?_ _
          rw [h4l, ← List.map_append] at ho8
          obtain ⟨T, hT⟩ : ∃ T, le 4 qn ++ (P.drop e).take 4 = T := ⟨_, rfl⟩
          have hT8 : B8 T := by rw [← hT]; exact b8_append (le_b8 _ _) (b8_take (b8_drop HP8.out _) _)
          have hTl : T.length = 8 := by rw [← hT, List.length_append, le_length, h4l]
          rw [hT] at ho8
          obtain ⟨A8, c8, rfl⟩ := own_form ho8
          have hv8 := byt_of_own ho8 hT8
          have hb78 := below_ownE (Below.refl w7.heap.size w7) HO7.out hg8 (Nat.le_refl _)
          have hbr8 : Below wo.heap.size wo w8 := below_ownE HB7.out HO7.out hg8 hz7 (Nat.le_refl _)
          obtain ⟨W9, hW9⟩ : ∃ W9, w8.alloc (.cells #[.int .u8 0, .int .u8 0, .int .u8 0, .int .u8 0, .int .u8 0, .int .u8 0, .int .u8 0, .int .u8 0] 52) = W9 := ⟨_, rfl⟩
          have hb9 : Below w8.heap.size w8 W9 := by rw [← hW9]; exact al1 _ _
          have hx9 : W9.heap[w8.heap.size]? = some (.cells ((T.take 0 ++ List.replicate (8 - 0) 0).map byteV).toArray 52) := by rw [← hW9, heap_alloc_new]; rfl
          have HX9 := hid hx9
          have HB9 := hid hb9
          have HV8 := hid hv8
          have HBR8 := hid hbr8
          have HTL := hid hTl
          have HT8 := hid hT8
          have HTE := hid hT
          have HW9 := hid hW9
          clear ho8 hg8 hv8 hb78 hbr8 hb9 hx9 hW9 HO7 HBU7 HB7 hTl hT8 hT hsl
          go_wp2_with fail
          rw [HW9.out]
          go_loopw [9] (fun i w9 => ∃ (j : Nat), j ≤ 8 ∧ i = .int .i64 (j : Int) ∧ Hid (w9.heap[w8.heap.size]? = some (.cells ((T.take j ++ List.replicate (8 - j) 0).map byteV).toArray 52)) ∧ Hid (Below w8.heap.size w8 w9)) (fun i _ => 8 - (RowKit.intOf i).toNat)
          case atStart => exact ⟨0, by omega, rfl, HX9, HB9⟩
          case round =>
            clear HX9 HB9
            obtain ⟨j, hj, rfl, HX, HB9⟩ := hrel
            have hrl : (T.take j ++ List.replicate (8 - j) 0).length = 8 := by rw [List.length_append, List.length_take, List.length_replicate, HTL.out]; omega
            by_cases hj8 : j < 8
            · obtain ⟨b, off, rfl, hbl, hcell⟩ := byt_at HV8.out (by rw [HTL.out]; omega)
              obtain ⟨y, hy⟩ : ∃ y, T[j]? = some y := ⟨T[j]'(by rw [HTL.out]; exact hj8), List.getElem?_eq_getElem _⟩
              have hc := (HB9.out.cell (p := ⟨b, off + j, none⟩) hbl).trans (hcell j y hy)
              obtain ⟨z, hz⟩ : ∃ z, (T.take j ++ List.replicate (8 - j) 0)[j]? = some z := ⟨(T.take j ++ List.replicate (8 - j) 0)[j]'(by omega), List.getElem?_eq_getElem _⟩
              have hd : wr.cell? ⟨w8.heap.size, j, none⟩ = some (byteV z) := by rw [cell_of_row _ _ _ _ _ _ HX.out, List.getElem?_toArray, List.getElem?_map, hz]; rfl
              have hf := box_fr HX.out j
              have hne : (T.take j ++ List.replicate (8 - j) 0).set j y = T.take (j + 1) ++ List.replicate (8 - (j + 1)) 0 := by
                have hl : (T.take j).length = j := by rw [List.length_take, HTL.out]; omega
                rw [List.set_append_right _ _ (by omega), hl, Nat.sub_self, show 8 - j = (8 - (j + 1)) + 1 by omega, List.replicate_succ, List.set_cons_zero, take_succ' hy]
                simp
              have HX' : Hid ((wr.setCell ⟨w8.heap.size, j, none⟩ (.int .u8 (y : Int))).heap[w8.heap.size]? = some (.cells ((T.take (j + 1) ++ List.replicate (8 - (j + 1)) 0).map byteV).toArray 52)) := hid (by
                rw [← hne, heap_setCell_same wr _ _ _ _ _ HX.out]
                congr 2
                apply Array.ext'
                simp [List.map_set, byteV])
              have HB' := hid (HB9.out.setCell (p := ⟨w8.heap.size, j, none⟩) (Nat.le_refl _) (.int .u8 (y : Int)))
              have hjc : (j : Int) < 8 := by omega
              clear hcell hy hz hne hrl HX HB9 hbl
              go_wp2_with fail
              go_roundw
              case rel => exact ⟨j + 1, by omega, by go_num, HX', HB'⟩
              case measure => simp [RowKit.intOf]; omega
            · obtain rfl : j = 8 := by omega
              have hx8 := HX.out
              rw [List.take_of_length_le (by rw [HTL.out]; omega), Nat.sub_self, List.replicate_zero, List.append_nil] at hx8
              have hboW : Below wo.heap.size wo wr := HBR8.out.trans (HB9.out.mono HBR8.out.size)
              have HOW := hid (own_keep HO.out (keep_below hboW))
              have HSW := hid (own_keep HS.out (keep_below hboW))
              have HBW2 := hid (HB.out.trans (hboW.mono hBs))
              have HONE : Hid (Secs [T]) := hid (fun s hs => by rw [List.mem_singleton] at hs; subst hs; exact ⟨HTL.out, HT8.out⟩)
              have HPK := hid (show pk qn (k + 1) P = pk qn k P ++ [T] by rw [pk_snoc, ← he.out, HTE.out])
              have hTT := HTL.out
              obtain ⟨x0, x1, x2, x3, x4, x5, x6, x7, hT⟩ := list8 hTT
              subst hT
              have p := fun (j : Nat) (x : Nat) (h : [x0, x1, x2, x3, x4, x5, x6, x7][j]? = some x) => (show wr.cell? ⟨w8.heap.size, j, none⟩ = some (.int .u8 (x : Int)) by rw [cell_of_row _ _ _ _ _ _ hx8, List.getElem?_toArray, List.getElem?_map, h]; rfl)
              have p0 := p 0 x0 rfl
              have p1 := p 1 x1 rfl
              have p2 := p 2 x2 rfl
              have p3 := p 3 x3 rfl
              have p4 := p 4 x4 rfl
              have p5 := p 5 x5 rfl
              have p6 := p 6 x6 rfl
              have p7 := p 7 x7 rfl
              obtain ⟨W11, hW11⟩ : ∃ W11, wr.alloc (.cells #[.int .u8 (x0 : Int), .int .u8 (x1 : Int), .int .u8 (x2 : Int), .int .u8 (x3 : Int), .int .u8 (x4 : Int), .int .u8 (x5 : Int), .int .u8 (x6 : Int), .int .u8 (x7 : Int)] 52) = W11 := ⟨_, rfl⟩
              have hb11 : Below wr.heap.size wr W11 := by rw [← hW11]; exact al1 _ _
              have hx11 : W11.heap[wr.heap.size]? = some (.cells #[.int .u8 (x0 : Int), .int .u8 (x1 : Int), .int .u8 (x2 : Int), .int .u8 (x3 : Int), .int .u8 (x4 : Int), .int .u8 (x5 : Int), .int .u8 (x6 : Int), .int .u8 (x7 : Int)] 52) := by rw [← hW11]; exact heap_alloc_new _ _
              have HO11 := hid (own_keep HOW.out (keep_below hb11))
              have HS11 := hid (own_keep HSW.out (keep_below hb11))
              have hBw : B ≤ wr.heap.size := Nat.le_trans hBs hboW.size
              have HB11 := hid (HBW2.out.trans (hb11.mono hBw))
              have hz11 : B ≤ W11.heap.size := Nat.le_trans hBw hb11.size
              have HCC : Hid (∀ (j : Nat) (u : Value), ([[x0, x1, x2, x3, x4, x5, x6, x7]].map cSec).flatten[j]? = some u → W11.cell? ((⟨wr.heap.size, 0, none⟩ : Addr).add j) = some u) := hid (fun j u hu => by rw [add_at', cell_of_row _ _ _ _ _ _ hx11]; simpa [cSec, byteV] using hu)
              subst hW11
              clear p hx8 hb11 hx11 hTT HX HB9 HV8 HBR8 hboW HOW HSW hrl
              go_wp2_with (first | (at_builtin; refine append_secs rfl (.tmp 81) (.tmp 83) rfl B (.slice oA k oc) k _ rfl HO11.out [[x0, x1, x2, x3, x4, x5, x6, x7]] ⟨wr.heap.size, 0, none⟩ 1 1 rfl HONE.out rfl HCC.out (by have := HNS.out; omega) hz11 ?_; intro v12 w12 ho12 hg12; have HB12 := hid (below_ownE HB11.out HO11.out hg12 hz11 (Nat.le_refl _)); have HS12 := hid (own_keep HS11.out (keep_grown HO11.out (T := 5) (by decide) hg12)); obtain ⟨o12, oc12, rfl⟩ := own_formE ho12; have HO12 := hid ho12; clear ho12 hg12) | fail)
              go_roundw
              case rel =>
                exact ⟨k + 1, e4, o12, oc12, by omega, hid (by have := he.out; have := HE4.out; omega), rfl, rfl, hid (by rw [HPK.out, List.map_append, List.flatten_append]; exact HO12.out), HS12, HB12⟩
              case measure => simp only [RowKit.intOf]; have := HE4.out; omega
        · obtain rfl : k = N := by omega
          have heM : e = M := by have := he.out; have := HM.out; omega
          subst heM
          have HEND := hid (show pk qn k P = encR kn qn p by unfold encR; rw [HLL.out, HNN.out, HFE.out, HPE.out])
          go_wp2
          refine bodyPost_ret (v := .tuple #[.slice oA k oc, .int .i64 0]) (by simp [results, Try.results15, go_sem]) rfl ?_
          have ho := HO.out
          rw [HEND.out] at ho
          have hel : (encR kn qn p).length = k := by rw [encR_len, HLL.out, HNN.out]
          refine ⟨HBW.out.trans (HB.out.mono (by omega)), .inl ⟨encR kn qn p, _, HE.out, rfl, encR_secs HV8.out, ?_⟩⟩
          rw [hel]
          exact own_base ho (by omega)
    · have hm : ¬ (7 + L + j) % 4 = 0 := by have := HNS.out; omega
      obtain ⟨z, hz⟩ : ∃ z, 7 + L + j = z := ⟨_, rfl⟩
      rw [hz] at HO hm ⊢
      obtain ⟨y, hy⟩ : ∃ y, z % 4 = y := ⟨_, rfl⟩
      have htm : Int.tmod (z : Int) 4 = (y : Int) := by rw [Int.tmod_eq_emod_of_nonneg (by omega)]; omega
      have hye : (z : Int) % 4 = (y : Int) := by omega
      have hy0 : ((y : Int) != 0) = true := by rw [bne_iff_ne]; omega
      have hzl : B ≤ (wr.alloc (.cells #[.int .u8 0] 5)).heap.size := by simp; omega
      go_wp2_with (at_builtin; refine append_byt rfl (.tmp 53) (.tmp 54) rfl B (.slice A5 z c5) z _ rfl (HO.out.alloc _) [0] _ rfl (byt_one_at wr 0 0 rfl (by omega)) (nilOk_some _ _ _) (by simp; have := HNS.out; omega) hzl ?_; intro v6 w6 ho6 hg6; have HB6 := hid (below_own (HB.out.alloc hBs _) (HO.out.alloc _) hg6 hzl (Nat.le_refl _)); obtain ⟨A6, c6, rfl⟩ := own_form ho6; have HO6 := hid ho6; clear ho6 hg6)
      go_roundw
      case rel =>
        exact ⟨j + 1, A6, c6, by have := HNS.out; omega, by rw [show 7 + L + (j + 1) = z + 1 by omega], hid (by rw [show 7 + L + (j + 1) = z + 1 by omega, List.replicate_succ', ← List.append_assoc, List.map_append]; exact HO6.out), HB6⟩
      case measure => simp only [sliceLen]; have := HNS.out; omega
end Go.Proofs.Ytcmmkeadbedooaa
