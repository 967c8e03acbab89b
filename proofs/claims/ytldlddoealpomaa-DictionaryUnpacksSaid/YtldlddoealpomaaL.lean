/- The decoder's match. -/
import Derived.Test.YtldlddoealpomaaK
namespace Go.Proofs.Ytldlddoealpomaa
open Go.RowKit Go.Lib

theorem bx_grown' {w w2 : World} {g b base n c : Nat} {a : Array Value} {xs : List Value} (hb : w.heap[g]? = some (.cells a 57)) (ho : w.ownsRow base 5 1 (.slice (some ⟨b, 0, none⟩) n c) n xs) (hg : w.grownBy w2 (some b)) : w2.heap[g]? = some (.cells a 57) := box_grown hb ho hg
theorem take_min (s : List Nat) : s.take (min s.length 8) = s.take 8 := by
  rcases Nat.le_total s.length 8 with h | h
  · rw [Nat.min_eq_left h, List.take_of_length_le (Nat.le_refl _), List.take_of_length_le h]
  · rw [Nat.min_eq_right h]
theorem take8_len (s : List Nat) : (s.take 8).length = min s.length 8 := by rw [List.length_take]; omega
set_option maxHeartbeats 4000000 in
set_option maxRecDepth 100000 in
theorem match_any (n : Nat) (t : List Nat) (room : Nat) (s : List Nat) (g base : Nat) (w0 w : World) (hb0 : Below w0.heap.size w0 w) (hd : Dc w0 w g base t room s) (hbg : base ≤ g) (hn : n ≤ 1000) (ht : t.length ≤ 900000000000) (hl : s.length ≤ 900000000000) (hr : room ≤ 9223372036854775807) (h8 : B8 t) :
    Calls Try.prog 48 #[.pointer (some ⟨g, 0, none⟩), .int .i64 (n : Int)] w (DcQ w0 w g base (mat n t room s)) := by
  obtain ⟨vt, vr, hb, ho, hs, hns⟩ := hd
  obtain ⟨A, c, rfl⟩ := byt_form hs
  obtain ⟨aT, cT, rfl⟩ := own_form ho
  have hcc := byt_cap hs
  have hgl := box_lt hb
  have hwin := byt_cut (k := min s.length 8) hs (by omega)
  have htk := take_min s
  rw [htk] at hwin
  have HCN : NilOk (.slice A (min s.length 8) c) := fun a b e => by
    injection e with e1 _ e3
    subst e1
    rw [← e3]
    exact hns _ _ rfl
  have HI := hid (int_any (s.take 8) _ w.drew (hwin.below (below_drew hb0)) HCN (by rw [take8_len]; omega))
  obtain ⟨m8, hm8⟩ : ∃ m8, min s.length 8 = m8 := ⟨_, rfl⟩
  have hm : min (s.length : Int) 8 = (m8 : Int) := by omega
  have hm8l : m8 ≤ s.length := by omega
  rw [hm8] at HI
  have HM8 := hid hm8
  have hst := run_slice_to' A s.length c m8 hm8l hcc
  have HF := hid (fun (k : Nat) (hk : k ≤ s.length) => byt_from (k := k) hs hk)
  have HFN := hid (fun (k : Nat) => nilOk_from (k := k) hns)
  have HB := hid (show w.drew.heap[g]? = some (.cells #[.slice aT t.length cT, .int .i64 (room : Int), .slice A s.length c] 57) from hb)
  have HO := hid (show w.drew.ownsRow base 5 1 (.slice aT t.length cT) t.length (t.map byteV) from ho)
  have hHeld : w.drew.cell? ⟨g, 2, none⟩ = some (.slice A s.length c) := cell_of_row _ _ 2 _ _ _ hb
  have HB8 := hid h8
  clear hb ho hs hns hb0 hwin HCN htk h8 hm8
  go_enter Try.func48, Try.ntmps48
  go_wp2_with fail
  refine region_tail 11 (fun X : World => X.cell? ⟨g, 2, none⟩ = some (.slice A s.length c)) (by kernel_rfl) ?_
  refine' wpAnyT_take (i := 0) (oi := ?oia0) (v := ?va0) ?hia0 (by kernel_rfl) (by kernel_rfl) ?hqa0 ?hya0 hHeld ?resta0
  case hia0 => (simp only [List.getElem?_toArray, List.getElem?_cons_zero]; rfl)
  case hqa0 => exact fun _ _ _ h => h
  case hya0 => (refine Or.inl ⟨by rfl, ?_⟩; intro w' hSw; (try dsimp only at hSw); go_simp; try with_reducible rfl)
  (try simp only [Act.put, List.setIfInBounds_toArray, List.set_cons_zero, List.set_cons_succ])
  refine' wpAnyT_take (i := 1) (oi := ?oia1) (v := ?va1) ?hia1 (by kernel_rfl) (by kernel_rfl) ?hqa1 ?hya1 hHeld ?resta1
  case hia1 => (simp only [List.getElem?_toArray, List.getElem?_cons_zero, List.getElem?_cons_succ]; rfl)
  case hqa1 => exact fun _ _ _ h => h
  case hya1 => (refine Or.inl ⟨by rfl, ?_⟩; intro w' hSw; (try dsimp only at hSw); go_simp; try with_reducible rfl)
  (try simp only [Act.put, List.setIfInBounds_toArray, List.set_cons_zero, List.set_cons_succ])
  refine' wpAnyT_take (i := 2) (oi := ?oia2) (v := ?va2) ?hia2 (by kernel_rfl) (by kernel_rfl) ?hqa2 ?hya2 hHeld ?resta2
  case hia2 => (simp only [List.getElem?_toArray, List.getElem?_cons_zero, List.getElem?_cons_succ]; rfl)
  case hqa2 => exact fun _ _ _ h => h
  case hya2 => (refine Or.inl ⟨by rfl, ?_⟩; intro w' hSw; (try dsimp only at hSw); go_simp; try with_reducible rfl)
  (try simp only [Act.put, List.setIfInBounds_toArray, List.set_cons_zero, List.set_cons_succ])
  refine' wpAnyT_take (i := 3) (oi := ?oia3) (v := ?va3) ?hia3 (by kernel_rfl) (by kernel_rfl) ?hqa3 ?hya3 hHeld ?resta3
  case hia3 => (simp only [List.getElem?_toArray, List.getElem?_cons_zero, List.getElem?_cons_succ]; rfl)
  case hqa3 => exact fun _ _ _ h => h
  case hya3 => (refine Or.inl ⟨by rfl, ?_⟩; intro w' hSw; (try dsimp only at hSw); go_simp; try with_reducible rfl)
  (try simp only [Act.put, List.setIfInBounds_toArray, List.set_cons_zero, List.set_cons_succ])
  refine' wpAnyT_take (i := 4) (oi := ?oia4) (v := ?va4) ?hia4 (by kernel_rfl) (by kernel_rfl) ?hqa4 ?hya4 hHeld ?resta4
  case hia4 => (simp only [List.getElem?_toArray, List.getElem?_cons_zero, List.getElem?_cons_succ]; rfl)
  case hqa4 => exact fun _ _ _ h => h
  case hya4 => (refine Or.inl ⟨by rfl, ?_⟩; intro w' hSw; (try dsimp only at hSw); go_simp; try with_reducible rfl)
  (try simp only [Act.put, List.setIfInBounds_toArray, List.set_cons_zero, List.set_cons_succ])
  refine' wpAnyT_take (i := 5) (oi := ?oia5) (v := ?va5) ?hia5 (by kernel_rfl) (by kernel_rfl) ?hqa5 ?hya5 hHeld ?resta5
  case hia5 => (simp only [List.getElem?_toArray, List.getElem?_cons_zero, List.getElem?_cons_succ]; rfl)
  case hqa5 => exact fun _ _ _ h => h
  case hya5 => (refine Or.inl ⟨by rfl, ?_⟩; intro w' hSw; (try dsimp only at hSw); go_simp; try with_reducible rfl)
  (try simp only [Act.put, List.setIfInBounds_toArray, List.set_cons_zero, List.set_cons_succ])
  refine' wpAnyT_take (i := 6) (oi := ?oia6) (v := ?va6) ?hia6 (by kernel_rfl) (by kernel_rfl) ?hqa6 ?hya6 hHeld ?resta6
  case hia6 => (simp only [List.getElem?_toArray, List.getElem?_cons_zero, List.getElem?_cons_succ]; rfl)
  case hqa6 => exact fun _ _ _ h => h
  case hya6 => (refine Or.inl ⟨by rfl, ?_⟩; intro w' hSw; (try dsimp only at hSw); go_simp; try with_reducible rfl)
  (try simp only [Act.put, List.setIfInBounds_toArray, List.set_cons_zero, List.set_cons_succ])
  refine' wpAnyT_take (i := 7) (oi := ?oia7) (v := ?va7) ?hia7 (by kernel_rfl) (by kernel_rfl) ?hqa7 ?hya7 hHeld ?resta7
  case hia7 => (simp only [List.getElem?_toArray, List.getElem?_cons_zero, List.getElem?_cons_succ]; rfl)
  case hqa7 => exact fun _ _ _ h => h
  case hya7 => (refine Or.inl ⟨by rfl, ?_⟩; intro w' hSw; (try dsimp only at hSw); go_simp; try with_reducible rfl)
  (try simp only [Act.put, List.setIfInBounds_toArray, List.set_cons_zero, List.set_cons_succ])
  refine' wpAnyT_take (i := 8) (oi := ?oia8) (v := ?va8) ?hia8 (by kernel_rfl) (by kernel_rfl) ?hqa8 ?hya8 hHeld ?resta8
  case hia8 => (simp only [List.getElem?_toArray, List.getElem?_cons_zero, List.getElem?_cons_succ]; rfl)
  case hqa8 => exact fun _ _ _ h => h
  case hya8 => (refine Or.inl ⟨by rfl, ?_⟩; intro w' hSw; (try dsimp only at hSw); go_simp; try with_reducible rfl)
  (try simp only [Act.put, List.setIfInBounds_toArray, List.set_cons_zero, List.set_cons_succ])
  refine' wpAnyT_take (i := 9) (oi := ?oia9) (v := ?va9) ?hia9 (by kernel_rfl) (by kernel_rfl) ?hqa9 ?hya9 hHeld ?resta9
  case hia9 => (simp only [List.getElem?_toArray, List.getElem?_cons_zero, List.getElem?_cons_succ]; rfl)
  case hqa9 => exact fun _ _ _ h => h
  case hya9 => (refine Or.inl ⟨by rfl, ?_⟩; intro w' hSw; (try dsimp only at hSw); go_simp; try with_reducible rfl)
  (try simp only [Act.put, List.setIfInBounds_toArray, List.set_cons_zero, List.set_cons_succ])
  refine' wpAnyT_take (i := 10) (oi := ?oia10) (v := ?va10) ?hia10 (by kernel_rfl) (by kernel_rfl) ?hqa10 ?hya10 hHeld ?resta10
  case hia10 => (simp only [List.getElem?_toArray, List.getElem?_cons_zero, List.getElem?_cons_succ]; rfl)
  case hqa10 => exact fun _ _ _ h => h
  case hya10 => (refine Or.inl ⟨by rfl, ?_⟩; intro w' hSw; (try dsimp only at hSw); go_simp; try with_reducible rfl)
  (try simp only [Act.put, List.setIfInBounds_toArray, List.set_cons_zero, List.set_cons_succ])
  refine' wpAnyT_one (i := 11) (o := ?oib11) (by kernel_rfl) ?hib11 (fun K hK => ?stb11)
  case hib11 => (simp only [List.getElem?_toArray, List.getElem?_cons_zero, List.getElem?_cons_succ]; rfl)
  go_simp
  refine hK.out _ _ (fun h => absurd h (by decide)) ?_
  clear hK K
  (try simp only [Act.put, List.setIfInBounds_toArray, List.set_cons_zero, List.set_cons_succ])
  refine wpAnyT_done (by kernel_rfl) ?_ _
  clear hHeld hst hm
  go_wp2_with fail
  refine HI.out.mono ?_
  rintro e w1 ⟨v1, r1, er, rfl, hb1, hcase⟩
  have HB1 := hid (show Below w.heap.size w w1 from (below_drew (Below.refl w.heap.size w)).trans (show Below w.heap.size w.drew w1 from hb1))
  have hB1 := hid ((hb1.block g hgl).trans HB.out)
  have hO1 := hid (own_keep HO.out (keep_below hb1))
  have HBE := hid (show Below base w w1 from HB1.out.mono (by omega))
  have hz1 : w.heap.size ≤ w1.heap.size := HB1.out.size
  obtain ⟨M, hM⟩ : ∃ M, mat n t room s = M := ⟨_, rfl⟩
  have HM := hid hM
  rw [hM]
  unfold mat at hM
  clear HB HO hb1 HI
  rcases hcase with ⟨d, bh, hd, rfl, hvx, hvb⟩ | ⟨hd, hne, rfl, rfl⟩
  · rw [hd] at hM
    dsimp only at hM
    unfold VNat at hvx
    subst hvx
    have hvb2 := vbyt_byt hvb
    obtain ⟨aR, cR, rfl⟩ := byt_form hvb2
    obtain ⟨bl, hbl⟩ : ∃ bl, bh.length = bl := ⟨_, rfl⟩
    have hblm : bl ≤ m8 := by
      have h := shr_num _ _ _ hd
      rw [take8_len, HM8.out] at h
      omega
    rw [hbl]
    have HMM := hid hM
    have HBL := hid hbl
    clear hd hvb hvb2 hM hbl
    have q0 : w1.cell? ⟨g, 0, none⟩ = some (.slice aT t.length cT) := cell_of_row _ _ 0 _ _ _ hB1.out
    have q1 : w1.cell? ⟨g, 1, none⟩ = some (.int .i64 (room : Int)) := cell_of_row _ _ 1 _ _ _ hB1.out
    have q2 : w1.cell? ⟨g, 2, none⟩ = some (.slice A s.length c) := cell_of_row _ _ 2 _ _ _ hB1.out
    by_cases hd0 : d = 0
    · have d0 : ((d : Int) == 0) = true := by simp; omega
      have HE := hid (HM.out.trans (HMM.out.symm.trans (if_pos (.inl hd0))))
      clear hd0
      go_wp2
      go_ret
      exact ⟨HBE.out, .inl ⟨3, HE.out, by decide, rfl⟩⟩
    have d0 : ((d : Int) == 0) = false := by rw [beq_eq_false_iff_ne]; omega
    by_cases hd1 : 4096 < d
    · have d1 : decide ((4096 : Int) < (d : Int)) = true := by simp; omega
      have HE := hid (HM.out.trans (HMM.out.symm.trans (if_pos (.inr (.inl hd1)))))
      go_wp2
      go_ret
      exact ⟨HBE.out, .inl ⟨3, HE.out, by decide, rfl⟩⟩
    have d1 : decide ((4096 : Int) < (d : Int)) = false := by simp; omega
    by_cases hd2 : t.length < d
    · have HE := hid (HM.out.trans (HMM.out.symm.trans (if_pos (.inr (.inr hd2)))))
      go_wp2
      go_ret
      exact ⟨HBE.out, .inl ⟨3, HE.out, by decide, rfl⟩⟩
    have HMN := hid (HMM.out.symm.trans (if_neg (show ¬ (d = 0 ∨ 4096 < d ∨ t.length < d) by omega)))
    by_cases h2 : room < n
    · have HE := hid (HM.out.trans (HMN.out.trans (if_pos h2)))
      clear HMM HMN
      go_wp2
      go_ret
      exact ⟨HBE.out, .inl ⟨5, HE.out, by decide, rfl⟩⟩
    have HE : Hid (mat n t room s = .ok (cp d t n, room - n, s.drop (m8 - bl))) := hid (by
      rw [HM.out.trans (HMN.out.trans (if_neg h2)), take8_len, HM8.out, HBL.out])
    clear HMM HMN HM HM8 HBL
    have f0 := box_fr hB1.out 0
    have f1 := box_fr hB1.out 1
    have f2 := box_fr hB1.out 2
    obtain ⟨L, hL⟩ : ∃ L, t.length = L := ⟨_, rfl⟩
    have HL := hid hL
    rw [hL] at hB1 hO1 q0 ht hd2
    obtain ⟨b, hb⟩ : ∃ b, aT = some ⟨b, 0, none⟩ := by
      rcases hO1.out.2 with ⟨_, e⟩ | ⟨b, _, _, e, _⟩
      · omega
      · injection e with e1
        exact ⟨b, e1⟩
    subst hb
    have hsf : ∀ W : World, (Instr.slice 22 (.slice A s.length c) (some (.int .i64 ((m8 : Int) - (bl : Int)))) none none).run Try.prog W = .ok (.slice (fromA A c (m8 - bl)) (s.length - (m8 - bl)) (c - (m8 - bl))) W := by
      rw [show (m8 : Int) - (bl : Int) = ((m8 - bl : Nat) : Int) by omega]
      exact run_slice_from A s.length c (m8 - bl) (by omega)
    have HFK := hid (HF.out (m8 - bl) (by omega))
    have HFNK := hid (HFN.out (m8 - bl))
    clear hL HF HFN
    go_wp2_with fail
    have HS2 := hid (bx_1 (bx_2 hB1.out (.slice (fromA A c (m8 - bl)) (s.length - (m8 - bl)) (c - (m8 - bl)))) (.int .i64 ((room : Int) - (n : Int))))
    have HS0 := hid (own_not hB1.out hO1.out)
    have HS1 := hid (show ((w1.setCell ⟨g, 2, none⟩ (.slice (fromA A c (m8 - bl)) (s.length - (m8 - bl)) (c - (m8 - bl)))).setCell ⟨g, 1, none⟩ (.int .i64 ((room : Int) - (n : Int)))).ownsRow base 5 1 (.slice (some ⟨b, 0, none⟩) L cT) L (t.map byteV) from ownsRow_setCell_other (ownsRow_setCell_other hO1.out HS0.out _) HS0.out _)
    have HS3 := hid (show Below base w ((w1.setCell ⟨g, 2, none⟩ (.slice (fromA A c (m8 - bl)) (s.length - (m8 - bl)) (c - (m8 - bl)))).setCell ⟨g, 1, none⟩ (.int .i64 ((room : Int) - (n : Int)))) from (HBE.out.setCell hbg _).setCell hbg _)
    clear q0 q1 q2 f0 f1 f2 hsf hB1 hO1 HBE HS0 HB1
    obtain ⟨W, hW⟩ : ∃ W, (w1.setCell ⟨g, 2, none⟩ (.slice (fromA A c (m8 - bl)) (s.length - (m8 - bl)) (c - (m8 - bl)))).setCell ⟨g, 1, none⟩ (.int .i64 ((room : Int) - (n : Int))) = W := ⟨_, rfl⟩
    have hzW : w.heap.size ≤ W.heap.size := by rw [← hW]; simpa using hz1
    rw [hW] at HS1 HS2 HS3 ⊢
    clear hW hz1
    have HROOM : Hid (Value.int .i64 ((room : Int) - (n : Int)) = .int .i64 ((room - n : Nat) : Int)) := hid (int_eq (by omega))
    obtain ⟨vm, hvm⟩ : ∃ vm, Value.int .i64 ((room : Int) - (n : Int)) = vm := ⟨_, rfl⟩
    obtain ⟨vr, hvr⟩ : ∃ vr, Value.slice (fromA A c (m8 - bl)) (s.length - (m8 - bl)) (c - (m8 - bl)) = vr := ⟨_, rfl⟩
    obtain ⟨rs, hrs⟩ : ∃ rs, s.drop (m8 - bl) = rs := ⟨_, rfl⟩
    rw [hvm] at HROOM
    rw [hvm, hvr] at HS2
    rw [hvr, hrs] at HFK
    rw [hvr] at HFNK
    rw [hrs] at HE
    clear hvm hvr hrs
    go_loopw [72] (fun i wr => ∃ (k b c : Nat), k ≤ n ∧ i = .int .i64 (k : Int) ∧ Hid (wr.heap[g]? = some (.cells #[.slice (some ⟨b, 0, none⟩) (L + k) c, vm, vr] 57)) ∧ Hid (wr.ownsRow base 5 1 (.slice (some ⟨b, 0, none⟩) (L + k) c) (L + k) ((cp d t k).map byteV)) ∧ Hid (Below base w wr) ∧ w.heap.size ≤ wr.heap.size) (fun i _ => n - (Go.RowKit.intOf i).toNat)
    case atStart => exact ⟨0, b, cT, Nat.zero_le _, rfl, HS2, HS1, HS3, hzW⟩
    case round =>
      clear HS1 HS2 HS3 hzW
      obtain ⟨k, b, cv, hk, rfl, HG, HO, HB, hz⟩ := hrel
      by_cases hkn : k < n
      · have hkc : (k : Int) < (n : Int) := by omega
        obtain ⟨D, hD⟩ : ∃ D, L + k = D + d := ⟨L + k - d, by omega⟩
        obtain ⟨z, hzz⟩ : ∃ z, (cp d t k).getD D 0 = z := ⟨_, rfl⟩
        have hlen : (cp d t k).length = D + d := by rw [cp_len, HL.out, hD]
        have hz8 : z < 256 := by rw [← hzz]; exact getD_b8 (cp_b8 d HB8.out k) D
        have hcell : wr.cell? ⟨b, D, none⟩ = some (.int .u8 (z : Int)) := by
          have h := HO.out.cells (g := b) rfl D (byteV z) (by
            rw [List.getElem?_map, List.getElem?_eq_getElem (by omega), ← hzz, List.getD_eq_getElem?_getD, List.getElem?_eq_getElem (by omega)]
            rfl)
          rwa [add_at'] at h
        have HNX : Hid (cp d t (k + 1) = cp d t k ++ [z]) := hid (by rw [cp, hlen, Nat.add_sub_cancel, hzz])
        rw [hD] at HG HO
        have hDl : D + d ≤ 900000001000 := by omega
        have hd0' : 0 < d := by omega
        have HD := hid hD
        have hHeld : wr.drew.cell? ⟨g, 0, none⟩ = some (.slice (some ⟨b, 0, none⟩) (D + d) cv) ∧ wr.drew.cell? ⟨b, D, none⟩ = some (.int .u8 (z : Int)) := ⟨cell_of_row _ _ 0 _ _ _ HG.out, hcell⟩
        have hw64 : IntKind.i64.wrap (D : Int) = (D : Int) := by rw [IntKind.wrap_i64]; omega
        have hin : 0 ≤ (D : Int) ∧ (D : Int) < (D : Int) + (d : Int) := by omega
        clear hD hzz hlen hcell
        go_wp2_with fail
        refine region_tail 22 (fun X : World => X.cell? ⟨g, 0, none⟩ = some (.slice (some ⟨b, 0, none⟩) (D + d) cv) ∧ X.cell? ⟨b, D, none⟩ = some (.int .u8 (z : Int))) (by kernel_rfl) ?_
        refine' wpAnyT_take (i := 0) (oi := ?oim0) (v := ?vm0) ?him0 (by kernel_rfl) (by kernel_rfl) ?hqm0 ?hym0 hHeld ?restm0
        case him0 => (simp only [List.getElem?_toArray, List.getElem?_cons_zero]; rfl)
        case hqm0 => exact fun _ _ _ h => h
        case hym0 => (refine Or.inl ⟨by rfl, ?_⟩; intro w' hSw; (try dsimp only at hSw); go_simp; try with_reducible rfl)
        (try simp only [Act.put, List.setIfInBounds_toArray, List.set_cons_zero, List.set_cons_succ])
        refine' wpAnyT_take (i := 1) (oi := ?oim1) (v := ?vm1) ?him1 (by kernel_rfl) (by kernel_rfl) ?hqm1 ?hym1 hHeld ?restm1
        case him1 => (simp only [List.getElem?_toArray, List.getElem?_cons_zero, List.getElem?_cons_succ]; rfl)
        case hqm1 => exact fun _ _ _ h => h
        case hym1 => (refine Or.inl ⟨by rfl, ?_⟩; intro w' hSw; (try dsimp only at hSw); go_simp; try with_reducible rfl)
        (try simp only [Act.put, List.setIfInBounds_toArray, List.set_cons_zero, List.set_cons_succ])
        refine' wpAnyT_take (i := 2) (oi := ?oim2) (v := ?vm2) ?him2 (by kernel_rfl) (by kernel_rfl) ?hqm2 ?hym2 hHeld ?restm2
        case him2 => (simp only [List.getElem?_toArray, List.getElem?_cons_zero, List.getElem?_cons_succ]; rfl)
        case hqm2 => exact fun _ _ _ h => h
        case hym2 => (refine Or.inl ⟨by rfl, ?_⟩; intro w' hSw; (try dsimp only at hSw); go_simp; try with_reducible rfl)
        (try simp only [Act.put, List.setIfInBounds_toArray, List.set_cons_zero, List.set_cons_succ])
        refine' wpAnyT_take (i := 3) (oi := ?oim3) (v := ?vm3) ?him3 (by kernel_rfl) (by kernel_rfl) ?hqm3 ?hym3 hHeld ?restm3
        case him3 => (simp only [List.getElem?_toArray, List.getElem?_cons_zero, List.getElem?_cons_succ]; rfl)
        case hqm3 => exact fun _ _ _ h => h
        case hym3 => (refine Or.inl ⟨by rfl, ?_⟩; intro w' hSw; (try dsimp only at hSw); go_simp; try with_reducible rfl)
        (try simp only [Act.put, List.setIfInBounds_toArray, List.set_cons_zero, List.set_cons_succ])
        refine' wpAnyT_take (i := 4) (oi := ?oim4) (v := ?vm4) ?him4 (by kernel_rfl) (by kernel_rfl) ?hqm4 ?hym4 hHeld ?restm4
        case him4 => (simp only [List.getElem?_toArray, List.getElem?_cons_zero, List.getElem?_cons_succ]; rfl)
        case hqm4 => exact fun _ _ _ h => h
        case hym4 => (refine Or.inl ⟨by rfl, ?_⟩; intro w' hSw; (try dsimp only at hSw); go_simp; try with_reducible rfl)
        (try simp only [Act.put, List.setIfInBounds_toArray, List.set_cons_zero, List.set_cons_succ])
        refine' wpAnyT_take (i := 5) (oi := ?oim5) (v := ?vm5) ?him5 (by kernel_rfl) (by kernel_rfl) ?hqm5 ?hym5 hHeld ?restm5
        case him5 => (simp only [List.getElem?_toArray, List.getElem?_cons_zero, List.getElem?_cons_succ]; rfl)
        case hqm5 => exact fun _ _ _ h => h
        case hym5 => (refine Or.inl ⟨by rfl, ?_⟩; intro w' hSw; (try dsimp only at hSw); go_simp; try with_reducible rfl)
        (try simp only [Act.put, List.setIfInBounds_toArray, List.set_cons_zero, List.set_cons_succ])
        refine' wpAnyT_take (i := 6) (oi := ?oim6) (v := ?vm6) ?him6 (by kernel_rfl) (by kernel_rfl) ?hqm6 ?hym6 hHeld ?restm6
        case him6 => (simp only [List.getElem?_toArray, List.getElem?_cons_zero, List.getElem?_cons_succ]; rfl)
        case hqm6 => exact fun _ _ _ h => h
        case hym6 => (refine Or.inl ⟨by rfl, ?_⟩; intro w' hSw; (try dsimp only at hSw); go_simp; try with_reducible rfl)
        (try simp only [Act.put, List.setIfInBounds_toArray, List.set_cons_zero, List.set_cons_succ])
        refine' wpAnyT_take (i := 7) (oi := ?oim7) (v := ?vm7) ?him7 (by kernel_rfl) (by kernel_rfl) ?hqm7 ?hym7 hHeld ?restm7
        case him7 => (simp only [List.getElem?_toArray, List.getElem?_cons_zero, List.getElem?_cons_succ]; rfl)
        case hqm7 => exact fun _ _ _ h => h
        case hym7 => (refine Or.inl ⟨by rfl, ?_⟩; intro w' hSw; (try dsimp only at hSw); go_simp; try with_reducible rfl)
        (try simp only [Act.put, List.setIfInBounds_toArray, List.set_cons_zero, List.set_cons_succ])
        refine' wpAnyT_take (i := 8) (oi := ?oim8) (v := ?vm8) ?him8 (by kernel_rfl) (by kernel_rfl) ?hqm8 ?hym8 hHeld ?restm8
        case him8 => (simp only [List.getElem?_toArray, List.getElem?_cons_zero, List.getElem?_cons_succ]; rfl)
        case hqm8 => exact fun _ _ _ h => h
        case hym8 => (refine Or.inl ⟨by rfl, ?_⟩; intro w' hSw; (try dsimp only at hSw); go_simp; try with_reducible rfl)
        (try simp only [Act.put, List.setIfInBounds_toArray, List.set_cons_zero, List.set_cons_succ])
        refine' wpAnyT_take (i := 9) (oi := ?oim9) (v := ?vm9) ?him9 (by kernel_rfl) (by kernel_rfl) ?hqm9 ?hym9 hHeld ?restm9
        case him9 => (simp only [List.getElem?_toArray, List.getElem?_cons_zero, List.getElem?_cons_succ]; rfl)
        case hqm9 => exact fun _ _ _ h => h
        case hym9 => (refine Or.inl ⟨by rfl, ?_⟩; intro w' hSw; (try dsimp only at hSw); go_simp; try with_reducible rfl)
        (try simp only [Act.put, List.setIfInBounds_toArray, List.set_cons_zero, List.set_cons_succ])
        refine' wpAnyT_take (i := 10) (oi := ?oim10) (v := ?vm10) ?him10 (by kernel_rfl) (by kernel_rfl) ?hqm10 ?hym10 hHeld ?restm10
        case him10 => (simp only [List.getElem?_toArray, List.getElem?_cons_zero, List.getElem?_cons_succ]; rfl)
        case hqm10 => exact fun _ _ _ h => h
        case hym10 => (refine Or.inl ⟨by rfl, ?_⟩; intro w' hSw; (try dsimp only at hSw); go_simp; try with_reducible rfl)
        (try simp only [Act.put, List.setIfInBounds_toArray, List.set_cons_zero, List.set_cons_succ])
        refine' wpAnyT_take (i := 11) (oi := ?oim11) (v := ?vm11) ?him11 (by kernel_rfl) (by kernel_rfl) ?hqm11 ?hym11 hHeld ?restm11
        case him11 => (simp only [List.getElem?_toArray, List.getElem?_cons_zero, List.getElem?_cons_succ]; rfl)
        case hqm11 => exact fun _ _ _ h => h
        case hym11 => (refine Or.inl ⟨by rfl, ?_⟩; intro w' hSw; (try dsimp only at hSw); go_simp; try with_reducible rfl)
        (try simp only [Act.put, List.setIfInBounds_toArray, List.set_cons_zero, List.set_cons_succ])
        refine' wpAnyT_take (i := 12) (oi := ?oim12) (v := ?vm12) ?him12 (by kernel_rfl) (by kernel_rfl) ?hqm12 ?hym12 hHeld ?restm12
        case him12 => (simp only [List.getElem?_toArray, List.getElem?_cons_zero, List.getElem?_cons_succ]; rfl)
        case hqm12 => exact fun _ _ _ h => h
        case hym12 => (refine Or.inl ⟨by rfl, ?_⟩; intro w' hSw; (try dsimp only at hSw); go_simp; try with_reducible rfl)
        (try simp only [Act.put, List.setIfInBounds_toArray, List.set_cons_zero, List.set_cons_succ])
        refine' wpAnyT_take (i := 13) (oi := ?oim13) (v := ?vm13) ?him13 (by kernel_rfl) (by kernel_rfl) ?hqm13 ?hym13 hHeld ?restm13
        case him13 => (simp only [List.getElem?_toArray, List.getElem?_cons_zero, List.getElem?_cons_succ]; rfl)
        case hqm13 => exact fun _ _ _ h => h
        case hym13 => (refine Or.inl ⟨by rfl, ?_⟩; intro w' hSw; (try dsimp only at hSw); go_simp; try with_reducible rfl)
        (try simp only [Act.put, List.setIfInBounds_toArray, List.set_cons_zero, List.set_cons_succ])
        refine' wpAnyT_take (i := 14) (oi := ?oim14) (v := ?vm14) ?him14 (by kernel_rfl) (by kernel_rfl) ?hqm14 ?hym14 hHeld ?restm14
        case him14 => (simp only [List.getElem?_toArray, List.getElem?_cons_zero, List.getElem?_cons_succ]; rfl)
        case hqm14 => exact fun _ _ _ h => h
        case hym14 => (refine Or.inl ⟨by rfl, ?_⟩; intro w' hSw; (try dsimp only at hSw); go_simp; try with_reducible rfl)
        (try simp only [Act.put, List.setIfInBounds_toArray, List.set_cons_zero, List.set_cons_succ])
        refine' wpAnyT_take (i := 15) (oi := ?oim15) (v := ?vm15) ?him15 (by kernel_rfl) (by kernel_rfl) ?hqm15 ?hym15 hHeld ?restm15
        case him15 => (simp only [List.getElem?_toArray, List.getElem?_cons_zero, List.getElem?_cons_succ]; rfl)
        case hqm15 => exact fun _ _ _ h => h
        case hym15 => (refine Or.inl ⟨by rfl, ?_⟩; intro w' hSw; (try dsimp only at hSw); go_simp; try with_reducible rfl)
        (try simp only [Act.put, List.setIfInBounds_toArray, List.set_cons_zero, List.set_cons_succ])
        refine' wpAnyT_take (i := 16) (oi := ?oim16) (v := ?vm16) ?him16 (by kernel_rfl) (by kernel_rfl) ?hqm16 ?hym16 hHeld ?restm16
        case him16 => (simp only [List.getElem?_toArray, List.getElem?_cons_zero, List.getElem?_cons_succ]; rfl)
        case hqm16 => exact fun _ _ _ h => h
        case hym16 => (refine Or.inl ⟨by rfl, ?_⟩; intro w' hSw; (try dsimp only at hSw); go_simp; try with_reducible rfl)
        (try simp only [Act.put, List.setIfInBounds_toArray, List.set_cons_zero, List.set_cons_succ])
        refine' wpAnyT_take (i := 17) (oi := ?oim17) (v := ?vm17) ?him17 (by kernel_rfl) (by kernel_rfl) ?hqm17 ?hym17 hHeld ?restm17
        case him17 => (simp only [List.getElem?_toArray, List.getElem?_cons_zero, List.getElem?_cons_succ]; rfl)
        case hqm17 => exact fun _ _ _ h => h
        case hym17 => (refine Or.inl ⟨by rfl, ?_⟩; intro w' hSw; (try dsimp only at hSw); go_simp; try with_reducible rfl)
        (try simp only [Act.put, List.setIfInBounds_toArray, List.set_cons_zero, List.set_cons_succ])
        have hgw := box_lt HG.out
        have hbw : b < wr.heap.size := by
          have h := (HO.out.lt b rfl).2
          exact h
        have hb1 := al1 wr.drew (.cells #[.int .u8 (z : Int)] 5)
        have HG2 : Hid ((wr.drew.alloc (.cells #[.int .u8 (z : Int)] 5)).heap[g]? = some (.cells #[.slice (some ⟨b, 0, none⟩) (D + d) cv, vm, vr] 57)) := hid ((hb1.block g hgw).trans HG.out)
        have HO2 := hid (own_keep (show wr.drew.ownsRow base 5 1 (.slice (some ⟨b, 0, none⟩) (D + d) cv) (D + d) ((cp d t k).map byteV) from HO.out) (keep_below hb1))
        have HY : Hid ((wr.drew.alloc (.cells #[.int .u8 (z : Int)] 5)).cell? ⟨wr.heap.size, 0, none⟩ = some (byteV z)) := hid (cell_of_row _ _ 0 _ _ _ (heap_alloc_new wr.drew (.cells #[.int .u8 (z : Int)] 5)))
        have HBX := hid (show Below base w (wr.drew.alloc (.cells #[.int .u8 (z : Int)] 5)) from (below_drew HB.out).alloc (by simp; omega) _)
        have hHeld2 : (wr.drew.alloc (.cells #[.int .u8 (z : Int)] 5)).cell? ⟨g, 0, none⟩ = some (.slice (some ⟨b, 0, none⟩) (D + d) cv) ∧ (wr.drew.alloc (.cells #[.int .u8 (z : Int)] 5)).cell? ⟨b, D, none⟩ = some (.int .u8 (z : Int)) := ⟨cell_of_row _ _ 0 _ _ _ HG2.out, (hb1.cell (p := ⟨b, D, none⟩) hbw).trans hHeld.2⟩
        clear hHeld hb1 HG HO HB
        refine' wpAnyT_one (i := 18) (o := ?oin18) (by kernel_rfl) ?hin18 (fun K hK => ?stn18)
        case hin18 => (simp only [List.getElem?_toArray, List.getElem?_cons_zero, List.getElem?_cons_succ]; rfl)
        go_simp
        refine hK.out _ _ (fun _ => hHeld2) ?_
        clear hK K
        (try simp only [Act.put, List.setIfInBounds_toArray, List.set_cons_zero, List.set_cons_succ])
        have hcm : wr.drew.alloc (.cells #[.int .u8 (z : Int)] 5) = (wr.alloc (.cells #[.int .u8 (z : Int)] 5)).drew := rfl
        rw [hcm] at HG2 HO2 HY HBX hHeld2
        clear hcm
        obtain ⟨W2, hW2⟩ : ∃ W2, (wr.alloc (.cells #[.int .u8 (z : Int)] 5)).drew = W2 := ⟨_, rfl⟩
        have hz2 : base ≤ W2.heap.size := by rw [← hW2]; show _ ≤ (wr.alloc _).heap.size; simp; omega
        have hz2' : w.heap.size ≤ W2.heap.size := by rw [← hW2]; show _ ≤ (wr.alloc _).heap.size; simp; omega
        rw [hW2] at HG2 HO2 HY HBX hHeld2 ⊢
        clear hW2
        refine' wpAnyT_one (i := 19) (o := ?oin19) (by kernel_rfl) ?hin19 (fun K hK => ?stn19)
        case hin19 => (simp only [List.getElem?_toArray, List.getElem?_cons_zero, List.getElem?_cons_succ]; rfl)
        refine step_append_one rfl (.tmp 78) (.tmp 92) rfl base b (D + d) cv _ (by simp [Act.eval]) HO2.out ⟨wr.heap.size, 0, none⟩ 1 z (by simp [Act.eval]) HY.out (by omega) hz2 ?_
        intro v3 W3 ho3 hg3 hk3
        have HG3 := hid (bx_grown' HG2.out HO2.out hg3)
        have HBZ := hid (HBX.out.grown hg3 (by omega) (fun q e => by injection e with e; subst e; exact (HO2.out.lt _ rfl).1))
        obtain ⟨b3, c3, rfl⟩ : ∃ b3 c3, v3 = .slice (some ⟨b3, 0, none⟩) (D + d + 1) c3 := by
          rcases ho3.2 with ⟨_, e⟩ | ⟨b3, c3, _, e, _⟩
          · omega
          · exact ⟨b3, c3, e⟩
        have hz3 : w.heap.size ≤ W3.heap.size := Nat.le_trans hz2' hg3.size
        have hHeld : W3.cell? ⟨g, 0, none⟩ = some (.slice (some ⟨b, 0, none⟩) (D + d) cv) ∧ W3.cell? ⟨b, D, none⟩ = some (.int .u8 (z : Int)) := ⟨cell_of_row _ _ 0 _ _ _ HG3.out, (hk3 D (by omega)).trans hHeld2.2⟩
        have HO3 := hid ho3
        have f0 := box_fr HG3.out 0
        clear hHeld2 ho3 hg3 hk3 HBX HG2 HO2 HY
        refine hK.out _ _ (fun _ => hHeld) ?_
        clear hK K
        (try simp only [Act.put, List.setIfInBounds_toArray, List.set_cons_zero, List.set_cons_succ])
        refine' wpAnyT_one (i := 20) (o := ?oin20) (by kernel_rfl) ?hin20 (fun K hK => ?stn20)
        case hin20 => (simp only [List.getElem?_toArray, List.getElem?_cons_zero, List.getElem?_cons_succ]; rfl)
        go_simp
        refine hK.out _ _ (fun _ => hHeld) ?_
        clear hK K
        (try simp only [Act.put, List.setIfInBounds_toArray, List.set_cons_zero, List.set_cons_succ])
        refine' wpAnyT_one (i := 21) (o := ?oin21) (by kernel_rfl) ?hin21 (fun K hK => ?stn21)
        case hin21 => (simp only [List.getElem?_toArray, List.getElem?_cons_zero, List.getElem?_cons_succ]; rfl)
        go_simp
        refine hK.out _ _ (fun _ => hHeld) ?_
        clear hK K
        (try simp only [Act.put, List.setIfInBounds_toArray, List.set_cons_zero, List.set_cons_succ])
        refine' wpAnyT_one (i := 22) (o := ?oin22) (by kernel_rfl) ?hin22 (fun K hK => ?stn22)
        case hin22 => (simp only [List.getElem?_toArray, List.getElem?_cons_zero, List.getElem?_cons_succ]; rfl)
        go_simp
        refine hK.out _ _ (fun h => absurd h (by decide)) ?_
        clear hK K
        (try simp only [Act.put, List.setIfInBounds_toArray, List.set_cons_zero, List.set_cons_succ])
        refine wpAnyT_done (by kernel_rfl) ?_ _
        have HG4 := hid (bx_0 HG3.out (.slice (some ⟨b3, 0, none⟩) (D + d + 1) c3))
        have HN4 := hid (own_not HG3.out HO3.out)
        have HO4 := hid (show (W3.setCell ⟨g, 0, none⟩ (.slice (some ⟨b3, 0, none⟩) (D + d + 1) c3)).ownsRow base 5 1 (.slice (some ⟨b3, 0, none⟩) (D + d + 1) c3) (D + d + 1) ((cp d t k).map byteV ++ [byteV z]) from ownsRow_setCell_other HO3.out HN4.out _)
        have HB4 := hid (show Below base w (W3.setCell ⟨g, 0, none⟩ (.slice (some ⟨b3, 0, none⟩) (D + d + 1) c3)) from HBZ.out.setCell hbg _)
        clear hHeld f0 HG3 HN4 HO3 HBZ
        obtain ⟨W4, hW4⟩ : ∃ W4, W3.setCell ⟨g, 0, none⟩ (.slice (some ⟨b3, 0, none⟩) (D + d + 1) c3) = W4 := ⟨_, rfl⟩
        have hz4 : w.heap.size ≤ W4.heap.size := by rw [← hW4]; simpa using hz3
        rw [hW4] at HG4 HO4 HB4 ⊢
        clear hW4
        have hL1 : L + (k + 1) = D + d + 1 := by have := HD.out; omega
        have HG5 : Hid (W4.heap[g]? = some (.cells #[.slice (some ⟨b3, 0, none⟩) (L + (k + 1)) c3, vm, vr] 57)) := hid (by rw [hL1]; exact HG4.out)
        have HO5 : Hid (W4.ownsRow base 5 1 (.slice (some ⟨b3, 0, none⟩) (L + (k + 1)) c3) (L + (k + 1)) ((cp d t (k + 1)).map byteV)) := hid (by rw [hL1, HNX.out, List.map_append]; exact HO4.out)
        clear hL1 HG4 HO4
        go_wp2
        go_roundw
        case rel => exact ⟨k + 1, b3, c3, by omega, by go_num, HG5, HO5, HB4, hz4⟩
        case measure => simp [Go.RowKit.intOf]; omega
      · obtain rfl : k = n := by omega
        go_wp2
        go_ret
        have HR := HROOM.out
        refine ⟨HB.out, .inr ⟨_, _, _, HE.out, rfl, .slice (some ⟨b, 0, none⟩) (L + k) cv, vr, by rw [← HR]; exact HG.out, by rw [cp_len, HL.out]; exact HO.out, HFK.out, HFNK.out⟩⟩
  · rw [hd] at hM
    dsimp only at hM
    have HMM := hid hM
    have d1 : (er != 0) = true := by simpa using hne
    have H0 := hid hne
    clear hd hne hM
    go_wp2
    go_ret
    exact ⟨HBE.out, .inl ⟨er, HM.out.trans HMM.out.symm, H0.out, rfl⟩⟩
end Go.Proofs.Ytldlddoealpomaa
