/- The law ChecksumDetects is walked. -/
import Derived.Test.YtgkcdmbhniipdaaN
import Derived.StillTailTactics
import Derived.Stop.BytesEq
import Derived.IntWalk
namespace Go.Proofs.Ytgkcdmbhniipdaa
open Go.RowKit Go.Lib

/-- The bytes x, of which those at i, .., i + k - 1 have been changed. -/
def chg (x : List Nat) (i : Nat) (b : List Nat) : Nat → List Nat
  | 0 => x
  | k + 1 => (chg x i b k).set (i + k) (x.getD (i + k) 0 ^^^ b.getD k 0)
theorem chg_length (x : List Nat) (i : Nat) (b : List Nat) (k : Nat) : (chg x i b k).length = x.length := by
  induction k with
  | zero => rfl
  | succ k ih => rw [chg, List.length_set, ih]
theorem chg_get (x : List Nat) (i : Nat) (b : List Nat) (k j : Nat) (hj : j < x.length) : (chg x i b k)[j]? = some (if i ≤ j ∧ j < i + k then x.getD j 0 ^^^ b.getD (j - i) 0 else x.getD j 0) := by
  induction k with
  | zero => rw [if_neg (by omega), chg, List.getElem?_eq_getElem hj]; simp [List.getD, hj]
  | succ k ih =>
    rw [chg, List.getElem?_set]
    by_cases h : i + k = j
    · subst h
      rw [if_pos rfl, if_pos (by rw [chg_length]; exact hj), if_pos (by omega), Nat.add_sub_cancel_left]
    · rw [if_neg h, ih]
      by_cases h2 : i ≤ j ∧ j < i + k
      · rw [if_pos h2, if_pos (by omega)]
      · rw [if_neg h2, if_neg (by omega)]
theorem getD_B8 {x : List Nat} (h : B8 x) (j : Nat) : x.getD j 0 < 256 := by
  by_cases hj : j < x.length
  · simp only [List.getD, List.getElem?_eq_getElem hj, Option.getD_some]
    exact h _ (List.getElem_mem hj)
  · simp [List.getD, List.getElem?_eq_none (by omega : x.length ≤ j)]
theorem chg_B8 {x b : List Nat} (i k : Nat) (hx : B8 x) (hb : B8 b) : B8 (chg x i b k) := by
  induction k with
  | zero => exact hx
  | succ k ih => rw [chg]; exact B8_set ih (Nat.xor_lt_two_pow (n := 8) (getD_B8 hx _) (getD_B8 hb _))
theorem chg_differs {x : List Nat} {i b0 b1 b2 b3 : Nat} (hi : i + 4 ≤ x.length) (h0 : b0 < 256) (h1 : b1 < 256) (h2 : b2 < 256) (h3 : b3 < 256) (hne : ¬ (b0 = 0 ∧ b1 = 0 ∧ b2 = 0 ∧ b3 = 0)) : sum0 x ≠ sum0 (chg x i [b0, b1, b2, b3] 4) := by
  refine sum_differs (i := i) (m := x.length - i - 4) (by rw [chg_length]) ?_ h0 h1 h2 h3 hne
  apply List.ext_getElem?
  intro j
  unfold diffs
  by_cases hj : j < x.length
  · rw [List.getElem?_zipWith, chg_get _ _ _ _ _ hj, List.getElem?_eq_getElem hj]
    have hx : x.getD j 0 = x[j] := by simp [List.getD, hj]
    rw [hx]
    simp only []
    by_cases ha : j < i
    · rw [if_neg (by omega), List.getElem?_append_left (by simpa using ha)]
      simp [ha, Nat.xor_self]
    · rw [List.getElem?_append_right (by simpa using ha), List.length_replicate]
      by_cases hc : j < i + 4
      · rw [if_pos (by omega), ← Nat.xor_assoc, Nat.xor_self, Nat.zero_xor, List.getElem?_append_left (by simp; omega)]
        obtain ⟨d, hd⟩ : ∃ d, j - i = d := ⟨_, rfl⟩
        rw [hd]
        have hd4 : d < 4 := by omega
        rcases d with _ | _ | _ | _ | d
        · rfl
        · rfl
        · rfl
        · rfl
        · omega
      · rw [if_neg (by omega), List.getElem?_append_right (by simp; omega)]
        simp only [Nat.xor_self, List.length_cons, List.length_nil]
        rw [List.getElem?_replicate, if_pos (by omega)]
  · rw [List.getElem?_eq_none (by simp [chg_length]; omega), List.getElem?_eq_none (by simp; omega)]

theorem cell_byte {x : Nat} (h : x < 256) : Extern.Stop.cell (UInt8.ofNat x) = byteV x := by
  unfold Extern.Stop.cell byteV
  rw [UInt8.toNat_ofNat', Nat.mod_eq_of_lt h]
  rfl
theorem map_cells {l : List Nat} (h : B8 l) : (l.map UInt8.ofNat).map Extern.Stop.cell = l.map byteV := by
  rw [List.map_map]
  exact List.map_congr_left (fun x hx => cell_byte (h x hx))
theorem size5 (w : World) : (sizeOf 5).run Try.prog w = .ok 1 w := by kernel_rfl
theorem map_u8_inj {l m : List Nat} (hl : B8 l) (hm : B8 m) : (l.map UInt8.ofNat == m.map UInt8.ofNat) = (l == m) := by
  rw [Bool.eq_iff_iff, beq_iff_eq, beq_iff_eq]
  refine ⟨fun h => ?_, fun h => by rw [h]⟩
  have h2 := congrArg (List.map UInt8.toNat) h
  rw [List.map_map, List.map_map] at h2
  have e : ∀ k : List Nat, B8 k → k.map (UInt8.toNat ∘ UInt8.ofNat) = k := fun k hk => by
    conv => rhs; rw [← List.map_id k]
    exact List.map_congr_left (fun x hx => by
      show (UInt8.ofNat x).toNat = x
      rw [UInt8.toNat_ofNat', Nat.mod_eq_of_lt (hk x hx)])
  rw [e l hl, e m hm] at h2
  exact h2
theorem eql_bytes (t n : Nat) (ht : Try.prog.underlying t = some (.array n 5)) (l m : List Nat) (hl : B8 l) (hm : B8 m) (h1 : l.length = n) (h2 : m.length = n) (w : World) :
    (Op.equalIn 10000 t (.agg (l.map byteV).toArray) (.agg (m.map byteV).toArray)).run Try.prog w = .ok (l == m) w := by
  have h := run_equalIn_bytes (P := Try.prog) w 9998 t 5 n ht Try.underlying5 size5 (l.map UInt8.ofNat) (m.map UInt8.ofNat) (by rw [List.length_map]; exact h1) (by rw [List.length_map]; exact h2)
  rw [map_cells hl, map_cells hm, map_u8_inj hl hm] at h
  exact h

set_option maxHeartbeats 2000000 in
theorem detects_walk (x : List Nat) (at' b0 b1 b2 b3 : Nat) (vx : Value) (w : World) (hx : Byt w vx x) (hnx : NilOk vx) (ha : at' < 65536) (h0 : b0 < 256) (h1 : b1 < 256) (h2 : b2 < 256) (h3 : b3 < 256) :
    Calls Try.prog 8 #[vx, .int .u16 (at' : Int), .agg #[.int .u8 (b0 : Int), .int .u8 (b1 : Int), .int .u8 (b2 : Int), .int .u8 (b3 : Int)]] w fun e w' => e = .returned (.bool true) ∧ Below w.heap.size w w' := by
  have hlx := byt_len hx
  have HX := hid hx
  have HNX := hid hnx
  obtain ⟨A, ca, rfl⟩ := byt_form hx
  clear hx hnx
  obtain ⟨wb, hwb⟩ : ∃ wb, w.alloc (.cells #[.int .u8 (b0 : Int), .int .u8 (b1 : Int), .int .u8 (b2 : Int), .int .u8 (b3 : Int)] 41) = wb := ⟨_, rfl⟩
  have hbx : wb.heap[w.heap.size]? = some (.cells #[.int .u8 (b0 : Int), .int .u8 (b1 : Int), .int .u8 (b2 : Int), .int .u8 (b3 : Int)] 41 (0, 0)) := by rw [← hwb]; exact heap_alloc_new _ _
  have HBW : Hid (Below w.heap.size w wb) := by rw [← hwb]; exact hid (al1 _ _)
  have c0 := cell_of_row _ _ 0 _ _ _ hbx
  have c1 := cell_of_row _ _ 1 _ _ _ hbx
  have c2 := cell_of_row _ _ 2 _ _ _ hbx
  have c3 := cell_of_row _ _ 3 _ _ _ hbx
  simp at c0 c1 c2 c3
  have HBX := hid hbx
  clear hbx
  have hout : ∀ w0 : World, Below w.heap.size w w0 → Calls Try.prog 12 #[] w0 fun e w' => e = .returned (.bool true) ∧ Below w.heap.size w w' := fun w0 h => (awake_any w0).mono fun e w' ⟨he, hb⟩ => ⟨he, below_both h hb⟩
  have HA := hid hout
  clear hout
  have h4 : B8 [b0, b1, b2, b3] := fun y hy => by simp at hy; omega
  have heq : ∀ W : World, (Op.equalIn 10000 41 (.agg #[.int .u8 (b0 : Int), .int .u8 (b1 : Int), .int .u8 (b2 : Int), .int .u8 (b3 : Int)]) (.agg #[.int .u8 0, .int .u8 0, .int .u8 0, .int .u8 0])).run Try.prog W = .ok ([b0, b1, b2, b3] == [0, 0, 0, 0]) W :=
    fun W => eql_bytes 41 4 Try.underlying41 [b0, b1, b2, b3] [0, 0, 0, 0] h4 (fun y hy => by simp at hy; omega) rfl rfl W
  have H4 := hid h4
  clear h4
  by_cases hs : x.length < 4
  · clear heq
    go_enter Try.func8, Try.ntmps8
    go_wp2_with fail
    refine (HA.out _ HBW.out).mono ?_
    rintro e w1 ⟨rfl, hb⟩
    have HB := hid hb
    clear hb
    go_wp2
    go_ret
    exact ⟨rfl, HB.out⟩
  · by_cases hl : x.length ≤ 2000
    · by_cases hz : b0 = 0 ∧ b1 = 0 ∧ b2 = 0 ∧ b3 = 0
      · have hbb : ([b0, b1, b2, b3] == [0, 0, 0, 0]) = true := by
          obtain ⟨rfl, rfl, rfl, rfl⟩ := hz
          rfl
        rw [hbb] at heq
        clear hz hbb
        go_enter Try.func8, Try.ntmps8
        go_wp2_with fail
        refine (HA.out _ HBW.out).mono ?_
        rintro e w1 ⟨rfl, hb⟩
        have HB := hid hb
        clear hb
        go_wp2
        go_ret
        exact ⟨rfl, HB.out⟩
      · have hbb : ([b0, b1, b2, b3] == [0, 0, 0, 0]) = false := by
          rw [beq_eq_false_iff_ne]
          intro e
          simp at e
          exact hz e
        rw [hbb] at heq
        have HZ := hid hz
        clear hz hbb
        obtain ⟨j, hj⟩ : ∃ j, at' % (x.length - 3) = j := ⟨_, rfl⟩
        have hjl : j < x.length - 3 := by rw [← hj]; exact Nat.mod_lt _ (by omega)
        have hje : (at' : Int) % ((x.length : Int) - 3) = (j : Int) := by
          rw [← hj, Int.natCast_emod]
          congr 1
          omega
        have hpos : 0 < x.length := by omega
        have HNE := hid (chg_differs (x := x) (i := j) (by omega) h0 h1 h2 h3 HZ.out)
        clear hj HZ
        have hwl : w.heap.size < wb.heap.size := by rw [← hwb]; simp
        obtain ⟨bl, hbl⟩ : ∃ bl, [b0, b1, b2, b3] = bl := ⟨_, rfl⟩
        have HBL : Hid (∀ k : Nat, k < 4 → wb.cell? ⟨w.heap.size, k, none⟩ = some (.int .u8 (bl.getD k 0 : Nat))) := hid (fun k hk => by
          rw [← hbl]
          rcases k with _ | _ | _ | _ | k
          · exact c0
          · exact c1
          · exact c2
          · exact c3
          · exact absurd hk (by omega))
        rw [hbl] at H4 HNE
        have HWB := hid hwb
        have HCC := hid (show wb.cell? ⟨w.heap.size, 0, none⟩ = some (.int .u8 (b0 : Int)) ∧ wb.cell? ⟨w.heap.size, 1, none⟩ = some (.int .u8 (b1 : Int)) ∧ wb.cell? ⟨w.heap.size, 2, none⟩ = some (.int .u8 (b2 : Int)) ∧ wb.cell? ⟨w.heap.size, 3, none⟩ = some (.int .u8 (b3 : Int)) from ⟨c0, c1, c2, c3⟩)
        have HBJ := hid (show j + 3 < x.length by omega)
        clear hbl
        go_enter Try.func8, Try.ntmps8
        go_wp2_with (at_builtin; refine append_byt rfl (.tmp 24) (.tmp 25) rfl wb.heap.size _ 0 [] rfl (own_empty wb) x _ rfl (HX.out.below (HBW.out.trans ((al1 wb _).mono (Nat.le_of_lt hwl)))) HNX.out (by omega) (by simp) ?_; intro v1 w1 hown1 hg1; have HB1 := hid (below_own (al1 wb _) (own_empty wb) hg1 (by simp) (Nat.le_refl _)); rw [Nat.zero_add, List.nil_append] at hown1; obtain ⟨g, cap, hve, hg0, hgl⟩ := own_pos hown1 hpos; subst hve; have HO1 := hid hown1; clear hown1 hg1 hwb c0 c1 c2 c3)
        clear heq
        rw [hje]
        clear hje
        go_loopw [9] (fun i wr => ∃ k : Nat, k ≤ 4 ∧ i = .int .i64 (k : Int) ∧ Hid (wr.ownsRow wb.heap.size 5 1 (.slice (some ⟨g, 0, none⟩) x.length cap) x.length ((chg x j bl k).map byteV)) ∧ Hid (Below wb.heap.size wb wr)) (fun i _ => 4 - (intOf i).toNat)
        case atStart => exact ⟨0, by omega, rfl, HO1, HB1⟩
        case round =>
          obtain ⟨k, hk, rfl, HO, HB⟩ := hrel
          by_cases hlt : k < 4
          · have hz := chg_get x j bl k (j + k) (by omega)
            rw [if_neg (by omega)] at hz
            have hc1 := cell_own HO.out hz
            have hf1 := HO.out.frozenAt (j + k)
            have hcb := (HB.out.cell (p := ⟨w.heap.size, k, none⟩) hwl).trans (HBL.out k hlt)
            have hzl := getD_B8 HX.out.1 (j + k)
            have hbl := getD_B8 H4.out k
            obtain ⟨z, hze⟩ : ∃ z, x.getD (j + k) 0 = z := ⟨_, rfl⟩
            obtain ⟨c, hce⟩ : ∃ c, bl.getD k 0 = c := ⟨_, rfl⟩
            rw [hze] at hc1 hzl
            rw [hce] at hcb hbl
            have hxo := u8_xor_nat z c hzl hbl
            have HN : Hid (chg x j bl (k + 1) = (chg x j bl k).set (j + k) (z ^^^ c)) := hid (by rw [chg, hze, hce])
            clear hz hze hce
            have hsum : IntKind.i64.wrap ((j : Int) + (k : Int)) = (j : Int) + (k : Int) := IntWalk.i64_in _ (by omega)
            have hsb : (j : Int) + (k : Int) < (x.length : Int) := by omega
            have hs0 : (0 : Int) ≤ (j : Int) + (k : Int) := by omega
            have hst : ((j : Int) + (k : Int)).toNat = j + k := by omega
            have hki : (k : Int) < 4 := by omega
            go_wp2
            go_still_tail 15, (by kernel_rfl)
            obtain ⟨W4, hW4⟩ : ∃ W4 : World, ({ heap := wr.heap, tape := wr.tape, drawn := wr.drawn + 1, os := wr.os, output := wr.output } : World) = W4 := ⟨_, rfl⟩
            have hc4 : W4.cell? ⟨g, j + k, none⟩ = some (.int .u8 (z : Int)) := by rw [← hW4]; exact hc1
            have hf4 : W4.frozen? ⟨g, j + k, none⟩ = false := by rw [← hW4]; exact hf1
            have HO4 : Hid (W4.ownsRow wb.heap.size 5 1 (.slice (some ⟨g, 0, none⟩) x.length cap) x.length ((chg x j bl k).map byteV)) := by rw [← hW4]; exact hid HO.out
            have HB4 : Hid (Below wb.heap.size wb W4) := by rw [← hW4]; exact hid ⟨HB.out.os, HB.out.tape, HB.out.output, HB.out.size, HB.out.block⟩
            rw [hW4]
            clear hW4 hc1 hf1 hcb HO HB hsum hst hxo
            go_wp2
            go_roundw
            case rel => exact ⟨k + 1, by omega, by go_num, hid (by
              have h := (HO4.out.stored (j + k) (byteV (z ^^^ c))).1
              rw [map_set, ← HN.out] at h
              exact h), hid (HB4.out.setCell (p := ⟨g, j + k, none⟩) hg0 _)⟩
            case measure => simp [intOf]; omega
          · obtain rfl : k = 4 := by omega
            have h8 := chg_B8 j 4 HX.out.1 H4.out
            have HV := hid (byt_of_own HO.out h8)
            have HB2 := hid (HBW.out.trans (HB.out.mono (Nat.le_of_lt hwl)))
            have HD1 := hid (fun (w0 : World) (v : Value) (hv : Byt w0 v x) => sum_any x v w0 hv)
            have HD2 := hid (fun (w0 : World) (v : Value) (hv : Byt w0 v (chg x j bl 4)) => sum_any (chg x j bl 4) v w0 hv)
            obtain ⟨d1, hd1⟩ : ∃ d, sum0 x = d := ⟨_, rfl⟩
            obtain ⟨d2, hd2⟩ : ∃ d, sum0 (chg x j bl 4) = d := ⟨_, rfl⟩
            have hne := HNE.out
            rw [hd1] at hne HD1
            rw [hd2] at hne HD2
            have hdd : ((d1 : Int) != (d2 : Int)) = true := by rw [bne_iff_ne]; omega
            clear hne hd1 hd2 h8 HNE HO HB
            go_wp2_with fail
            refine (awake_any _).mono ?_
            rintro e w4 ⟨rfl, hb⟩
            replace HV := hid (HV.out.below hb)
            replace HB2 := hid (below_both HB2.out hb)
            clear hb
            go_wp2_with fail
            refine (HD1.out _ _ (HX.out.below HB2.out)).mono ?_
            rintro e w5 ⟨rfl, hb⟩
            replace HV := hid (HV.out.below hb)
            replace HB2 := hid (below_both HB2.out hb)
            clear hb
            go_wp2_with fail
            refine (HD2.out _ _ HV.out).mono ?_
            rintro e w6 ⟨rfl, hb⟩
            replace HB2 := hid (below_both HB2.out hb)
            clear hb
            go_wp2
            go_ret
            exact ⟨rfl, HB2.out⟩
    · clear heq
      go_enter Try.func8, Try.ntmps8
      go_wp2_with fail
      refine (HA.out _ HBW.out).mono ?_
      rintro e w1 ⟨rfl, hb⟩
      have HB := hid hb
      clear hb
      go_wp2
      go_ret
      exact ⟨rfl, HB.out⟩
end Go.Proofs.Ytgkcdmbhniipdaa
