/- The reference's Marks and List. -/
import Derived.Test.YtkchenhkolpinaaV
namespace Go.Proofs.Ytkchenhkolpinaa
open Go.RowKit

theorem below_of_grown {w w1 wr : World} {g : Nat} (h : Below w.heap.size w wr) (hg : wr.grownBy w1 (some g)) (hw : w.heap.size ≤ g) : Below w.heap.size w w1 :=
  h.grown hg h.size (fun k e => by injection e with e; omega)

set_option maxHeartbeats 4000000 in
set_option maxRecDepth 100000 in
theorem marks_any (l : List (Int × Int)) (v : Value) (w : World) (hv : Ext w v l) (hl : l.length ≤ 10000) :
    Calls Try.prog 37 #[v] w fun e w' => ∃ g, e = .returned (.slice (some ⟨g, 0, none⟩) 4096 4096) ∧ Mk w' g (fun x => mem l x) ∧ w.heap.size ≤ g ∧ Below w.heap.size w w' := by
  obtain ⟨hr, A, cap, rfl, hcap, hcm, b, off, hA, hc⟩ := hv
  have HR := hid hr
  have HC := hid hc
  clear hr hc
  have HM : Hid (Mk (w.alloc (.cells falses 4)) w.heap.size (fun x => mem (l.take 0) x)) := hid ⟨falses, heap_alloc_new w _, falses_size, fun i hi => by rw [falses_get i hi, List.take_zero]; rfl⟩
  have HB : Hid (Below w.heap.size w (w.alloc (.cells falses 4))) := hid ((Below.refl _ w).alloc (Nat.le_refl _) _)
  have hmk := make49 w
  obtain ⟨W1, hW1⟩ : ∃ W1, W1 = w.alloc (.cells falses 4) := ⟨_, rfl⟩
  rw [← hW1] at HM HB hmk
  clear hW1
  have HA := fun (s n : Int) (g : Nat) (m : Int → Bool) (W : World) (hm : Mk W g m) (hs : R64 s) (hn : R64 n) => add_any s n g m W hm hs hn
  have HAA := hid HA
  clear HA
  go_enter Try.func37, Try.ntmps37
  go_wp2
  go_loopw [4] (fun i wr => ∃ k : Nat, k ≤ l.length ∧ i = .int .i64 k ∧ Hid (Mk wr w.heap.size (fun x => mem (l.take k) x)) ∧ Below w.heap.size w wr) (fun i _ => l.length - (intOf i).toNat)
  case atStart => exact ⟨0, Nat.zero_le _, rfl, HM, HB.out⟩
  case round =>
    obtain ⟨k, hk, rfl, hm, hB⟩ := hrel
    by_cases hlt : k < l.length
    · obtain ⟨hA1, hb⟩ := hA (by omega)
      subst hA1
      obtain ⟨⟨s, n⟩, he⟩ : ∃ e, l[k]? = some e := ⟨l[k], List.getElem?_eq_getElem hlt⟩
      obtain ⟨hs, hn⟩ := HR.out (s, n) (List.mem_of_getElem? he)
      have hc1 := (hB.cell (p := ⟨b, off + k * 2, none⟩) hb).trans (HC.out k _ he).1
      have hc2 := (hB.cell (p := ⟨b, off + k * 2 + 1, none⟩) hb).trans (HC.out k _ he).2
      have HE := hid he
      clear he
      dsimp only at hc1 hc2 hs hn
      go_wp2_with (go_at_call 47; refine (HAA.out _ _ _ _ _ hm.out hs hn).mono ?_; rintro e w1 ⟨rfl, hm1, hg1⟩; have HM1 := hid hm1; clear hm1)
      go_roundw
      case rel => exact ⟨k + 1, by omega, by go_num, hid (HM1.out.congr (fun j _ => by rw [mem_take_succ HE])), below_of_grown hB hg1 (Nat.le_refl _)⟩
      case measure => simp [intOf]; omega
    · obtain rfl : k = l.length := by omega
      go_wp2
      refine bodyPost_ret (results_tmp rfl _ _ _) rfl ?_
      exact ⟨_, rfl, hm.out.congr (fun j _ => by rw [List.take_length]), Nat.le_refl _, hB⟩

theorem linv_end {m : Int → Bool} {n : Nat} {out : List (Int × Int)} (h : LInv m n out) : Canon 0 out ∧ ∀ x, mem out x = (decide (0 ≤ x ∧ x < n) && m x) := ⟨h.1, h.2.1⟩

set_option maxHeartbeats 4000000 in
set_option maxRecDepth 100000 in
theorem list_any (g n cap : Nat) (m : Int → Bool) (w : World) (hm : Mk w g m) (hn : n ≤ 4096) (hcap : n ≤ cap) (hcm : cap ≤ 4096) :
    Calls Try.prog 36 #[.slice (some ⟨g, 0, none⟩) n cap] w (Made w fun x => decide (0 ≤ x ∧ x < n) && m x) := by
  obtain ⟨i0, hi, hz0, hz1, hz2⟩ := info_parts info44
  have hglt := hm.lt
  have HM := hid hm
  clear hm
  have hb44 := fun (s : Int) X => build44 s 1 X
  go_enter Try.func36, Try.ntmps36
  go_wp2
  go_loopw [3, 4] (fun v i wr => ∃ (k : Nat) (out : List (Int × Int)), k ≤ n ∧ i = .int .i64 k ∧ Hid (LInv m k out) ∧ wr.ownsRow w.heap.size 44 2 v out.length (xflat out) ∧ Below w.heap.size w wr) (fun _ i _ => n - (intOf i).toNat)
  case atStart => exact ⟨0, [], Nat.zero_le _, rfl, hid (LInv.start m), World.ownsRow_nil _ _ _ _, Below.refl _ _⟩
  case round =>
    obtain ⟨k, out, hk, rfl, HL, hown, hB⟩ := hrel
    by_cases hlt : k < n
    · have x1 := (hB.cell (p := ⟨g, k, none⟩) hglt).trans (HM.out.cell (i := k) (by omega))
      cases hmk : m k with
      | false =>
        rw [hmk] at x1
        have HK := hid hmk
        clear hmk
        go_wp2
        go_roundw
        case rel => exact ⟨k + 1, out, by omega, by go_num, hid (HL.out.skip HK.out), hown, hB⟩
        case measure => simp [intOf]; omega
      | true =>
        rw [hmk] at x1
        have HK := hid hmk
        clear hmk
        by_cases h0 : 0 < k
        · have hi1 : (k : Int) - 1 = ((k - 1 : Nat) : Int) := by omega
          have x2 := (hB.cell (p := ⟨g, k - 1, none⟩) hglt).trans (HM.out.cell (i := k - 1) (by omega))
          cases hmp : m ((k - 1 : Nat) : Int) with
          | false =>
            rw [hmp] at x2
            have HP := hid hmp
            clear hmp
            have hln := len_of_canon HL.out.1
            obtain ⟨L, hL⟩ : ∃ L, out.length = L := ⟨_, rfl⟩
            rw [hL] at hown hln
            have HLL := hid hL
            clear hL
            go_wp2_with (at_builtin; refine wpList_append_own _ rfl _ _ 22 rfl w.heap.size 44 i0 (.agg #[.int .i64 0, .int .i64 0]) 2 16 Try.underlying22 hi hz0 hz1 hz2 rfl (by decide) _ _ _ rfl (hown.alloc _) ⟨wr.heap.size, 0, none⟩ 1 1 _ rfl (xflat_length [((k : Int), 1)]) (cells_new wr 44 _) (one_cells _ _) (by unfold maxLen; omega) (by omega) (by have := hB.size; simp; omega) ?_)
            intro v' w2 hown2 hgrow _
            have hB2 : Below w.heap.size w w2 := (hB.alloc hB.size _).grown hgrow (by have := hB.size; simp; omega) (fun q hq => (hown.lt q hq).1)
            have HO := hid hown2
            clear hown2 hgrow hown
            go_wp2
            go_roundw
            case rel =>
              refine ⟨k + 1, out ++ [((k : Int), 1)], by omega, by go_num, hid (HL.out.fresh HK.out (by omega) (fun _ => by rw [hi1]; exact HP.out)), ?_, hB2⟩
              rw [xflat_append, List.length_append, HLL.out]
              exact HO.out
            case measure => simp [intOf]; omega
          | true =>
            rw [hmp] at x2
            have HP := hid hmp
            clear hmp
            obtain ⟨pre, s, c, rfl, hsc⟩ := HL.out.prev h0 (by rw [hi1]; exact HP.out)
            have hln := len_of_canon HL.out.1
            obtain ⟨_, hs0, _, hc0, hsc2⟩ := canon_split HL.out.1
            rw [List.length_append] at hown hln
            simp only [List.length_cons, List.length_nil] at hown hln
            obtain ⟨g', cap', rfl⟩ := ownsRow_succ hown
            have hln2 : pre.length ≤ 4096 := by omega
            have y1 : wr.cell? ⟨g', pre.length * 2 + 1, none⟩ = some (.int .i64 c) := by
              rw [hown.cellAt _ (by omega), xflat_get _ _ _ (by omega)]
              simp [enc2]
            have y2 := hown.frozenAt (pre.length * 2 + 1)
            obtain ⟨hst, hgr⟩ := hown.stored (pre.length * 2 + 1) (.int .i64 (c + 1))
            have hB2 := below_of_grown hB hgr (hown.lt g' rfl).1
            have hxs : (xflat (pre ++ [(s, c)])).set (pre.length * 2 + 1) (.int .i64 (c + 1)) = xflat (pre ++ [(s, c + 1)]) := by
              rw [xflat_append, xflat_append, List.set_append_right _ _ (by rw [xflat_length]; omega), xflat_length]
              congr 1
              have : pre.length * 2 + 1 - pre.length * 2 = 1 := by omega
              rw [this]
              rfl
            rw [hxs] at hst
            have HO := hid hst
            clear hst hgr hown hxs
            go_wp2
            go_roundw
            case rel =>
              refine ⟨k + 1, pre ++ [(s, c + 1)], by omega, by go_num, hid (HL.out.longer HK.out (by omega) hsc), ?_, hB2⟩
              rw [List.length_append]
              exact HO.out
            case measure => simp [intOf]; omega
        · obtain rfl : k = 0 := by omega
          have hln := len_of_canon HL.out.1
          obtain ⟨L, hL⟩ : ∃ L, out.length = L := ⟨_, rfl⟩
          rw [hL] at hown hln
          have HLL := hid hL
          clear hL
          go_wp2_with (at_builtin; refine wpList_append_own _ rfl _ _ 22 rfl w.heap.size 44 i0 (.agg #[.int .i64 0, .int .i64 0]) 2 16 Try.underlying22 hi hz0 hz1 hz2 rfl (by decide) _ _ _ rfl (hown.alloc _) ⟨wr.heap.size, 0, none⟩ 1 1 _ rfl (xflat_length [((0 : Int), 1)]) (cells_new wr 44 _) (one_cells _ _) (by unfold maxLen; omega) (by omega) (by have := hB.size; simp; omega) ?_)
          intro v' w2 hown2 hgrow _
          have hB2 : Below w.heap.size w w2 := (hB.alloc hB.size _).grown hgrow (by have := hB.size; simp; omega) (fun q hq => (hown.lt q hq).1)
          have HO := hid hown2
          clear hown2 hgrow hown
          go_wp2
          go_roundw
          case rel =>
            refine ⟨0 + 1, out ++ [((0 : Int), 1)], by omega, by go_num, hid (HL.out.fresh HK.out (by omega) (fun h => absurd h (by omega))), ?_, hB2⟩
            rw [xflat_append, List.length_append, HLL.out]
            exact HO.out
          case measure => simp [intOf]; omega
    · obtain rfl : k = n := by omega
      go_wp2
      refine bodyPost_ret (results_tmp rfl _ _ _) rfl ?_
      exact ⟨_, out, rfl, (linv_end HL.out).1, (linv_end HL.out).2, ext_of_own hown (r64_of_canon HL.out.1), hB⟩
end Go.Proofs.Ytkchenhkolpinaa
