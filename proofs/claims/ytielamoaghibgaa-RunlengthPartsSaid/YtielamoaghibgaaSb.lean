/- The law RunlengthParts: its walk. -/
import Derived.Test.YtielamoaghibgaaSa
import Derived.Test.YtielamoaghibgaaU
namespace Go.Proofs.Ytielamoaghibgaa
open Go.RowKit Go.Lib

theorem cell_of_row' {w : World} {g i : Nat} {cs : List Value} {t : TypeId} {u : Value} (h : w.heap[g]? = some (.cells cs.toArray t)) (hu : cs[i]? = some u) : w.cell? ⟨g, i, none⟩ = some u := by
  rw [cell_of_row _ _ _ _ _ _ h]
  simpa using hu
theorem bl_start (k p : Nat) (l : List Sect) (x : Nat) : ((decide (x < k) && eb l x) || (decide (p < x) && decide (x < p + 1))) = (decide (x < k) && eb l x) := by
  have h : (decide (p < x) && decide (x < p + 1)) = false := by simp; omega
  rw [h, Bool.or_false]
theorem bl_step (F : Bool) (p a x : Nat) (ha : p < a) : ((F || (decide (p < x) && decide (x < a))) || decide (x = a)) = (F || (decide (p < x) && decide (x < a + 1))) := by
  rw [Bool.or_assoc]
  congr 1
  rw [Bool.eq_iff_iff]
  simp
  omega
theorem bl_end {k p E : Nat} {l : List Sect} (h1 : k ≤ p) (h2 : p < E) (g4 : ∀ j, k ≤ j → j ≤ p → eb l j = false) (g5 : ∀ j, p < j → j < E → eb l j = true) (x : Nat) : ((decide (x < k) && eb l x) || (decide (p < x) && decide (x < E))) = (decide (x < E) && eb l x) := by
  by_cases c1 : x < k
  · have e1 : decide (p < x) = false := by simp; omega
    have e2 : decide (x < E) = true := by simp; omega
    simp [e1, e2, c1]
  · by_cases c2 : x ≤ p
    · have e1 : decide (p < x) = false := by simp; omega
      rw [g4 x (by omega) c2, e1]
      simp
    · by_cases c3 : x < E
      · rw [g5 x (by omega) c3]
        simp [c3]
        omega
      · simp [c1, c3]

set_option maxHeartbeats 4000000 in
set_option maxRecDepth 100000 in
theorem parts_walk (l : List Sect) (v : Value) (w : World) (hv : Sec w v l) : Calls Try.prog 9 #[v] w (GoodB w) := by
  have HA := hid awake_any
  have HV := hid hv
  obtain ⟨A, c, rfl⟩ := sec_form hv
  obtain ⟨n, hn⟩ : ∃ n, l.length = n := ⟨_, rfl⟩
  have HN := hid hn
  rw [hn] at HV ⊢
  clear hv hn
  by_cases hbig : 300 < n
  · have d1 : decide ((300 : Int) < (n : Int)) = true := by simp; omega
    go_enter Try.func9, Try.ntmps9
    go_wp2_with fail
    refine (HA.out _).mono ?_
    rintro e w1 ⟨rfl, hb1⟩
    have HB1 := hid hb1
    clear hb1
    go_wp2
    go_ret
    exact ⟨rfl, HB1.out⟩
  · have d1 : decide ((300 : Int) < (n : Int)) = false := by simp; omega
    have hmk : ∀ W : World, (Instr.makeSlice 44 (.int .i64 (n : Int)) (.int .i64 (n : Int))).run Try.prog W = .ok (.slice (some ⟨W.heap.size, 0, none⟩) n n) (W.alloc (.cells (bl n fun _ => false).toArray 4)) := fun W => by
      obtain ⟨i0, hi, hz0, hz1, hz2⟩ := info_parts info4
      have h := run_make (P := Try.prog) W 44 4 i0 _ Try.underlying44 hi hz0 .i64 .i64 (n : Int) (n : Int) (by omega) (by omega) (by rw [hz2]; omega) (by omega)
      rw [hz1, Int.toNat_natCast, made_bools] at h
      exact h
    obtain ⟨W1, hW1⟩ : ∃ W1, w.alloc (.cells (bl n fun _ => false).toArray 4) = W1 := ⟨_, rfl⟩
    have hmk1 := hmk w
    rw [hW1] at hmk1
    have hb1 : Below w.heap.size w W1 := by rw [← hW1]; exact al1 _ _
    have HG1 := hid (show W1.heap[w.heap.size]? = some (.cells (bl n fun _ => false).toArray 4) by rw [← hW1]; exact heap_alloc_new w _)
    have HZ1 : Hid (W1.heap.size = w.heap.size + 1) := hid (by rw [← hW1]; simp)
    have HB1 := hid hb1
    have HC := hid (runs_any l _ W1 (HV.out.below hb1) (by have := HN.out; omega))
    clear hmk hW1 hb1
    go_enter Try.func9, Try.ntmps9
    go_wp2_with fail
    refine HC.out.mono ?_
    rintro e W2 ⟨v2, rfl, ho2, hb2⟩
    have HB2 := hid (below_both HB1.out hb2)
    have HG2 := hid ((hb2.block w.heap.size (box_lt HG1.out)).trans HG1.out)
    have hAX := arr_of_ext ho2
    obtain ⟨xs, hxs⟩ : ∃ xs, rns 0 l = xs := ⟨_, rfl⟩
    rw [hxs] at hAX ho2
    obtain ⟨vA, vc, rfl⟩ := own_form46 ho2
    obtain ⟨N, hNl⟩ : ∃ N, xs.length = N := ⟨_, rfl⟩
    have HNL := hid hNl
    rw [hNl] at hAX ⊢
    obtain ⟨A2, c2, e2, hcap2, hcm2, b2, o2, hA2, hc2⟩ := hAX
    rw [List.length_map, hNl] at e2 hA2 hcap2
    injection e2 with e3 _ e4
    subst e3 e4
    have HNE := hid (fun (h : 0 < N) => show b2 ≠ w.heap.size from fun e => by
      have hA := (hA2 h).1
      rw [hA] at ho2
      have h1 := (ho2.lt b2 (by simp [Value.ownBlock])).1
      have h2 := HZ1.out
      omega)
    have HCX := hid hc2
    have HAX := hid hA2
    unfold maxLen at hcm2
    have HXS := hid hxs
    have hN300 : N ≤ 300 := by have := rns_len l.length l 0 (Nat.le_refl _); rw [hxs, hNl, HN.out] at this; omega
    clear ho2 hb2 HC HB1 HG1 hmk1 hc2 hA2 hxs hNl
    go_wp2_with fail
    go_loopw [4, 19] (fun e i wr => ∃ (j k : Nat), j ≤ N ∧ k ≤ n ∧ i = .int .i64 (j : Int) ∧ e = .int .i64 (k : Int) ∧ Hid (xs.drop j = rns k (l.drop k)) ∧ Hid (k < n → eb l k = false) ∧ Hid (wr.heap[w.heap.size]? = some (.cells (bl n fun x => decide (x < k) && eb l x).toArray 4)) ∧ Hid (Below w.heap.size w wr) ∧ Hid (∀ (i : Nat) (r : List Value), (xs.map cE)[i]? = some r → ∀ (j : Nat) (u : Value), r[j]? = some u → wr.cell? ⟨b2, o2 + i * 2 + j, none⟩ = some u)) (fun _ i _ => N - (Lib.intOf i).toNat)
    case atStart => exact ⟨0, 0, Nat.zero_le _, Nat.zero_le _, rfl, rfl, hid (by rw [List.drop_zero, List.drop_zero]; exact HXS.out.symm), hid (fun _ => by unfold eb; simp), hid (by have h := HG2.out; rw [bl_congr (f := fun x => decide (x < 0) && eb l x) (f' := fun _ => false) (fun i _ => by simp)]; exact h), HB2, HCX⟩
    case round =>
      clear HCX HG2 HB2
      obtain ⟨j, k, hj, hk, rfl, rfl, HR, HEK, HG, HB, HCX⟩ := hrel
      by_cases hjn : j < N
      · have hjc : (j : Int) < (N : Int) := by omega
        have hjl : j < xs.length := by rw [HNL.out]; exact hjn
        obtain ⟨⟨p, m⟩, hx⟩ : ∃ x, xs[j]? = some x := ⟨xs[j], List.getElem?_eq_getElem hjl⟩
        have hdr : xs.drop j = (p, m) :: xs.drop (j + 1) := by
          obtain ⟨hlt, e⟩ := List.getElem?_eq_some_iff.1 hx
          rw [← e]
          exact List.drop_eq_getElem_cons hlt
        have hnx := runs_next l.length l k (by omega) (by rw [HN.out]; exact HEK.out)
        rw [← HR.out, hdr] at hnx
        rcases hnx with ⟨e, _⟩ | ⟨p', m', more, e, g1, g2, g3, g4, g5, g6, g7⟩
        · cases e
        · injection e with e1 e2
          injection e1 with e3 e4
          subst e3 e4
          rw [HN.out] at g3 g7
          obtain ⟨e1, hb2lt⟩ := HAX.out (by omega)
          subst e1
          have q0 : wr.cell? ⟨b2, o2 + j * 2 + 0, none⟩ = some (.int .i64 (p : Int)) := HCX.out j (cE (p, m)) (by rw [List.getElem?_map, hx]; rfl) 0 _ rfl
          have q1 : wr.cell? ⟨b2, o2 + j * 2 + 1, none⟩ = some (.int .i64 (m : Int)) := HCX.out j (cE (p, m)) (by rw [List.getElem?_map, hx]; rfl) 1 _ rfl
          rw [Nat.add_zero] at q0
          have HR2 : Hid (xs.drop (j + 1) = rns (p + m) (l.drop (p + m))) := hid (by rw [e2]; exact g6)
          have HG4 := hid g4
          have HG5 := hid g5
          have HG7 := hid g7
          have k1 : decide (p < k) = false := by simp; omega
          have k2 : decide ((m : Int) < 2) = false := by simp; omega
          have k3 : decide (n < m) = false := by simp; omega
          have k4 : decide ((n : Int) - (m : Int) < (p : Int)) = false := by simp; omega
          clear hx hdr e2 g4 g5 g6 g7 hjl
          go_wp2_with fail
          obtain ⟨E, hE⟩ : ∃ E, p + m = E := ⟨_, rfl⟩
          rw [hE] at HR2 HG7 g3
          have HE := hid hE
          rw [show (p : Int) + (m : Int) = (E : Int) by omega]
          have hbl2 := cell_lt q0
          have HG3 := hid ((Below.heap_alloc wr (.cells #[.int .i64 (p : Int), .int .i64 (m : Int)] 46) w.heap.size (box_lt HG.out)).trans HG.out)
          have HB3 := hid (HB.out.alloc HB.out.size (.cells #[.int .i64 (p : Int), .int .i64 (m : Int)] 46))
          have HC3 := hid (fun (i : Nat) (r : List Value) (hi : (xs.map cE)[i]? = some r) (j : Nat) (u : Value) (hj : r[j]? = some u) => ((al1 wr (.cells #[.int .i64 (p : Int), .int .i64 (m : Int)] 46)).cell (p := ⟨b2, o2 + i * 2 + j, none⟩) hbl2).trans (HCX.out i r hi j u hj))
          obtain ⟨W3, hW3⟩ : ∃ W3, wr.alloc (.cells #[.int .i64 (p : Int), .int .i64 (m : Int)] 46) = W3 := ⟨_, rfl⟩
          rw [hW3] at HG3 HB3 HC3 ⊢
          have hne := HNE.out (by omega)
          have hpE : p + 2 ≤ E := by omega
          have HK4 := hid g1
          clear hE hW3 hbl2 HG HB HCX q0 q1 k1 k2 k3 k4 g1 g2 HNL
          go_loopw [7] (fun i wq => ∃ (a : Nat), p + 1 ≤ a ∧ a ≤ E ∧ i = .int .i64 (a : Int) ∧ Hid (wq.heap[w.heap.size]? = some (.cells (bl n fun x => (decide (x < k) && eb l x) || (decide (p < x) && decide (x < a))).toArray 4)) ∧ Hid (Below w.heap.size w wq) ∧ Hid (∀ (i : Nat) (r : List Value), (xs.map cE)[i]? = some r → ∀ (j : Nat) (u : Value), r[j]? = some u → wq.cell? ⟨b2, o2 + i * 2 + j, none⟩ = some u)) (fun i _ => E - (Lib.intOf i).toNat)
          case atStart => exact ⟨p + 1, Nat.le_refl _, by omega, by go_num, hid (by have h := HG3.out; rw [bl_congr (f := fun x => (decide (x < k) && eb l x) || (decide (p < x) && decide (x < p + 1))) (f' := fun x => decide (x < k) && eb l x) (fun i _ => bl_start k p l i)]; exact h), HB3, HC3⟩
          case round =>
            clear HG3 HB3 HC3
            obtain ⟨a, ha1, ha2, rfl, HGq, HBq, HCq⟩ := hrel
            by_cases haE : a < E
            · have haEc : (a : Int) < (E : Int) := by omega
              have han : a < n := by omega
              have hanc : (a : Int) < (n : Int) := by omega
              have cz : wr.cell? ⟨w.heap.size, a, none⟩ = some (.bool ((decide (a < k) && eb l a) || (decide (p < a) && decide (a < a)))) := cell_of_row' HGq.out (bl_get han)
              have fz := box_fr HGq.out a
              have HG5' := hid (box_set HGq.out a (.bool true))
              have HB5 := hid (HBq.out.setCell (p := ⟨w.heap.size, a, none⟩) (Nat.le_refl _) (.bool true))
              have HC5 := hid (fun (i : Nat) (r : List Value) (hi : (xs.map cE)[i]? = some r) (j : Nat) (u : Value) (hj : r[j]? = some u) => (World.cell?_setCell_other wr ⟨w.heap.size, a, none⟩ ⟨b2, o2 + i * 2 + j, none⟩ (.bool true) (by intro e; injection e with e _; exact hne e.symm)).trans (HCq.out i r hi j u hj))
              rw [bl_set han, bl_congr (fun x _ => bl_step (decide (x < k) && eb l x) p a x (by omega))] at HG5'
              obtain ⟨W5, hW5⟩ : ∃ W5, wr.setCell ⟨w.heap.size, a, none⟩ (.bool true) = W5 := ⟨_, rfl⟩
              rw [hW5] at HG5' HB5 HC5
              clear HGq HBq HCq
              go_wp2
              go_roundw
              case rel => exact ⟨a + 1, by omega, by omega, by go_num, HG5', HB5, HC5⟩
              case measure => simp [Lib.intOf]; omega
            · obtain rfl : a = E := by omega
              have HGe := hid (show wr.heap[w.heap.size]? = some (.cells (bl n fun x => decide (x < a) && eb l x).toArray 4) by have h := HGq.out; rw [bl_congr (fun x _ => bl_end (l := l) HK4.out (by omega) HG4.out (fun j h1 h2 => HG5.out j h1 (by have := HE.out; omega)) x)] at h; exact h)
              clear HGq
              go_wp2_with fail
              go_roundw
              case rel => exact ⟨j + 1, a, by omega, by omega, by go_num, rfl, HR2, HG7, HGe, HBq, HCq⟩
              case measure => simp [Lib.intOf]; omega
      · obtain rfl : j = N := by omega
        have HEA : Hid (∀ x, k ≤ x → x < n → eb l x = false) := hid (by
          have hnx := runs_next l.length l k (by omega) (by rw [HN.out]; exact HEK.out)
          rw [← HR.out, List.drop_of_length_le (by rw [HNL.out]; omega)] at hnx
          rcases hnx with ⟨_, h⟩ | ⟨p', m', more, e, _⟩
          · rw [HN.out] at h; exact h
          · cases e)
        have HGe := hid (show wr.heap[w.heap.size]? = some (.cells (bl n (eb l)).toArray 4) by
          have h := HG.out
          rw [bl_congr (f' := eb l) (fun x hx => by
            by_cases c : x < k
            · simp [c]
            · rw [HEA.out x (by omega) hx]; simp)] at h
          exact h)
        clear HG HR HEK HCX HEA
        go_wp2_with fail
        have HB' := HB
        go_loopw [8] (fun i wq => ∃ a : Nat, (a < n ∨ a = 0) ∧ i = .int .i64 ((a + 1 : Nat) : Int) ∧ Hid (wq.heap[w.heap.size]? = some (.cells (bl n (eb l)).toArray 4)) ∧ Hid (Below w.heap.size w wq)) (fun i _ => n - (Lib.intOf i).toNat)
        case atStart => exact ⟨0, .inr rfl, rfl, HGe, HB⟩
        case round =>
          clear HGe HB HB'
          obtain ⟨a, ha, rfl, HG, HB⟩ := hrel
          by_cases han : a + 1 < n
          · have hsl : 0 < l.length := by rw [HN.out]; omega
            obtain ⟨b, off, cap, e, hcap, hcm, hbl, hsc⟩ := sec_at HV.out (fun e => by rw [e] at hsl; simp at hsl)
            rw [HN.out] at e hcap
            injection e with e1 _ e2
            subst e1 e2
            unfold maxLen at hcm
            obtain ⟨x, hx⟩ : ∃ x, l[a]? = some x := ⟨l[a]'(by rw [HN.out]; omega), List.getElem?_eq_getElem _⟩
            obtain ⟨y, hy⟩ : ∃ y, l[a + 1]? = some y := ⟨l[a + 1]'(by rw [HN.out]; omega), List.getElem?_eq_getElem _⟩
            have hxo := HV.out.1 x (List.mem_of_getElem? hx)
            have hyo := HV.out.1 y (List.mem_of_getElem? hy)
            have sx := (hsc a x hx).below hbl HB.out
            have sy := (hsc (a + 1) y hy).below hbl HB.out
            have heb : eb l (a + 1) = decide (y = x) := by unfold eb; rw [hy, Nat.add_sub_cancel, hx]; simp
            have cz : wr.cell? ⟨w.heap.size, a + 1, none⟩ = some (.bool (eb l (a + 1))) := cell_of_row' HG.out (bl_get han)
            have heq := fun (X : World) => eql_sec y x hyo.1 hxo.1 hyo.2 hxo.2 X
            rw [heb] at cz
            obtain ⟨bb, hbb⟩ : ∃ bb, decide (y = x) = bb := ⟨_, rfl⟩
            rw [hbb] at cz heq
            clear hx hy hbb heb hsc hsl
            obtain ⟨x0, x1, x2, x3, x4, x5, x6, x7, rfl⟩ := list8 hxo.1
            obtain ⟨y0, y1, y2, y3, y4, y5, y6, y7, rfl⟩ := list8 hyo.1
            obtain ⟨p0, p1, p2, p3, p4, p5, p6, p7⟩ := sx.facts
            obtain ⟨q0, q1, q2, q3, q4, q5, q6, q7⟩ := sy.facts
            have heq2 : ∀ X : World, (Op.equalIn 10000 41 (.agg #[.int .u8 (y0 : Int), .int .u8 (y1 : Int), .int .u8 (y2 : Int), .int .u8 (y3 : Int), .int .u8 (y4 : Int), .int .u8 (y5 : Int), .int .u8 (y6 : Int), .int .u8 (y7 : Int)]) (.agg #[.int .u8 (x0 : Int), .int .u8 (x1 : Int), .int .u8 (x2 : Int), .int .u8 (x3 : Int), .int .u8 (x4 : Int), .int .u8 (x5 : Int), .int .u8 (x6 : Int), .int .u8 (x7 : Int)])).run Try.prog X = .ok bb X := heq
            clear heq sx sy hxo hyo
            have hac : (a : Int) + 1 < (n : Int) := by omega
            have hac2 : (a : Int) < (n : Int) := by omega
            have hnb : (bb != bb) = false := by cases bb <;> rfl
            go_wp2_with fail
            go_quiet (fail)
            have HBd : Hid (Below w.heap.size w (wr.drewN nq)) := hid (below_drewN HB.out nq)
            have HGd : Hid ((wr.drewN nq).heap[w.heap.size]? = some (.cells (bl n (eb l)).toArray 4)) := hid HG.out
            clear HB HG cz p0 p1 p2 p3 p4 p5 p6 p7 q0 q1 q2 q3 q4 q5 q6 q7
            go_wp2
            go_roundw
            case rel => exact ⟨a + 1, .inl (by omega), by go_num, HGd, HBd⟩
            case measure => simp [Lib.intOf]; omega
          · have d8 : decide ((a : Int) + 1 < (n : Int)) = false := by simp; omega
            have d9 : decide (a + 1 < n) = false := by simp; omega
            go_wp2_with fail
            refine (HA.out _).mono ?_
            rintro e w7 ⟨rfl, hb7⟩
            have HB7 := hid (below_both HB.out hb7)
            clear hb7
            go_wp2
            go_ret
            exact ⟨rfl, HB7.out⟩
end Go.Proofs.Ytielamoaghibgaa
