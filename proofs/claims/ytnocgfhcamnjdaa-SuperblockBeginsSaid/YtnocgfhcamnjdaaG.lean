/- Newest of the reference. -/
import Derived.Test.YtnocgfhcamnjdaaF
import Derived.Laws.CopyOwn
namespace Go.Proofs.Ytnocgfhcamnjdaa
open Go.RowKit Go.Lib

theorem chkC_mem {n : Nat} {l : List Ca} (h : chkC n l = 0) : ∀ x ∈ l, 0 ≤ x.1 ∧ x.1 < n := by
  induction l with
  | nil => intro x hx; cases hx
  | cons y r ih =>
    intro x hx
    unfold chkC at h
    split at h
    · cases h
    · rename_i h1
      rcases List.mem_cons.1 hx with rfl | hx
      · have h2 : insB n x.1 1 = true := by revert h1; cases insB n x.1 1 <;> simp
        unfold insB at h2
        have := of_decide_eq_true h2
        omega
      · exact ih h x hx
set_option maxHeartbeats 8000000 in
set_option maxRecDepth 100000 in
theorem newest_any (st : List Sect) (ca : List Ca) (sv cv : Value) (w : World) (hs : Sec w sv st) (hsn : NilOk sv) (hc : Cas w cv ca) (hl : st.length ≤ 1000000) (hk0 : chkC st.length ca = 0) :
    Calls Try.prog 61 #[.agg #[sv, cv]] w (MadeS w (newL st ca)) := by
  obtain ⟨A, c, rfl⟩ := sec_form hs
  obtain ⟨B, d, rfl⟩ := cas_form hc
  obtain ⟨n, hn⟩ : ∃ n, st.length = n := ⟨_, rfl⟩
  obtain ⟨N, hN⟩ : ∃ n, ca.length = n := ⟨_, rfl⟩
  have HIN := hid (chkC_mem hk0)
  clear hk0
  rw [hn] at hs hsn hl HIN ⊢
  rw [hN] at hc ⊢
  obtain ⟨g, hg⟩ : ∃ g, w.heap.size = g := ⟨_, rfl⟩
  obtain ⟨W1, hW1⟩ : ∃ X, w.alloc (.cells #[.slice A n c, .slice B N d] 35) = X := ⟨_, rfl⟩
  have hb1 : Below w.heap.size w W1 := by rw [← hW1]; exact al1 _ _
  have hx1 : W1.heap[g]? = some (.cells #[.slice A n c, .slice B N d] 35) := by rw [← hW1, ← hg]; exact heap_alloc_new w _
  have HS := hid (hs.below hb1)
  have HSN := hid hsn
  have HC := hid (hc.below hb1)
  have HN := hid hn
  have HM := hid hN
  have HSL := hid hs.1
  have HB1 := hid hb1
  have HX1 := hid hx1
  have HW1 := hid hW1
  have HG := hid hg
  have x0 := cell_of_row _ _ 0 _ _ _ hx1
  clear hs hsn hc hn hN hb1 hx1 hW1 hg
  go_enter Try.func61, Try.ntmps61
  go_upto_region 2 with fail
  rw [HW1.out, HG.out]
  obtain ⟨D, hD⟩ : ∃ D, W1.heap.size = D := ⟨_, rfl⟩
  have hgD : g < D := by rw [← hD]; exact box_lt HX1.out
  have hwD : w.heap.size ≤ D := by rw [← hD]; exact HB1.out.size
  have ha1 : 0 + st.length ≤ 1000000000 := by rw [HN.out]; omega
  have hDD := Nat.le_of_eq hD.symm
  go_upto_region 3 with (at_builtin; refine append_sec rfl (.tmp 5) (.tmp 7) rfl D (.slice none 0 0) 0 [] rfl (World.ownsRow_nil _ _ _ _) st _ rfl HS.out HSN.out ha1 hDD ?_; intro v2 w2 ho2 hg2; rw [Nat.zero_add, HN.out] at ho2; obtain ⟨A1, c1, rfl⟩ := ownAny_form ho2; have HO2 := hid ho2; have HB2 := hid (below_own (Below.refl W1.heap.size W1) (World.ownsRow_nil W1 D 57 8) hg2 (Nat.le_refl _) (Nat.le_of_eq hD)); clear ho2 hg2)
  have HO2' : Hid (w2.ownsRow D 57 8 (.slice A1 n c1) n ((newL st (ca.take 0)).map cSec).flatten) := hid (by have h := HO2.out; rw [List.nil_append] at h; exact h)
  have HB2' : Hid (Below D W1 w2) := hid (by rw [← hD]; exact HB2.out)
  have HDD := hid hD
  clear x0 ha1 hDD hD
  go_upto_region 4 with fail
  go_loopw [4] (fun iv wr => ∃ k : Nat, k ≤ N ∧ iv = .int .i64 (k : Int) ∧ Hid (wr.ownsRow D 57 8 (.slice A1 n c1) n ((newL st (ca.take k)).map cSec).flatten) ∧ Hid (Below D W1 wr)) (fun i _ => N - (Go.RowKit.intOf i).toNat)
  case atStart => exact ⟨0, Nat.zero_le _, rfl, HO2', HB2'⟩
  case round =>
    obtain ⟨k, hk, rfl, HO, HB⟩ := hrel
    have hx := (HB.out.block g hgD).trans HX1.out
    have x1 := cell_of_row _ _ 1 _ _ _ hx
    by_cases hkn : k < N
    · have hkn' : (k : Int) < (N : Int) := by omega
      obtain ⟨b, off, rfl, hb, hcc⟩ := cas_cells HC.out (by rw [HM.out]; omega)
      obtain ⟨x, hxk⟩ : ∃ x, ca[k]? = some x := ⟨ca[k]'(by rw [HM.out]; exact hkn), List.getElem?_eq_getElem _⟩
      have h8 := HC.out.1 x (List.mem_of_getElem? hxk)
      obtain ⟨hi0, hi1⟩ := HIN.out x (List.mem_of_getElem? hxk)
      have HTK := hid (show ca.take (k + 1) = ca.take k ++ [x] from by rw [List.take_add_one, hxk]; rfl)
      have hNm : N ≤ 9223372036854775807 := by
        obtain ⟨_, h5, h6⟩ := arr_cap HC.out.2.2
        omega
      obtain ⟨at_, s⟩ := x
      dsimp only at h8 hi0 hi1
      obtain ⟨i, rfl⟩ : ∃ i : Nat, at_ = (i : Int) := ⟨at_.toNat, by omega⟩
      obtain ⟨s0, s1, s2, s3, s4, s5, s6, s7, rfl⟩ := list8 h8.1
      have hin : i < n := by omega
      have HK := hid (fun (X : World) (hX : Below D W1 X) => (show X.cell? ⟨g, 1, none⟩ = some (.slice (some ⟨b, off, none⟩) N d) ∧ X.cell? ⟨b, off + k * 9, none⟩ = some (.int .i64 (i : Int)) ∧ X.cell? ⟨b, off + k * 9 + 1, none⟩ = some (.int .u8 (s0 : Int)) ∧ X.cell? ⟨b, off + k * 9 + 2, none⟩ = some (.int .u8 (s1 : Int)) ∧ X.cell? ⟨b, off + k * 9 + 3, none⟩ = some (.int .u8 (s2 : Int)) ∧ X.cell? ⟨b, off + k * 9 + 4, none⟩ = some (.int .u8 (s3 : Int)) ∧ X.cell? ⟨b, off + k * 9 + 5, none⟩ = some (.int .u8 (s4 : Int)) ∧ X.cell? ⟨b, off + k * 9 + 6, none⟩ = some (.int .u8 (s5 : Int)) ∧ X.cell? ⟨b, off + k * 9 + 7, none⟩ = some (.int .u8 (s6 : Int)) ∧ X.cell? ⟨b, off + k * 9 + 8, none⟩ = some (.int .u8 (s7 : Int)) from ⟨cell_of_row _ _ 1 _ _ _ ((hX.block g hgD).trans HX1.out), by have h := (hX.cell (p := ⟨b, off + k * 9 + 0, none⟩) (by rw [← HDD.out]; exact hb)).trans (hcc k _ hxk 0 _ rfl); rwa [Nat.add_zero] at h, (hX.cell (p := ⟨b, off + k * 9 + 1, none⟩) (by rw [← HDD.out]; exact hb)).trans (hcc k _ hxk 1 _ rfl), (hX.cell (p := ⟨b, off + k * 9 + 2, none⟩) (by rw [← HDD.out]; exact hb)).trans (hcc k _ hxk 2 _ rfl), (hX.cell (p := ⟨b, off + k * 9 + 3, none⟩) (by rw [← HDD.out]; exact hb)).trans (hcc k _ hxk 3 _ rfl), (hX.cell (p := ⟨b, off + k * 9 + 4, none⟩) (by rw [← HDD.out]; exact hb)).trans (hcc k _ hxk 4 _ rfl), (hX.cell (p := ⟨b, off + k * 9 + 5, none⟩) (by rw [← HDD.out]; exact hb)).trans (hcc k _ hxk 5 _ rfl), (hX.cell (p := ⟨b, off + k * 9 + 6, none⟩) (by rw [← HDD.out]; exact hb)).trans (hcc k _ hxk 6 _ rfl), (hX.cell (p := ⟨b, off + k * 9 + 7, none⟩) (by rw [← HDD.out]; exact hb)).trans (hcc k _ hxk 7 _ rfl), (hX.cell (p := ⟨b, off + k * 9 + 8, none⟩) (by rw [← HDD.out]; exact hb)).trans (hcc k _ hxk 8 _ rfl)⟩))
      have hwr : D ≤ wr.heap.size := by have := HB.out.size; have := HDD.out; omega
      obtain ⟨X0, hX0⟩ : ∃ X, wr.drew = X := ⟨_, rfl⟩
      have hB0 : Below wr.heap.size wr X0 := by rw [← hX0]; exact (Below.refl wr.heap.size wr).drew
      have HO0 := hid (own_keep HO.out (keep_below hB0))
      obtain ⟨ob, rfl⟩ : ∃ ob, A1 = some ⟨ob, 0, none⟩ := by
        rcases HO.out.2 with ⟨e, _⟩ | ⟨ob, cap, cur, e, _⟩
        · injection e with _ e _
          omega
        · injection e with e _ _
          exact ⟨ob, e⟩
      have hlen := flat_cells (newL_secs (ca := ca.take k) HSL.out (fun y hy => ⟨(HC.out.1 y (List.mem_of_mem_take hy)).1, (HC.out.1 y (List.mem_of_mem_take hy)).2.1⟩))
      rw [newL_len, HN.out] at hlen
      obtain ⟨hob, _, cur, hcur, hcs, _⟩ := own_at HO0.out
      have hsl : (cSec [s0, s1, s2, s3, s4, s5, s6, s7]).length = 8 := rfl
      obtain ⟨hfit, hown⟩ := own_splice (o := i * 8) (D := cSec [s0, s1, s2, s3, s4, s5, s6, s7]) HO0.out hcur (by rw [hsl, hlen]; omega)
      obtain ⟨W5, hW5⟩ : ∃ X, X0.setRow ob (cur.toList.take (i * 8) ++ cSec [s0, s1, s2, s3, s4, s5, s6, s7] ++ cur.toList.drop (i * 8 + (cSec [s0, s1, s2, s3, s4, s5, s6, s7]).length)).toArray = X := ⟨_, rfl⟩
      have HR : Hid ((Instr.storeAt 57 (.pointer (some ⟨ob, i * 8, none⟩)) (.agg #[.int .u8 (s0 : Int), .int .u8 (s1 : Int), .int .u8 (s2 : Int), .int .u8 (s3 : Int), .int .u8 (s4 : Int), .int .u8 (s5 : Int), .int .u8 (s6 : Int), .int .u8 (s7 : Int)])).run Try.prog X0 = .ok () W5) := hid (by
        rw [← hW5]
        exact run_storeAt_row X0 ob (i * 8) 57 57 (cSec [s0, s1, s2, s3, s4, s5, s6, s7]) cur hcur size73 hfit (byteV_one _))
      have HO5 : Hid (W5.ownsRow D 57 8 (.slice (some ⟨ob, 0, none⟩) n c1) n ((newL st (ca.take (k + 1))).map cSec).flatten) := hid (by
        rw [HTK.out, newL_snoc]
        show W5.ownsRow D 57 8 _ n (((newL st (ca.take k)).set i [s0, s1, s2, s3, s4, s5, s6, s7]).map cSec).flatten
        rw [← spl_one _ _ _ (by rw [newL_len, HN.out]; exact hin), flat_spl (newL_secs HSL.out (fun y hy => ⟨(HC.out.1 y (List.mem_of_mem_take hy)).1, (HC.out.1 y (List.mem_of_mem_take hy)).2.1⟩)) (fun y hy => by rw [List.mem_singleton] at hy; subst hy; exact ⟨h8.1, h8.2.1⟩) (by rw [newL_len, HN.out]; exact hin), ← hW5]
        exact hown)
      have HB5 : Hid (Below D W1 W5) := hid (by rw [← hW5]; exact below_setRow (HB.out.trans (hB0.mono hwr)) hob _)
      have hHeld := HK.out X0 (HB.out.trans (hB0.mono hwr))
      clear hcc hxk h8 hi0 hi1 hB0 hlen hob hcur hcs hsl hfit hown hW5 hx
      go_upto_region 6 with fail
      clear x1
      refine region_tail 14 (fun X => X.cell? ⟨g, 1, none⟩ = some (.slice (some ⟨b, off, none⟩) N d) ∧ X.cell? ⟨b, off + k * 9, none⟩ = some (.int .i64 (i : Int)) ∧ X.cell? ⟨b, off + k * 9 + 1, none⟩ = some (.int .u8 (s0 : Int)) ∧ X.cell? ⟨b, off + k * 9 + 2, none⟩ = some (.int .u8 (s1 : Int)) ∧ X.cell? ⟨b, off + k * 9 + 3, none⟩ = some (.int .u8 (s2 : Int)) ∧ X.cell? ⟨b, off + k * 9 + 4, none⟩ = some (.int .u8 (s3 : Int)) ∧ X.cell? ⟨b, off + k * 9 + 5, none⟩ = some (.int .u8 (s4 : Int)) ∧ X.cell? ⟨b, off + k * 9 + 6, none⟩ = some (.int .u8 (s5 : Int)) ∧ X.cell? ⟨b, off + k * 9 + 7, none⟩ = some (.int .u8 (s6 : Int)) ∧ X.cell? ⟨b, off + k * 9 + 8, none⟩ = some (.int .u8 (s7 : Int))) (by kernel_rfl) ?_
      rw [hX0]
      clear hX0
      refine' wpAnyT_take (i := 0) (oi := ?oia0) (v := ?va0) ?hia0 (by kernel_rfl) (by kernel_rfl) ?hqa0 ?hya0 hHeld ?resta0
      case hia0 => (simp only [List.getElem?_toArray, List.getElem?_cons_zero]; rfl)
      case hqa0 => exact fun _ _ _ h => h
      case hya0 => (refine Or.inl ⟨by rfl, ?_⟩; intro w' hSw; (try dsimp only at hSw); go_simp; try with_reducible rfl)
      (try simp only [Act.put, List.setIfInBounds_toArray, List.set_cons_zero, List.set_cons_succ])
      refine' wpAnyT_take (i := 1) (oi := ?oia1) (v := ?va1) ?hia1 (by kernel_rfl) (by kernel_rfl) ?hqa1 ?hya1 hHeld ?resta1
      case hia1 => (simp only [List.getElem?_toArray, List.getElem?_cons_zero, List.getElem?_cons_succ]; rfl)
      case hqa1 => exact fun _ _ _ h => h
      case hya1 => (refine Or.inl ⟨by rfl, ?_⟩; intro w' hSw; (try dsimp only at hSw); go_simp; try with_reducible rfl)
      (try simp only [Act.put, List.setIfInBounds_toArray, List.set_cons_zero, List.set_cons_succ])
      refine' wpAnyT_take (i := 2) (oi := ?oia2) (v := ?va2) ?hia2 (by kernel_rfl) (by kernel_rfl) ?hqa2 ?hya2 hHeld ?resta2
      case hia2 => (simp only [List.getElem?_toArray, List.getElem?_cons_zero, List.getElem?_cons_succ]; rfl)
      case hqa2 => exact fun _ _ _ h => h
      case hya2 => (refine Or.inl ⟨by rfl, ?_⟩; intro w' hSw; (try dsimp only at hSw); go_simp; try with_reducible rfl)
      (try simp only [Act.put, List.setIfInBounds_toArray, List.set_cons_zero, List.set_cons_succ])
      refine' wpAnyT_take (i := 3) (oi := ?oia3) (v := ?va3) ?hia3 (by kernel_rfl) (by kernel_rfl) ?hqa3 ?hya3 hHeld ?resta3
      case hia3 => (simp only [List.getElem?_toArray, List.getElem?_cons_zero, List.getElem?_cons_succ]; rfl)
      case hqa3 => exact fun _ _ _ h => h
      case hya3 => (refine Or.inl ⟨by rfl, ?_⟩; intro w' hSw; (try dsimp only at hSw); go_simp; try with_reducible rfl)
      (try simp only [Act.put, List.setIfInBounds_toArray, List.set_cons_zero, List.set_cons_succ])
      refine' wpAnyT_take (i := 4) (oi := ?oia4) (v := ?va4) ?hia4 (by kernel_rfl) (by kernel_rfl) ?hqa4 ?hya4 hHeld ?resta4
      case hia4 => (simp only [List.getElem?_toArray, List.getElem?_cons_zero, List.getElem?_cons_succ]; rfl)
      case hqa4 => exact fun _ _ _ h => h
      case hya4 => (refine Or.inl ⟨by rfl, ?_⟩; intro w' hSw; (try dsimp only at hSw); go_simp; try with_reducible rfl)
      (try simp only [Act.put, List.setIfInBounds_toArray, List.set_cons_zero, List.set_cons_succ])
      refine' wpAnyT_take (i := 5) (oi := ?oia5) (v := ?va5) ?hia5 (by kernel_rfl) (by kernel_rfl) ?hqa5 ?hya5 hHeld ?resta5
      case hia5 => (simp only [List.getElem?_toArray, List.getElem?_cons_zero, List.getElem?_cons_succ]; rfl)
      case hqa5 => exact fun _ _ _ h => h
      case hya5 => (refine Or.inl ⟨by rfl, ?_⟩; intro w' hSw; (try dsimp only at hSw); go_simp; try with_reducible rfl)
      (try simp only [Act.put, List.setIfInBounds_toArray, List.set_cons_zero, List.set_cons_succ])
      refine' wpAnyT_take (i := 6) (oi := ?oia6) (v := ?va6) ?hia6 (by kernel_rfl) (by kernel_rfl) ?hqa6 ?hya6 hHeld ?resta6
      case hia6 => (simp only [List.getElem?_toArray, List.getElem?_cons_zero, List.getElem?_cons_succ]; rfl)
      case hqa6 => exact fun _ _ _ h => h
      case hya6 => (refine Or.inl ⟨by rfl, ?_⟩; intro w' hSw; (try dsimp only at hSw); go_simp; try with_reducible rfl)
      (try simp only [Act.put, List.setIfInBounds_toArray, List.set_cons_zero, List.set_cons_succ])
      refine' wpAnyT_take (i := 7) (oi := ?oia7) (v := ?va7) ?hia7 (by kernel_rfl) (by kernel_rfl) ?hqa7 ?hya7 hHeld ?resta7
      case hia7 => (simp only [List.getElem?_toArray, List.getElem?_cons_zero, List.getElem?_cons_succ]; rfl)
      case hqa7 => exact fun _ _ _ h => h
      case hya7 => (refine Or.inl ⟨by rfl, ?_⟩; intro w' hSw; (try dsimp only at hSw); go_simp; try with_reducible rfl)
      (try simp only [Act.put, List.setIfInBounds_toArray, List.set_cons_zero, List.set_cons_succ])
      refine' wpAnyT_take (i := 8) (oi := ?oia8) (v := ?va8) ?hia8 (by kernel_rfl) (by kernel_rfl) ?hqa8 ?hya8 hHeld ?resta8
      case hia8 => (simp only [List.getElem?_toArray, List.getElem?_cons_zero, List.getElem?_cons_succ]; rfl)
      case hqa8 => exact fun _ _ _ h => h
      case hya8 => (refine Or.inl ⟨by rfl, ?_⟩; intro w' hSw; (try dsimp only at hSw); go_simp; try with_reducible rfl)
      (try simp only [Act.put, List.setIfInBounds_toArray, List.set_cons_zero, List.set_cons_succ])
      refine' wpAnyT_take (i := 9) (oi := ?oia9) (v := ?va9) ?hia9 (by kernel_rfl) (by kernel_rfl) ?hqa9 ?hya9 hHeld ?resta9
      case hia9 => (simp only [List.getElem?_toArray, List.getElem?_cons_zero, List.getElem?_cons_succ]; rfl)
      case hqa9 => exact fun _ _ _ h => h
      case hya9 => (refine Or.inl ⟨by rfl, ?_⟩; intro w' hSw; (try dsimp only at hSw); go_simp; try with_reducible rfl)
      (try simp only [Act.put, List.setIfInBounds_toArray, List.set_cons_zero, List.set_cons_succ])
      refine' wpAnyT_take (i := 10) (oi := ?oia10) (v := ?va10) ?hia10 (by kernel_rfl) (by kernel_rfl) ?hqa10 ?hya10 hHeld ?resta10
      case hia10 => (simp only [List.getElem?_toArray, List.getElem?_cons_zero, List.getElem?_cons_succ]; rfl)
      case hqa10 => exact fun _ _ _ h => h
      case hya10 => (refine Or.inl ⟨by rfl, ?_⟩; intro w' hSw; (try dsimp only at hSw); go_simp; try with_reducible rfl)
      (try simp only [Act.put, List.setIfInBounds_toArray, List.set_cons_zero, List.set_cons_succ])
      refine' wpAnyT_take (i := 11) (oi := ?oia11) (v := ?va11) ?hia11 (by kernel_rfl) (by kernel_rfl) ?hqa11 ?hya11 hHeld ?resta11
      case hia11 => (simp only [List.getElem?_toArray, List.getElem?_cons_zero, List.getElem?_cons_succ]; rfl)
      case hqa11 => exact fun _ _ _ h => h
      case hya11 => (refine Or.inl ⟨by rfl, ?_⟩; intro w' hSw; (try dsimp only at hSw); go_simp; try with_reducible rfl)
      (try simp only [Act.put, List.setIfInBounds_toArray, List.set_cons_zero, List.set_cons_succ])
      refine' wpAnyT_take (i := 12) (oi := ?oia12) (v := ?va12) ?hia12 (by kernel_rfl) (by kernel_rfl) ?hqa12 ?hya12 hHeld ?resta12
      case hia12 => (simp only [List.getElem?_toArray, List.getElem?_cons_zero, List.getElem?_cons_succ]; rfl)
      case hqa12 => exact fun _ _ _ h => h
      case hya12 => (refine Or.inl ⟨by rfl, ?_⟩; intro w' hSw; (try dsimp only at hSw); go_simp; try with_reducible rfl)
      (try simp only [Act.put, List.setIfInBounds_toArray, List.set_cons_zero, List.set_cons_succ])
      refine' wpAnyT_one (i := 13) (o := ?oia13) (by kernel_rfl) ?hia13 (fun K hK => ?sta13)
      case hia13 => (simp only [List.getElem?_toArray, List.getElem?_cons_zero, List.getElem?_cons_succ]; rfl)
      go_simp
      refine hK.out _ _ (fun _ => hHeld) ?_
      clear hK K
      (try simp only [Act.put, List.setIfInBounds_toArray, List.set_cons_zero, List.set_cons_succ])
      refine' wpAnyT_one (i := 14) (o := ?oia14) (by kernel_rfl) ?hia14 (fun K hK => ?sta14)
      case hia14 => (simp only [List.getElem?_toArray, List.getElem?_cons_zero, List.getElem?_cons_succ]; rfl)
      refine step_store_run rfl 57 (.tmp 29) (.tmp 28) rfl (.pointer (some ⟨ob, i * 8, none⟩)) (.agg #[.int .u8 (s0 : Int), .int .u8 (s1 : Int), .int .u8 (s2 : Int), .int .u8 (s3 : Int), .int .u8 (s4 : Int), .int .u8 (s5 : Int), .int .u8 (s6 : Int), .int .u8 (s7 : Int)]) (by simp [Act.eval]) (by simp [Act.eval]) HR.out ?_
      refine hK.out _ _ (fun h => absurd h (by decide)) ?_
      clear hK K
      refine wpAnyT_done (by kernel_rfl) ?_ _
      go_upto_region 5 with fail
      go_wp2_with fail
      go_roundw
      case rel => exact ⟨k + 1, by omega, by go_num, HO5, HB5⟩
      case measure => simp [Go.RowKit.intOf]; omega
    · obtain rfl : N = k := by omega
      have hkn' : ¬ ((N : Nat) : Int) < (N : Int) := by omega
      go_wp2_with fail
      go_ret
      refine ⟨_, rfl, ?_, HB1.out.trans (HB.out.mono hwD)⟩
      rw [newL_len, HN.out]
      have h := HO.out
      rw [List.take_of_length_le (by rw [HM.out]; exact Nat.le_refl _)] at h
      exact own_base h hwD
end Go.Proofs.Ytnocgfhcamnjdaa
