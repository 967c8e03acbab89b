/- Encode. -/
import Derived.Test.YtldlddoealpomaaFj
namespace Go.Proofs.Ytldlddoealpomaa
open Go.RowKit Go.Lib

set_option maxHeartbeats 4000000 in
set_option maxRecDepth 100000 in
theorem encode_any (d b : List Nat) (v u : Value) (w : World) (hv : Byt w v d) (hn : NilOk v) (hu : Byt w u b) (hun : NilOk u) (hd : d.length ≤ 800000000) (hl : b.length ≤ 800000000) :
    Calls Try.prog 14 #[v, u] w (MadeO w (en (near d ++ b) (near d ++ b).length (near d).length [])) := by
  have HR := hid (reach_any d v w hv hn (by omega))
  obtain ⟨A, c, rfl⟩ := byt_form hv
  obtain ⟨B, c', rfl⟩ := byt_form hu
  have HU := hid hu
  have HUN := hid hun
  have HN8 := hid (near_b8 hv.1)
  have hnl := near_len d
  obtain ⟨N, hN⟩ : ∃ N, near d = N := ⟨_, rfl⟩
  rw [hN] at HN8 hnl ⊢
  have HNE := hid hN
  have H8 : Hid (B8 (N ++ b)) := hid (HN8.out.append HU.out.1)
  have hxl : (N ++ b).length ≤ 1000000000 := by simp; omega
  have hfr : N.length ≤ (N ++ b).length := by simp
  obtain ⟨x, hx⟩ : ∃ x, N ++ b = x := ⟨_, rfl⟩
  rw [hx] at H8 hxl hfr ⊢
  have HX := hid hx
  obtain ⟨T, hT⟩ : ∃ T, en x x.length N.length [] = T := ⟨_, rfl⟩
  have HT := hid hT
  rw [hT]
  obtain ⟨n, hnn⟩ : ∃ n, N.length = n := ⟨_, rfl⟩
  have HNN := hid hnn
  clear hv hn hu hun hN hx hT hnn
  go_enter Try.func14, Try.ntmps14
  go_wp2_with fail
  refine HR.out.mono ?_
  rintro e w1 ⟨r, rfl, rfl, hr, hrn⟩
  rw [HNE.out] at hr
  obtain ⟨rA, rc, rfl⟩ := byt_form hr
  rw [HNN.out] at hr hrn
  have hal := al1 w1 (.cells #[.slice rA n rc, .slice B b.length c'] 22)
  have HC := hid (concat_any N b (.slice rA n rc) (.slice B b.length c') w1.heap.size 2 (w1.alloc (.cells #[.slice rA n rc, .slice B b.length c'] 22)) (heap_alloc_new _ _) (hr.below hal) (HU.out.below hal) hrn HUN.out (by omega) (by omega))
  have HAL := hid hal
  have hsz : (w1.alloc (.cells #[.slice rA n rc, .slice B b.length c'] 22)).heap.size = w1.heap.size + 1 := by simp
  rw [HX.out] at HC
  obtain ⟨W1, hW1⟩ : ∃ W, w1.alloc (.cells #[.slice rA n rc, .slice B b.length c'] 22) = W := ⟨_, rfl⟩
  rw [hW1] at HC HAL hsz
  have HW1 := hid hW1
  rw [HNN.out]
  clear hr hrn HR hal hW1
  go_wp2_with fail
  rw [HW1.out]
  refine HC.out.mono ?_
  rintro e w2 ⟨vx, rfl, ho2, hb2⟩
  obtain ⟨xA, xc, rfl⟩ := own_form ho2
  have HBX := hid (byt_of_own ho2 H8.out)
  have hsz2 := hb2.size
  have HB2 := hid ((HAL.out.mono (show w1.heap.size ≤ w1.heap.size from Nat.le_refl _)).trans (hb2.mono (by omega)))
  have hmm : ∀ W : World, (Instr.makeMap 47 none).run Try.prog W = .ok (.map (some W.heap.size)) (W.alloc (.map #[] 0)) := fun W => rfl
  clear ho2 hb2 HC
  go_wp2_with fail
  obtain ⟨W2, hW2⟩ : ∃ W, (w2.alloc (.map #[] 0)).alloc (.cells #[.slice none 0 0, .slice xA x.length xc, .map (some w2.heap.size)] 51) = W := ⟨_, rfl⟩
  have hst : St w2 W2 (w2.heap.size + 1) x (.slice xA x.length xc) 0 [] := by
    subst hW2
    refine ⟨.slice none 0 0, ?_, World.ownsRow_nil _ _ _ _, ⟨#[], 0, ?_, by refine ⟨?_, ?_, ?_⟩ <;> simp, by simp, fun e he => by simp at he, fun κ _ h => absurd (by simp [PF]) h, fun e he => by simp at he⟩, ?_, by omega⟩
    · have h := heap_alloc_new (w2.alloc (.map #[] 0)) (.cells #[.slice none 0 0, .slice xA x.length xc, .map (some w2.heap.size)] 51)
      have e : (w2.alloc (.map #[] 0)).heap.size = w2.heap.size + 1 := by simp
      rw [e] at h; exact h
    · exact ((al1 (w2.alloc (.map #[] 0)) _).block w2.heap.size (by simp)).trans (heap_alloc_new _ _)
    · exact (al1 w2 (.map #[] 0)).trans ((al1 _ _).mono (by simp))
  have HE := hid (encodeAll_any w2 W2 (w2.heap.size + 1) n x (.slice xA x.length xc) hst HBX.out hxl (by rw [← HNN.out]; exact hfr))
  rw [hW2]
  clear hst hW2
  refine HE.out.mono ?_
  rintro e w3 ⟨⟨r, rfl⟩, a, vt, hb3, ho3, hp3, hbw3, _⟩
  rw [← HNN.out, HT.out] at ho3
  have HO3 := hid ho3
  have HB3 := hid hbw3
  have c0 : w3.cell? ⟨w2.heap.size + 1, 0, none⟩ = some vt := cell_of_row _ _ 0 _ _ _ hb3
  clear hb3 ho3 hp3 hbw3 HE
  go_wp2_with fail
  go_ret
  refine ⟨_, rfl, own_down HO3.out (by omega), HB2.out.trans (HB3.out.mono (by omega))⟩
end Go.Proofs.Ytldlddoealpomaa
