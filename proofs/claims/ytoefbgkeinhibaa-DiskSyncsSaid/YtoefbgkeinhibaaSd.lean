/- The reference's Sync and Run, on disks in order. -/
import Derived.Test.YtoefbgkeinhibaaSc
namespace Go.Proofs.Ytoefbgkeinhibaa
open Go.RowKit Go.Lib

theorem cutW {G : World → Nat → Option Addr → Nat → Option Addr → Nat → Prop} {R : Prop} (F : World → Nat → Option Addr → Nat → Option Addr → Nat → Prop) (main : (∀ X p A m B n, F X p A m B n → G X p A m B n) → R) (cont : ∀ X p A m B n, F X p A m B n → G X p A m B n) : R := main cont
set_option maxHeartbeats 4000000 in
set_option maxRecDepth 100000 in
theorem refSync_any (st : List Sect) (ca : List Ca) (sv cv : Value) (w : World) (hs : Sec w sv st) (hsn : NilOk sv) (hc : Cas w cv ca) (hk : chkD st.length ca = 0) :
    Calls Try.prog 25 #[.agg #[sv, cv]] w (SyQ w (newL st ca, [])) := by
  obtain ⟨A, c, rfl⟩ := sec_form hs
  obtain ⟨B, d, rfl⟩ := cas_form hc
  obtain ⟨hn4, hkC⟩ := chkD_C hk
  obtain ⟨g, hg⟩ : ∃ g, w.heap.size = g := ⟨_, rfl⟩
  obtain ⟨W1, hW1⟩ : ∃ X, (w.alloc (.cells #[.slice A st.length c, .slice B ca.length d] 25)).alloc (.cells #[.slice none 0 0, .slice none 0 0] 25) = X := ⟨_, rfl⟩
  have hb1 : Below w.heap.size w W1 := by rw [← hW1]; exact ((Below.refl _ w).alloc (Nat.le_refl _) _).alloc (by simp) _
  have hx1 : W1.heap[g]? = some (.cells #[.slice A st.length c, .slice B ca.length d] 25) := by rw [← hW1, ← hg]; exact (Below.heap_alloc _ _ _ (by simp)).trans (heap_alloc_new w _)
  have hy1 : W1.heap[g + 1]? = some (.cells #[.slice none 0 0, .slice none 0 0] 25) := by rw [← hW1, ← hg]; simpa using heap_alloc_new (w.alloc (.cells #[.slice A st.length c, .slice B ca.length d] 25)) (.cells #[.slice none 0 0, .slice none 0 0] 25)
  have hge1 : w.heap.size ≤ g + 1 := by omega
  have HCK : Hid (∀ X, Below W1.heap.size W1 X → Calls Try.prog 23 #[.agg #[.slice A st.length c, .slice B ca.length d]] X fun e w' => e = .returned (.int .i64 0) ∧ Below X.heap.size X w') := hid (fun X hX => by
    have h := refCheck_any st ca _ _ X (hs.below (hb1.trans (hX.mono hb1.size))) (hc.below (hb1.trans (hX.mono hb1.size)))
    rwa [hk] at h)
  have HNW := hid (fun X (hX : Below W1.heap.size W1 X) => newest_any st ca _ _ X (hs.below (hb1.trans (hX.mono hb1.size))) hsn (hc.below (hb1.trans (hX.mono hb1.size))) (by omega) hkC)
  have HNS := hid (newL_secs hs.1 (fun y hy => ⟨(hc.1 y hy).1, (hc.1 y hy).2.1⟩))
  have HX1 := hid hx1
  have HY1 := hid hy1
  have HB1 := hid hb1
  have HW1 := hid hW1
  have HG := hid hg
  have x0 := cell_of_row _ _ 0 _ _ _ hx1
  have x1 := cell_of_row _ _ 1 _ _ _ hx1
  obtain ⟨n, hn⟩ : ∃ n, st.length = n := ⟨_, rfl⟩
  obtain ⟨m, hm⟩ : ∃ n, ca.length = n := ⟨_, rfl⟩
  rw [hn, hm] at HX1 HW1 HCK HNW x0 x1
  rw [hn, hm]
  clear hs hsn hc hb1 hx1 hy1 hW1 hg hk hn4 hkC hn hm
  go_enter Try.func25, Try.ntmps25
  go_upto_region 1 with fail
  rw [HW1.out, HG.out]
  go_upto_region 3 with (go_at_call 23; refine (HCK.out W1 (Below.refl _ _)).mono ?_; rintro e X1 ⟨rfl, hb2⟩; have HB2 := hid hb2; clear hb2)
  have hx2 := (HB2.out.block _ (box_lt HX1.out)).trans HX1.out
  have z0 := cell_of_row _ _ 0 _ _ _ hx2
  have z1 := cell_of_row _ _ 1 _ _ _ hx2
  clear x0 x1 hx2
  go_wp2_with (go_at_call 45; refine (HNW.out X1 HB2.out).mono ?_; rintro e X2 ⟨v2, rfl, ho2, hb3⟩; obtain ⟨A2, c2, rfl⟩ := ownAny_form ho2; have HO2 := hid ho2; have HB3 := hid (below_both HB2.out hb3); have HY2 := hid ((HB3.out.block _ (box_lt HY1.out)).trans HY1.out); have y0 := cell_of_row _ _ 0 _ _ _ HY2.out; have y1 := cell_of_row _ _ 1 _ _ _ HY2.out; have f0 := box_fr HY2.out 0; have f1 := box_fr HY2.out 1; clear ho2 hb3)
  refine bodyPost_ret (results_c rfl _ _ (g + 1) _ rfl (disk_load (disk_set HY2.out _ _))) rfl ?_
  exact ⟨_, rfl, ⟨⟨_, _, rfl, own_base (own_keep HO2.out (keep_two HY2.out (by decide))) (Nat.le_trans HB1.out.size HB2.out.size), World.ownsRow_nil _ _ _ _⟩, HNS.out, (fun x (hx : x ∈ []) => by cases hx)⟩, ((HB1.out.trans (HB3.out.mono HB1.out.size)).setCell hge1 _).setCell hge1 _⟩
end Go.Proofs.Ytoefbgkeinhibaa
