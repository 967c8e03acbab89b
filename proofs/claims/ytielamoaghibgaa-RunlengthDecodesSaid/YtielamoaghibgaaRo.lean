/- The laws' encodings. -/
import Derived.Test.YtielamoaghibgaaRn
namespace Go.Proofs.Ytielamoaghibgaa
open Go.RowKit Go.Lib

def ec1 (z : Int) : List Nat := if 0 ≤ z then [z.toNat] else tg (-z).toNat
def ec (l : List Int) : List Nat := (l.map ec1).flatten
theorem ec_b8 {l : List Int} (h : ∀ z ∈ l, -256 < z ∧ z < 256) : B8 (ec l) := fun x hx => by
  obtain ⟨s, hs, hx⟩ := List.mem_flatten.1 hx
  obtain ⟨z, hz, rfl⟩ := List.mem_map.1 hs
  have := h z hz
  unfold ec1 at hx
  split at hx
  · rw [List.mem_singleton] at hx; omega
  · simp [tg] at hx; omega

set_option maxHeartbeats 2000000 in
set_option maxRecDepth 100000 in
theorem encoded_any (l : List Int) (v : Value) (w : World) (hv : Arr w v 1 (l.map cInt)) (hl : l.length ≤ 100) (hz : ∀ z ∈ l, -256 < z ∧ z < 256) :
    Calls Try.prog 22 #[v] w (MadeO w (ec l)) := by
  obtain ⟨A, c, e, h1, h2, b, off, hA, hc⟩ := hv
  rw [List.length_map] at e h1 hA
  subst e
  have HA := hid hA
  have HC := hid hc
  have HZ := hid hz
  unfold maxLen at h2
  clear hA hc hz
  go_enter Try.func22, Try.ntmps22
  go_wp2_with fail
  go_loopw [3, 9] (fun v i wr => ∃ (k m : Nat), k ≤ l.length ∧ m ≤ 8 * k ∧ i = .int .i64 (k : Int) ∧ Hid ((ec (l.take k)).length = m) ∧ Hid (wr.ownsRow w.heap.size 5 1 v m ((ec (l.take k)).map byteV)) ∧ Hid (Below w.heap.size w wr)) (fun _ i _ => l.length - (Lib.intOf i).toNat)
  case atStart => exact ⟨0, 0, Nat.zero_le _, by omega, rfl, hid rfl, hid (World.ownsRow_nil _ _ _ _), hid (Below.refl _ _)⟩
  case round =>
    obtain ⟨k, m, hk, hm, rfl, HM, HO, HB⟩ := hrel
    by_cases hkl : k < l.length
    · have d8 : decide ((k : Int) < (l.length : Int)) = true := by simp; omega
      obtain ⟨z, hx⟩ : ∃ z, l[k]? = some z := ⟨l[k], List.getElem?_eq_getElem hkl⟩
      have hzz := HZ.out z (List.mem_of_getElem? hx)
      obtain ⟨lA, lc, rfl⟩ := own_form HO.out
      obtain ⟨hA1, hblt⟩ := HA.out (by omega)
      subst hA1
      have hcx : wr.cell? ⟨b, off + k, none⟩ = some (.int .i64 z) := (HB.out.cell (p := ⟨b, off + k, none⟩) hblt).trans (by have h := HC.out k (cInt z) (by rw [List.getElem?_map, hx]; rfl) 0 _ rfl; rw [Nat.mul_one, Nat.add_zero] at h; exact h)
      have HT : Hid (ec (l.take (k + 1)) = ec (l.take k) ++ ec1 z) := hid (by
        obtain ⟨hlt, rfl⟩ := List.getElem?_eq_some_iff.1 hx
        rw [List.take_succ_eq_append_getElem hlt]
        unfold ec
        rw [List.map_append, List.flatten_append, List.map_singleton]
        simp)
      clear hx
      have hz1 := HB.out.size
      by_cases hzp : 0 ≤ z
      · obtain ⟨x, rfl⟩ : ∃ x : Nat, z = (x : Int) := ⟨z.toNat, by omega⟩
        have HE : Hid (ec1 (x : Int) = [x]) := hid (by unfold ec1; rw [if_pos hzp]; simp)
        have hx8 : x < 256 := by omega
        clear hzz hzp
        go_wp2_with (at_builtin; refine append_byt rfl (.tmp 15) (.tmp 18) rfl w.heap.size _ m _ rfl (own_keep HO.out (keep_below (al1 _ _))) [x] _ rfl (byt_one_at wr x _ rfl hx8) (nilOk_some _ _ _) (by simp; omega) (by simp; omega) ?_; intro v1 w1 hown1 hg1; obtain ⟨a1, c1, rfl⟩ := own_form hown1; have HB1 := hid ((HB.out.alloc hz1 _).grown hg1 (by simp; omega) (fun k e => (HO.out.lt k e).1)); have HO1 := hid hown1; clear hown1 hg1)
        go_roundw
        case rel => exact ⟨k + 1, m + 1, by omega, by omega, by go_num, hid (by rw [HT.out, HE.out, List.length_append, HM.out]; rfl), hid (by rw [HT.out, HE.out, List.map_append]; exact HO1.out), HB1⟩
        case measure => simp [Lib.intOf]; omega
      · obtain ⟨x, rfl⟩ : ∃ x : Nat, z = -(x : Int) := ⟨(-z).toNat, by omega⟩
        have HE : Hid (ec1 (-(x : Int)) = tg x) := hid (by unfold ec1; rw [if_neg hzp]; simp)
        have hx8 : x < 256 := by omega
        have hxp : 0 < x := by omega
        have HS := hid (sector_any x wr)
        clear hzz hzp
        go_wp2_with fail
        refine HS.out.mono ?_
        rintro e w2 ⟨rfl, hb2⟩
        have HO2 := hid (own_keep HO.out (keep_below hb2))
        have HB2 := hid (HB.out.trans (hb2.mono HB.out.size))
        have hz2 := HB2.out.size
        clear hb2 hcx
        unfold tgA
        go_wp2_with (at_builtin; refine append_byt rfl (.tmp 24) (.tmp 25) rfl w.heap.size _ m _ rfl (own_keep HO2.out (keep_below (al1 _ _))) (tg x) _ rfl (byt_cells (s := tg x) (fun y hy => by simp [tg] at hy; omega) rfl (heap_alloc_new w2 _)) (nilOk_some _ _ _) (by simp [tg]; omega) (by simp; omega) ?_; intro v1 w1 hown1 hg1; obtain ⟨a1, c1, rfl⟩ := own_form hown1; have HB1 := hid ((HB2.out.alloc hz2 _).grown hg1 (by simp; omega) (fun k e => (HO2.out.lt k e).1)); have HO1 := hid hown1; clear hown1 hg1)
        go_roundw
        case rel => exact ⟨k + 1, m + 8, by omega, by omega, by go_num, hid (by rw [HT.out, HE.out, List.length_append, HM.out]; rfl), hid (by rw [HT.out, HE.out, List.map_append]; exact HO1.out), HB1⟩
        case measure => simp [Lib.intOf]; omega
    · obtain rfl : k = l.length := by omega
      go_wp2
      go_ret
      exact ⟨_, rfl, by have h := HO.out; have e := HM.out; subst e; rw [List.take_length] at h; exact h, HB.out⟩
end Go.Proofs.Ytielamoaghibgaa
