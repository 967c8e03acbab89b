/- Sectors; the reference's Bytes and Sectors. -/
import Derived.Test.YtgkcdmbhniipdaaQ
namespace Go.Proofs.Ytgkcdmbhniipdaa
open Go.RowKit Go.Lib Go.Shelf

theorem sectorBytes_any (v : Value) (w : World) (a : Option Addr) (len cap : Nat) (hv : v = .slice a len cap) :
    Calls Try.prog 30 #[v] w fun e w' => e = .returned (.func (.func 36) #[] #[.pointer (some ⟨w.heap.size, 0, none⟩)]) ∧ w.alloc (.cells #[v] 31) = w' := by
  subst hv
  go_enter Try.func30, Try.ntmps30
  go_wp2
  go_ret
  exact ⟨rfl, rfl⟩
theorem enters36 : ∀ args w, (callFunc 36 args).run Try.prog w = .ok (.enter 36 args) w := enters_of Try.func36 (by kernel_rfl) rfl

set_option maxHeartbeats 2000000 in
theorem digestS_any (ll : List (List Nat)) (v : Value) (w : World) (hv : Sec w v ll) :
    Calls Try.prog 21 #[v] w fun e w' => e = .returned (.int .u64 (dig ll.flatten : Nat)) ∧ Below w.heap.size w w' := by
  have HS := hid (sectors_streams 2 w.heap.size ll v w (w.alloc (.cells #[v] 31)) (by decide) hv (al1 _ _) (by simp) (Boxed.new w 31 v).cell)
  obtain ⟨A, cap, rfl⟩ := sec_form hv
  clear hv
  go_enter Try.func21, Try.ntmps21
  go_wp2_with (go_at_call 30; refine (sectorBytes_any _ _ _ _ _ rfl).mono ?_; rintro e w1 ⟨rfl, rfl⟩)
  refine (digest_any 36 _ w.heap.size ll.flatten _ HS.out (by simp) enters36).mono ?_
  rintro e w2 ⟨rfl, hb⟩
  have HB := hid (al_back hb)
  clear hb
  go_wp2
  go_ret
  exact ⟨rfl, HB.out⟩

/-- What a call that makes bytes answers. -/
def MadeY (w : World) (l : List Nat) (e : Ending) (w' : World) : Prop := ∃ v, e = .returned v ∧ Byt w' v l ∧ NilOk v ∧ Below w.heap.size w w'
theorem take_succ' {l : List Nat} {k x : Nat} (h : l[k]? = some x) : l.take (k + 1) = l.take k ++ [x] := by
  obtain ⟨hk, rfl⟩ := List.getElem?_eq_some_iff.1 h
  rw [List.take_succ_eq_append_getElem hk]
theorem byt_one (w : World) (z : Nat) (hz : z < 256) : Byt (w.alloc (.cells #[.int .u8 (z : Int)] 5)) (.slice (some ⟨w.heap.size, 0, none⟩) 1 1) [z] :=
  byt_new w [z] (0, 0) (fun x hx => by simp at hx; omega) (by unfold maxLen; simp)

set_option maxHeartbeats 2000000 in
theorem rbytes_any (ll : List (List Nat)) (v : Value) (w : World) (hv : Sec w v ll) (hl : ll.length ≤ 1000) :
    Calls Try.prog 31 #[v] w (MadeY w ll.flatten) := by
  have hfl := flat_length hv.1
  have HG := hid (fun (i m : Nat) (s : List Nat) (h1 : ll[i]? = some s) (h2 : m < 8) => flat_get hv.1 h1 h2)
  have H8 := hid hv.1
  have HF8 := hid (flat_B8 hv.1)
  obtain ⟨_, A, cap, rfl, hcap, hcm, b, off, hA, hc⟩ := hv
  unfold maxLen at hcm
  have HC := hid hc
  clear hc
  obtain ⟨fl, hfe⟩ : ∃ fl, ll.flatten = fl := ⟨_, rfl⟩
  rw [hfe] at HG hfl HF8 ⊢
  clear hfe
  go_enter Try.func31, Try.ntmps31
  go_wp2
  go_loopw [3, 4] (fun v i wr => ∃ k : Nat, k ≤ ll.length ∧ i = .int .i64 (k : Int) ∧ Hid (wr.ownsRow w.heap.size 5 1 v (8 * k) ((fl.take (8 * k)).map byteV)) ∧ Hid (Below w.heap.size w wr)) (fun _ i _ => ll.length - (intOf i).toNat)
  case atStart => exact ⟨0, by omega, rfl, hid (World.ownsRow_nil _ _ _ _), hid (Below.refl _ _)⟩
  case round =>
    obtain ⟨k, hk, rfl, HO, HB⟩ := hrel
    obtain ⟨av, cv, rfl⟩ := own_form HO.out
    by_cases hkl : k < ll.length
    · obtain ⟨hA1, hb⟩ := hA (by omega)
      subst hA1
      obtain ⟨s, hs⟩ : ∃ s, ll[k]? = some s := ⟨ll[k], List.getElem?_eq_getElem hkl⟩
      obtain ⟨hsl, hsb⟩ := H8.out s (List.mem_of_getElem? hs)
      have HSB := hid hsb
      have HSL := hid hsl
      have HGS := hid (fun (m : Nat) (h : m < 8) => HG.out k m s hs h)
      have HCS := hid (HC.out k s hs)
      clear hs hsb hsl
      obtain ⟨wo, rfl⟩ : ∃ wo : World, wo = wr := ⟨_, rfl⟩
      go_wp2
      go_loopw [3, 5] (fun v i wr => ∃ m : Nat, m ≤ 8 ∧ i = .int .i64 (m : Int) ∧ Hid (wr.ownsRow w.heap.size 5 1 v (8 * k + m) ((fl.take (8 * k + m)).map byteV)) ∧ Hid (Below w.heap.size w wr)) (fun _ i _ => 8 - (intOf i).toNat)
      case atStart => exact ⟨0, by omega, rfl, HO, HB⟩
      case round =>
        clear HO HB
        obtain ⟨m, hm, rfl, HO, HB⟩ := hrel
        obtain ⟨av, cv, rfl⟩ := own_form HO.out
        by_cases hm8 : m < 8
        · obtain ⟨z, hz⟩ : ∃ z, s[m]? = some z := ⟨s[m]'(by have := HSL.out; omega), List.getElem?_eq_getElem (by have := HSL.out; omega)⟩
          have hzl := HSB.out z (List.mem_of_getElem? hz)
          have hcl := (HB.out.cell (p := ⟨b, off + k * 8 + m, none⟩) hb).trans (HCS.out m z hz)
          have HN := hid (take_succ' ((HGS.out m hm8).trans hz))
          have hBs := HB.out.size
          clear hz
          go_wp2_with (at_builtin; refine append_byt rfl (.tmp 16) (.tmp 23) rfl w.heap.size (.slice av (8 * k + m) cv) (8 * k + m) _ rfl (HO.out.alloc _) [z] _ rfl (byt_one wr z hzl) (nilOk_some _ _ _) (by simp; omega) (by simp; omega) ?_; intro v1 w1 hown1 hg1; have HB1 := hid (below_own (HB.out.alloc hBs _) (HO.out.alloc (.cells #[.int .u8 (z : Int)] 5)) hg1 (by simp; omega) (Nat.le_refl _)); have HO1 := hid hown1; clear hown1 hg1)
          go_roundw
          case rel => exact ⟨m + 1, by omega, by go_num, hid (by
            have h := HO1.out
            rw [own_snoc, ← HN.out] at h
            exact h), HB1⟩
          case measure => simp [intOf]; omega
        · obtain rfl : m = 8 := by omega
          go_wp2
          go_roundw
          case rel => exact ⟨k + 1, by omega, by go_num, by rw [show 8 * (k + 1) = 8 * k + 8 by omega]; exact HO, HB⟩
          case measure => simp [intOf]; omega
    · obtain rfl : k = ll.length := by omega
      go_wp2
      go_ret
      refine ⟨_, rfl, ?_, own_nilOk HO.out, HB.out⟩
      have h := HO.out
      rw [List.take_of_length_le (by omega)] at h
      exact byt_of_own h HF8.out

set_option maxHeartbeats 2000000 in
theorem rdigestS_any (ll : List (List Nat)) (v : Value) (w : World) (hv : Sec w v ll) (hl : ll.length ≤ 1000) :
    Calls Try.prog 22 #[v] w fun e w' => e = .returned (.int .u64 (dig ll.flatten : Nat)) ∧ Below w.heap.size w w' := by
  have HB := hid (rbytes_any ll v w hv hl)
  obtain ⟨A, cap, rfl⟩ := sec_form hv
  clear hv
  obtain ⟨fl, hfe⟩ : ∃ fl, ll.flatten = fl := ⟨_, rfl⟩
  rw [hfe] at HB ⊢
  clear hfe
  go_enter Try.func22, Try.ntmps22
  go_wp2_with fail
  refine HB.out.mono ?_
  rintro e w1 ⟨v1, rfl, hv1, hn1, hb1⟩
  clear hn1
  have HV1 := hid hv1
  have HB1 := hid hb1
  obtain ⟨A1, c1, rfl⟩ := byt_form hv1
  clear hv1 hb1
  go_wp2_with fail
  refine (rdigest_any fl _ _ HV1.out).mono ?_
  rintro e w2 ⟨rfl, rfl⟩
  go_wp2
  go_ret
  exact ⟨rfl, HB1.out⟩
end Go.Proofs.Ytgkcdmbhniipdaa
