/- The sectors of the first record. -/
import Derived.Test.YtcmmkeadbedooaaM
namespace Go.Proofs.Ytcmmkeadbedooaa
open Go.RowKit Go.Lib

def firS (s : Sect) (l : List Sect) : Except Int Nat :=
  if num s = 0 then .error 7
  else if 4096 < lenOf s then .error 5
  else if l.length < size (lenOf s) ∨ others (num s) (l.take (size (lenOf s))) = true then .error 10
  else .ok (size (lenOf s))
/-- How many sectors the first record has. -/
def firE : List Sect → Except Int Nat
  | [] => .error 10
  | s :: t => firS s (s :: t)
def FirQ (w : World) (A : Option Addr) (c : Nat) (l : List Sect) (e : Ending) (w' : World) : Prop :=
  Below w.heap.size w w' ∧ ((∃ n, firE l = .ok n ∧ e = .returned (.slice A n c)) ∨ ∃ er, firE l = .error er ∧ Pan er e)
theorem num_lt {s : Sect} (h : s.length = 8) (h8 : B8 s) : num s < 4294967296 := by
  unfold num
  have := ge_lt (b8_take h8 4)
  rw [List.length_take, h] at this
  exact this
theorem run_secs_to (A : Option Addr) (n c k : Nat) (hk : k ≤ c) (W : World) : (Instr.slice 28 (.slice A n c) none (some (.int .i64 (k : Int))) none).run Try.prog W = .ok (.slice A k c) W := by
  simp [Instr.slice, run_underlying Try.underlying28, Instr.sliceBounds, Sem.run_bind, run_sliceBound_if]
  rw [if_pos hk]
  have e : (if c = 0 then A else Option.map (fun (x : Addr) => x.add 0) A) = A := by
    rcases A with _ | a
    · simp
    · simp [Addr.add]
  rw [e]
theorem sec_upto {w : World} {A : Option Addr} {n c : Nat} {l : List Sect} (h : Sec w (.slice A n c) l) (k : Nat) : Sec w (.slice A (l.take k).length c) (l.take k) := by
  obtain ⟨hs, A', c', e, h1, h2, b, off, hA, hc⟩ := h
  injection e with e1 e2 e3
  subst e1; subst e3
  rw [List.length_map] at h1 hA
  refine ⟨secs_take hs k, A, c, by rw [List.length_map], by rw [List.length_map, List.length_take]; omega, h2, b, off, fun h0 => hA (by rw [List.length_map, List.length_take] at h0; omega), fun i r hr j u hu => ?_⟩
  rw [List.map_take, List.getElem?_take] at hr
  split at hr
  · exact hc i r hr j u hu
  · cases hr
theorem sec_cap {w : World} {A : Option Addr} {n c : Nat} {l : List Sect} (h : Sec w (.slice A n c) l) : l.length ≤ c := by
  obtain ⟨_, A', c', e, h1, _⟩ := h
  injection e with e1 e2 e3
  subst e3
  rw [List.length_map] at h1
  exact h1
theorem firE_cons (s : Sect) (t : List Sect) : firE (s :: t) = firS s (s :: t) := rfl
theorem dts_one (s : Sect) : dts [s] = s.drop 4 := by unfold dts; simp

set_option maxHeartbeats 4000000 in
set_option maxRecDepth 100000 in
theorem first_any (l : List Sect) (A : Option Addr) (c : Nat) (w : World) (hv : Sec w (.slice A l.length c) l) (hl : l.length ≤ 100000) :
    Calls Try.prog 33 #[.slice A l.length c] w (FirQ w A c l) := by
  have hS := hv.1
  rcases hle : l with _ | ⟨s, t⟩
  · have HE : Hid (firE [] = .error 10) := hid rfl
    show Calls Try.prog 33 #[.slice A 0 c] w _
    go_enter Try.func33, Try.ntmps33
    go_wp2
    exact ⟨rfl, Below.refl _ _, .inr ⟨10, HE.out, rfl⟩⟩
  · rw [← hle]
    have hE : firE l = firS s l := by rw [hle]; rfl
    have hlc := sec_cap hv
    obtain ⟨hs8, hsb⟩ := hS s (by rw [hle]; exact List.mem_cons_self ..)
    have hN := num_lt hs8 hsb
    have hl0 : l[0]? = some s := by rw [hle]; rfl
    have htk1 : l.take 1 = [s] := by rw [hle]; rfl
    have hlpos : 0 < l.length := by rw [hle]; simp
    obtain ⟨b, off, cap, he, _, _, hbl, hsc⟩ := sec_at hv (by rw [hle]; simp)
    injection he with he1 he2 he3
    subst he1
    subst he3
    have hsc' := hsc 0 s hl0
    rw [Nat.zero_mul, Nat.add_zero] at hsc'
    have HNUM := hid (num_any s w hs8 hsb)
    obtain ⟨L, hL⟩ : ∃ L, l.length = L := ⟨_, rfl⟩
    obtain ⟨N, hNe⟩ : ∃ N, num s = N := ⟨_, rfl⟩
    have hs1 := sec_upto hv 1
    rw [htk1] at hs1
    have HS1 := hid hs1
    have HV := hid hv
    have HE := hid hE
    have HLL := hid hL
    have HNE := hid hNe
    rw [hL] at HV hlc hl hlpos ⊢
    rw [hNe] at HNUM hN
    have HS8 := hid hs8
    have HSB := hid hsb
    obtain ⟨x0, x1, x2, x3, x4, x5, x6, x7, hxs⟩ := list8 hs8
    have HXS := hid hxs
    rw [hxs] at hsc' HNUM
    obtain ⟨p0, p1, p2, p3, p4, p5, p6, p7⟩ := hsc'.facts
    have hr1 : ∀ W : World, (Instr.slice 28 (.slice (some ⟨b, off, none⟩) L c) none (some (.int .i64 1)) none).run Try.prog W = .ok (.slice (some ⟨b, off, none⟩) 1 c) W := fun W => run_secs_to _ L c 1 (by omega) W
    have hLi : (0 : Int) < (L : Int) := by omega
    clear hv hS hle hE hs8 hsb hl0 htk1 hsc hsc' hL hNe hs1 hxs hbl
    go_enter Try.func33, Try.ntmps33
    go_wp2_with fail
    refine HNUM.out.mono ?_
    rintro e w1 ⟨rfl, hb1⟩
    obtain ⟨W2, hW2⟩ : ∃ W2, w1.alloc (.cells #[.int .u32 (N : Int)] 56) = W2 := ⟨_, rfl⟩
    have hx2 : W2.heap[w1.heap.size]? = some (.cells #[.int .u32 (N : Int)] 56) := by rw [← hW2]; exact heap_alloc_new _ _
    have hb2 : Below w1.heap.size w1 W2 := by rw [← hW2]; exact al1 _ _
    have hbw2 : Below w.heap.size w W2 := hb1.trans (hb2.mono hb1.size)
    have hcn : (w1.alloc (.cells #[.int .u32 (N : Int)] 56)).cell? ⟨w1.heap.size, 0, none⟩ = some (.int .u32 (N : Int)) := by rw [hW2]; exact cell_of_row _ _ 0 _ _ _ hx2
    have HW2 := hid hW2
    have HX2 := hid hx2
    have HBW2 := hid hbw2
    clear hb1 hb2 hbw2 hx2 hW2 p0 p1 p2 p3 p4 p5 p6 p7 HNUM
    by_cases hN0 : N = 0
    · subst hN0
      have HE2 : Hid (firE l = .error 7) := hid (by rw [HE.out]; unfold firS; rw [if_pos HNE.out])
      go_wp2
      exact ⟨rfl, (by have h := HBW2.out; rw [← HW2.out] at h; exact h), .inr ⟨7, HE2.out, rfl⟩⟩
    · have hd1 : ((N : Int) == 0) = false := by rw [beq_eq_false_iff_ne]; omega
      have HD1 := hid (fun W (h : Sec W (.slice (some ⟨b, off, none⟩) 1 c) [s]) => data_any [s] _ W h (by simp))
      go_wp2_with fail
      rw [HW2.out]
      refine (HD1.out W2 (HS1.out.below HBW2.out)).mono ?_
      rintro e w3 ⟨v3, rfl, ho3, hb3⟩
      rw [dts_one] at ho3
      have hv3 := byt_of_own ho3 (b8_drop HSB.out 4)
      obtain ⟨A3, c3, rfl⟩ := own_form ho3
      have hd4 : (s.drop 4).length = 4 := by rw [List.length_drop, HS8.out]
      rw [hd4] at hv3
      have HV3 := hid hv3
      have HB3 := hid hb3
      clear ho3 hv3 hb3 HD1 hcn
      rw [hd4]
      go_wp2_with fail
      refine (over_any _ _ _ _).mono ?_
      rintro e w4 ⟨rfl, hb4⟩
      obtain ⟨W5, hW5⟩ : ∃ W5, w4.alloc (.cells #[.slice A3 4 c3, .slice A3 4 c3] 62) = W5 := ⟨_, rfl⟩
      have hx5 : W5.heap[w4.heap.size]? = some (.cells #[.slice A3 4 c3, .slice A3 4 c3] 62) := by rw [← hW5]; exact heap_alloc_new _ _
      have hb5 : Below w4.heap.size w4 W5 := by rw [← hW5]; exact al1 _ _
      have hlf5 : Lf w4 W5 w4.heap.size (s.drop 4) (.slice A3 4 c3) := ⟨A3, c3, by rw [hd4]; exact hx5, by rw [hd4]; exact HV3.out.below hb4⟩
      have HN6 := hid (next_lf w4.heap.size 1 _ _ w4 W5 hlf5 (by rw [hd4]; omega))
      have HW5 := hid hW5
      have HB4 := hid hb4
      have HB5 := hid hb5
      clear hb4 hb5 hx5 hlf5 hW5
      go_wp2_with fail
      rw [HW5.out]
      refine HN6.out.mono ?_
      rintro e w6 ⟨⟨A6, c6, rfl, _, _⟩, hlf6, hu6⟩
      have hb46 : Below w4.heap.size w4 w6 := HB5.out.trans (hu6.below (Nat.le_refl _) HB5.out.size)
      rw [List.drop_drop] at hlf6
      have HN7 := hid (number_lf w4.heap.size 2 _ _ w4 w6 hlf6 hb46 (Nat.le_refl _) (by rw [List.length_drop, HS8.out]; omega) (by omega))
      have HB46 := hid hb46
      clear hlf6 hu6 hb46 HN6
      go_wp2_with fail
      refine HN7.out.mono ?_
      rintro e w7 ⟨rfl, _, hu7⟩
      have hge : ge ((s.drop (4 + 1)).take 2) = lenOf s := rfl
      rw [hge]
      have hm65 : lenOf s < 65536 := by
        have h := ge_lt (b8_take (b8_drop HSB.out 5) 2)
        rw [List.length_take, List.length_drop, HS8.out] at h
        exact h
      obtain ⟨m, hm⟩ : ∃ m, lenOf s = m := ⟨_, rfl⟩
      rw [hm] at hm65 ⊢
      have hb47 : Below w4.heap.size w4 w7 := HB46.out.trans (hu7.below (Nat.le_refl _) HB46.out.size)
      have hb27 : Below W2.heap.size W2 w7 := HB3.out.trans ((HB4.out.trans (hb47.mono HB4.out.size)).mono HB3.out.size)
      have hbw7 : Below w.heap.size w w7 := HBW2.out.trans (hb27.mono HBW2.out.size)
      have HX7 := hid ((hb27.block w1.heap.size (box_lt HX2.out)).trans HX2.out)
      have HB7 := hid hbw7
      have HM := hid hm
      clear hu7 hb47 hb27 hbw7 HN7 HB46 hge hm
      by_cases hm4 : 4096 < m
      · have hd2 : decide ((4096 : Int) < (m : Int)) = true := decide_eq_true (by omega)
        have HE2 : Hid (firE l = .error 5) := hid (by rw [HE.out]; unfold firS; rw [if_neg (by rw [HNE.out]; exact hN0), if_pos (by rw [HM.out]; exact hm4)])
        go_wp2
        exact ⟨rfl, HB7.out, .inr ⟨5, HE2.out, rfl⟩⟩
      · have hd2 : decide ((4096 : Int) < (m : Int)) = false := decide_eq_false (by omega)
        have HSZ := hid (szI_nat (n := m) (by omega))
        obtain ⟨k, hk⟩ : ∃ k, size m = k := ⟨_, rfl⟩
        have hk11 : k ≤ 1100 := by rw [← hk]; unfold size; omega
        rw [hk] at HSZ
        have HK := hid hk
        clear hk
        have HE1 : Hid (firE l = if L < k ∨ others N (l.take k) = true then .error 10 else .ok k) := hid (by
          rw [HE.out]; unfold firS
          rw [if_neg (by rw [HNE.out]; exact hN0), if_neg (by rw [HM.out]; exact hm4), HM.out, HK.out, HLL.out, HNE.out])
        go_wp2_with fail
        refine (size_any (m : Int) _).mono ?_
        rintro e w8 ⟨rfl, rfl⟩
        rw [HSZ.out]
        by_cases hkL : L < k
        · have hd3 : decide ((L : Int) < (k : Int)) = true := decide_eq_true (by omega)
          have HE2 : Hid (firE l = .error 10) := hid (by rw [HE1.out, if_pos (.inl hkL)])
          go_wp2
          exact ⟨rfl, HB7.out, .inr ⟨10, HE2.out, rfl⟩⟩
        · have hd3 : decide ((L : Int) < (k : Int)) = false := decide_eq_false (by omega)
          have hr2 := fun W : World => run_secs_to (some ⟨b, off, none⟩) L c k (by omega) W
          have hmf : ∀ (fn : Fn) (first cap : Array Value) (w : World), (Instr.makeFunc fn first cap).run Try.prog w = .ok (.func fn first cap) w := fun _ _ _ _ => rfl
          have hv7 := sec_upto (HV.out.below HB7.out) k
          have htl : (l.take k).length = k := by rw [List.length_take, HLL.out]; omega
          rw [htl] at hv7
          have HOT := hid (otherS_any (l.take k) N w1.heap.size _ w7 hv7 (by rw [htl]; omega) (cell_of_row _ _ 0 _ _ _ HX7.out) (box_lt HX7.out))
          clear hv7 htl
          go_wp2_with fail
          refine HOT.out.mono ?_
          rintro e w9 ⟨rfl, hb9⟩
          have HB9 := hid (HB7.out.trans (hb9.mono HB7.out.size))
          clear hb9
          obtain ⟨d, hd⟩ : ∃ d, others N (l.take k) = d := ⟨_, rfl⟩
          rw [hd] at HE1 ⊢
          clear hd
          cases d with
          | true =>
            have HE2 : Hid (firE l = .error 10) := hid (by rw [HE1.out, if_pos (.inr rfl)])
            go_wp2
            exact ⟨rfl, HB9.out, .inr ⟨10, HE2.out, rfl⟩⟩
          | false =>
            have HE2 : Hid (firE l = .ok k) := hid (by rw [HE1.out, if_neg (by simp; omega)])
            go_wp2
            go_ret
            exact ⟨HB9.out, .inl ⟨k, HE2.out, rfl⟩⟩
end Go.Proofs.Ytcmmkeadbedooaa
