/- The iterator over the elements. -/
import Derived.Test.YtbifhcjkdfocaaaDoorJ
import Derived.Test.YtbifhcjkdfocaaaDoorR
import Derived.TacticsInMore
import Derived.LoopIn
import Derived.LoopNIn
import Derived.RegionIn
import Derived.Sort.QuietIn
import Derived.Shelf.AbstractIn
namespace Go.Proofs.YtbifhcjkdfocaaaDoor
open Go.RowKit

def KB (nb b1 b2 : Nat) (k : Nat) : Prop := k < nb ∨ k = b1 ∨ k = b2

set_option maxHeartbeats 4000000 in
set_option maxRecDepth 100000 in
theorem elems_gives (n b1 b2 : Nat) (s : Int) (ws : List Nat) (q : Nat) (v : Value) (w0 w : World) (hn : 1 ≤ n) (hv : Bm w0 v s ws) (hT : Tab w0) (hb0 : Below w0.heap.size w0 w) (hq : q ≤ 9223372036854775807)
    (h10 : ∀ A cap, v = .agg #[.int .i64 s, .slice A ws.length cap] → w.cell? ⟨b1, 0, none⟩ = some (.int .i64 s) ∧ w.cell? ⟨b1, 1, none⟩ = some (.slice A ws.length cap)) (h2 : w.cell? ⟨b2, 0, none⟩ = some (.int .i64 q))
    (hl1 : b1 < w.heap.size) (hl2 : b2 < w.heap.size) :
    Gives Fence.wide n Tryd.prog 53 #[.pointer (some ⟨b1, 0, none⟩), .pointer (some ⟨b2, 0, none⟩)] (fun x : Nat => #[.int .i64 (x : Int)]) (KB w0.heap.size b1 b2)
      (fun xs => xs = elems s ws q) (fun pre => ∃ r, pre ++ r = elems s ws q) w := by
  intro l J Jx W hW hstart hJ hJx hround
  have hCK := fun W1 (hb : Below w0.heap.size w0 W1) => check_any s ws v W1 (hv.below hb)
  have hbW : Below w0.heap.size w0 W := hb0.trans (hW.mono hb0.size)
  have hws := hb0.size
  have hWs := hW.size
  obtain ⟨hs, hr, A, cap, hve, hcap, hcm, b, off, hA, hc⟩ := hv
  obtain ⟨x0, x1⟩ := h10 A cap hve
  subst hve
  have g0 := (hW.cell (p := ⟨b1, 0, none⟩) hl1).trans x0
  have g1 := (hW.cell (p := ⟨b1, 1, none⟩) hl1).trans x1
  have g2 := (hW.cell (p := ⟨b2, 0, none⟩) hl2).trans h2
  have H1 := hid hstart
  have H2 := hid hJ
  have H3 := hid hJx
  have H4 := hid hround
  have HCK := hid (hCK W hbW)
  have HT := hid hT
  have HR := hid hr
  have HC := hid hc
  clear hstart hJ hJx hround hCK hc hr hT x0 x1 h2 h10
  by_cases hg : chk s ws = 0
  · have good := chk_zero hg
    have hlow := good.low
    have hhigh := good.high
    have hlen := good.len
    have hln : ws.length ≤ 64 := by omega
    have HE : Hid (elems s ws q = elsL (bit ws) q (64 * ws.length - q)) := hid (by unfold elems; rw [if_pos hg])
    rw [hg] at HCK
    clear good hg
    refine callsIn_of_wp Tryd.func53 rfl trivial ?_ rfl
    simp only [Tryd.ntmps53, List.size_toArray, List.length_cons, List.length_nil, Nat.reduceAdd, Nat.reduceSub, Array.replicate_succ, Array.replicate_zero, List.push_toArray, List.append_toArray, List.nil_append, List.cons_append]
    gi_wp2_with (refine ⟨trivial, ?_⟩; gi_at_call 16; refine (callsIn_wide.2 HCK.out).mono ?_; rintro e w2 ⟨rfl, hb2⟩; have z0 := (hb2.cell (p := ⟨b1, 0, none⟩) (show b1 < W.heap.size by omega)).trans g0; have z1 := (hb2.cell (p := ⟨b1, 1, none⟩) (show b1 < W.heap.size by omega)).trans g1; have z2 := (hb2.cell (p := ⟨b2, 0, none⟩) (show b2 < W.heap.size by omega)).trans g2)
    have hz2 := hb2.size
    have hJ0 : J w2.heap.size [] w2 := H1.out _ _ hb2 (by omega) (Nat.le_refl _)
    have hb02 : Below w0.heap.size w0 w2 := hbW.trans (hb2.mono (by omega))
    have HB02 := hid hb02
    have Z0 := hid z0
    have Z1 := hid z1
    have Z2 := hid z2
    clear hb02 g0 g1 g2 HCK H1 z0 z1 z2 hb2
    gi_loopw [4] (fun i wr => ∃ (k : Nat) (pre : List Nat), q / 64 ≤ k ∧ (k ≤ q / 64 ∨ k ≤ ws.length) ∧ i = .int .i64 k ∧ Hid (pre ++ rem ws q k = elems s ws q) ∧ w2.heap.size ≤ wr.heap.size ∧ Hid (J w2.heap.size pre wr) ∧ Hid (∀ k, KB w0.heap.size b1 b2 k ∨ (W.heap.size ≤ k ∧ k < w2.heap.size) → wr.heap[k]? = w2.heap[k]?)) (fun i _ => ws.length - (intOf i).toNat)
    case atStart => exact ⟨q / 64, [], Nat.le_refl _, .inl (Nat.le_refl _), by go_num, hid (by rw [rem_start, HE.out]; rfl), Nat.le_refl _, hid hJ0, hid (fun _ _ => rfl)⟩
    case round =>
      obtain ⟨k, pre, hqk, hkl, rfl, HPRE, hsz, HJ, HS⟩ := hrel
      have z0 := (World.cell?_of_block (a := ⟨b1, 0, none⟩) (HS.out b1 (.inl (.inr (.inl rfl))))).trans Z0.out
      have z1 := (World.cell?_of_block (a := ⟨b1, 1, none⟩) (HS.out b1 (.inl (.inr (.inl rfl))))).trans Z1.out
      have z2 := (World.cell?_of_block (a := ⟨b2, 0, none⟩) (HS.out b2 (.inl (.inr (.inr rfl))))).trans Z2.out
      by_cases hlt : k < ws.length
      · obtain ⟨hA1, hb⟩ := hA (by omega)
        subst hA1
        obtain ⟨x, hx⟩ : ∃ x, ws[k]? = some x := ⟨ws[k], List.getElem?_eq_getElem hlt⟩
        have hxl := HR.out x (List.mem_of_getElem? hx)
        have hcl := (World.cell?_of_block (a := ⟨b, off + k, none⟩) (HS.out b (.inl (.inl hb)))).trans ((HB02.out.cell (p := ⟨b, off + k, none⟩) hb).trans (HC.out _ _ hx))
        have HX := hid hx
        clear hx
        by_cases hkq : k = q / 64
        · have hdec : ((k : Int) == (q : Int) / 64) = true := by simp; omega
          have hkq64 : 64 * k + q % 64 = q := by omega
          have HKQ := hid hkq
          clear hkq
          obtain ⟨m, hm⟩ : ∃ m, q % 64 = m := ⟨_, rfl⟩
          have hm64 : m < 64 := by omega
          have hmi : (q : Int) % 64 = (m : Int) := by omega
          obtain ⟨y, hy⟩ : ∃ y, x / 2 ^ m * 2 ^ m = y := ⟨_, rfl⟩
          have hyx : y ≤ x := by rw [← hy]; exact Nat.div_mul_le_self _ _
          have hyl : y < 18446744073709551616 := by omega
          have hyi : (x : Int) / 2 ^ m * 2 ^ m = (y : Int) := by rw [← hy]; simp
          have HP2 : Hid (pre ++ (wordL k y ++ rem ws q (k + 1)) = elems s ws q) := hid (by
            rw [← HPRE.out, ← rem_word (by omega) HX.out (fun j hj => by
              rw [← hy, mask_bits]
              congr 1
              simp only [decide_eq_decide]
              omega)])
          clear hy hyx
          have hm64i : ¬ (m : Int) < 0 := by omega
          gi_wp2
          gi_quiet (fail)
          rename_i nq
          obtain ⟨w7, hw7⟩ : ∃ w7, wr.drewN nq = w7 := ⟨_, rfl⟩
          have HJ7 : Hid (J w2.heap.size pre w7) := by rw [← hw7]; exact hid (H2.out _ _ _ _ none HJ.out ⟨rfl, rfl, rfl, Nat.le_refl _, fun _ _ _ => rfl⟩ (fun r e => by cases e))
          have HS7 : Hid (∀ k, KB w0.heap.size b1 b2 k ∨ (W.heap.size ≤ k ∧ k < w2.heap.size) → w7.heap[k]? = w2.heap[k]?) := by rw [← hw7]; exact HS
          have hsz7 : w2.heap.size ≤ w7.heap.size := by rw [← hw7]; exact hsz
          rw [hw7]
          clear hw7 HJ HS hsz z0 z1 z2 hcl
          gi_wp2
          gi_loopw [5] (fun r wi => ∃ (y : Nat) (pre : List Nat), r = .int .u64 y ∧ y < 18446744073709551616 ∧ Hid (pre ++ (wordL k y ++ rem ws q (k + 1)) = elems s ws q) ∧ w2.heap.size ≤ wi.heap.size ∧ Hid (J w2.heap.size pre wi) ∧ Hid (∀ k, KB w0.heap.size b1 b2 k ∨ (W.heap.size ≤ k ∧ k < w2.heap.size) → wi.heap[k]? = w2.heap[k]?)) (fun r _ => (intOf r).toNat)
          case atStart => exact ⟨y, pre, rfl, hyl, HP2, hsz7, HJ7, HS7⟩
          case round =>
            clear HP2 HPRE HJ7 HS7 hsz7 hyl hyi hxl HX hmi hm64i hkq64 hm hm64 hdec
            obtain ⟨y, pre, rfl, hyl, HP, hsz, HJ, HS⟩ := hrel
            by_cases hy0 : y = 0
            · subst hy0
              gi_wp2
              go_roundw
              case rel => exact ⟨k + 1, pre, by omega, by omega, by go_num, hid (by have h := HP.out; rw [wordL_zero, List.nil_append] at h; exact h), hsz, HJ, HS⟩
              case measure => simp [intOf]; omega
            · have hT2 : Tab wr := (HT.out.below HB02.out).of_block (HS.out 0 (.inl (.inl HT.out.2))) (by have := HT.out.2; omega)
              obtain ⟨t, ht⟩ : ∃ t, Lib.ctz 64 y = t := ⟨_, rfl⟩
              have htl : t < 64 := by rw [← ht]; exact (low_bit hy0 hyl).1
              have HW := hid (wordL_next (i := k) hy0 hyl)
              rw [ht] at HW
              have htz := fun W' (h : Tab W') => tz_any y W' hyl h
              rw [ht] at htz
              have HTZ := hid (htz _ hT2)
              have hne : ((y : Int) != 0) = true := by simp; omega
              have hk64 : k ≤ 64 := by omega
              have hand : bits .and .u64 (y : Int) ((y : Int) - 1) = ((y &&& (y - 1) : Nat) : Int) := by
                rw [show (y : Int) - 1 = ((y - 1 : Nat) : Int) from by omega]
                exact u64_and_nat _ _ hyl (by omega)
              obtain ⟨z, hz⟩ : ∃ z, y &&& (y - 1) = z := ⟨_, rfl⟩
              have hzy : z < y := by rw [← hz]; exact less_bit hy0
              rw [hz] at hand HW
              obtain ⟨fn, tmps, assign, body, hyy, hR⟩ := H4.out w2.heap.size pre (64 * k + t) wr (by omega) HJ.out ⟨wordL k z ++ rem ws q (k + 1), by rw [← HP.out, HW.out]; simp⟩ hsz
              have hcast : ((64 * k + t : Nat) : Int) = (k : Int) * 64 + (t : Int) := by omega
              rw [hcast] at hyy
              have HRR := hid hR
              have HCAST := hid hcast
              clear hR hT2 htz ht hz hcast
              gi_wp2_with (refine ⟨trivial, ?_⟩; gi_at_call 54; refine (callsIn_wide.2 HTZ.out).mono ?_; rintro e w' ⟨rfl, rfl⟩)
              refine HRR.out.mono ?_
              rintro e W3 (⟨rfl, hJ3, hk3⟩ | ⟨rfl, hJx3⟩)
              · have hz3 := hk3.size
                gi_wp2
                go_roundw
                case rel => exact ⟨z, pre ++ [64 * k + t], by go_num, by omega, hid (by rw [← HP.out, HW.out]; simp), by omega, hid hJ3, hid (fun q hq => (hk3.same q hq).trans (HS.out q hq))⟩
                case measure => simp [intOf]; omega
              · gi_wp2
                refine bodyPost_ret (results_none rfl _ _ _) rfl ?_
                have hpz : (pre ++ [64 * k + t]) ++ (wordL k z ++ rem ws q (k + 1)) = elems s ws q := by rw [← HP.out, HW.out]; simp
                first | exact ⟨⟨_, rfl⟩, .inr ⟨w2.heap.size, by omega, pre ++ [64 * k + t], ⟨_, hpz⟩, hJx3⟩⟩ | exact ⟨⟨_, rfl⟩, .inr ⟨w2.heap.size, pre ++ [64 * k + t], by omega, ⟨_, hpz⟩, hJx3⟩⟩
        · have hdec : ((k : Int) == (q : Int) / 64) = false := by simp; omega
          have HP2 : Hid (pre ++ (wordL k x ++ rem ws q (k + 1)) = elems s ws q) := hid (by
            rw [← HPRE.out, ← rem_word (by omega) HX.out (fun j hj => by
              have : decide (q ≤ 64 * k + j) = true := by simp; omega
              rw [this, Bool.and_true])])
          obtain ⟨y, hy⟩ : ∃ y, x = y := ⟨_, rfl⟩
          subst hy
          have hyl := hxl
          gi_wp2
          gi_loopw [5] (fun r wi => ∃ (y : Nat) (pre : List Nat), r = .int .u64 y ∧ y < 18446744073709551616 ∧ Hid (pre ++ (wordL k y ++ rem ws q (k + 1)) = elems s ws q) ∧ w2.heap.size ≤ wi.heap.size ∧ Hid (J w2.heap.size pre wi) ∧ Hid (∀ k, KB w0.heap.size b1 b2 k ∨ (W.heap.size ≤ k ∧ k < w2.heap.size) → wi.heap[k]? = w2.heap[k]?)) (fun r _ => (intOf r).toNat)
          case atStart => exact ⟨x, pre, rfl, hyl, HP2, hsz, HJ, HS⟩
          case round =>
            clear HP2 HPRE HJ HS hsz z0 z1 z2 hcl hyl hxl HX
            obtain ⟨y, pre, rfl, hyl, HP, hsz, HJ, HS⟩ := hrel
            by_cases hy0 : y = 0
            · subst hy0
              gi_wp2
              go_roundw
              case rel => exact ⟨k + 1, pre, by omega, by omega, by go_num, hid (by have h := HP.out; rw [wordL_zero, List.nil_append] at h; exact h), hsz, HJ, HS⟩
              case measure => simp [intOf]; omega
            · have hT2 : Tab wr := (HT.out.below HB02.out).of_block (HS.out 0 (.inl (.inl HT.out.2))) (by have := HT.out.2; omega)
              obtain ⟨t, ht⟩ : ∃ t, Lib.ctz 64 y = t := ⟨_, rfl⟩
              have htl : t < 64 := by rw [← ht]; exact (low_bit hy0 hyl).1
              have HW := hid (wordL_next (i := k) hy0 hyl)
              rw [ht] at HW
              have htz := fun W' (h : Tab W') => tz_any y W' hyl h
              rw [ht] at htz
              have HTZ := hid (htz _ hT2)
              have hne : ((y : Int) != 0) = true := by simp; omega
              have hk64 : k ≤ 64 := by omega
              have hand : bits .and .u64 (y : Int) ((y : Int) - 1) = ((y &&& (y - 1) : Nat) : Int) := by
                rw [show (y : Int) - 1 = ((y - 1 : Nat) : Int) from by omega]
                exact u64_and_nat _ _ hyl (by omega)
              obtain ⟨z, hz⟩ : ∃ z, y &&& (y - 1) = z := ⟨_, rfl⟩
              have hzy : z < y := by rw [← hz]; exact less_bit hy0
              rw [hz] at hand HW
              obtain ⟨fn, tmps, assign, body, hyy, hR⟩ := H4.out w2.heap.size pre (64 * k + t) wr (by omega) HJ.out ⟨wordL k z ++ rem ws q (k + 1), by rw [← HP.out, HW.out]; simp⟩ hsz
              have hcast : ((64 * k + t : Nat) : Int) = (k : Int) * 64 + (t : Int) := by omega
              rw [hcast] at hyy
              have HRR := hid hR
              have HCAST := hid hcast
              clear hR hT2 htz ht hz hcast
              gi_wp2_with (refine ⟨trivial, ?_⟩; gi_at_call 54; refine (callsIn_wide.2 HTZ.out).mono ?_; rintro e w' ⟨rfl, rfl⟩)
              refine HRR.out.mono ?_
              rintro e W3 (⟨rfl, hJ3, hk3⟩ | ⟨rfl, hJx3⟩)
              · have hz3 := hk3.size
                gi_wp2
                go_roundw
                case rel => exact ⟨z, pre ++ [64 * k + t], by go_num, by omega, hid (by rw [← HP.out, HW.out]; simp), by omega, hid hJ3, hid (fun q hq => (hk3.same q hq).trans (HS.out q hq))⟩
                case measure => simp [intOf]; omega
              · gi_wp2
                refine bodyPost_ret (results_none rfl _ _ _) rfl ?_
                have hpz : (pre ++ [64 * k + t]) ++ (wordL k z ++ rem ws q (k + 1)) = elems s ws q := by rw [← HP.out, HW.out]; simp
                first | exact ⟨⟨_, rfl⟩, .inr ⟨w2.heap.size, by omega, pre ++ [64 * k + t], ⟨_, hpz⟩, hJx3⟩⟩ | exact ⟨⟨_, rfl⟩, .inr ⟨w2.heap.size, pre ++ [64 * k + t], by omega, ⟨_, hpz⟩, hJx3⟩⟩
      · have hlt' : ¬ (k : Int) < (ws.length : Int) := by omega
        clear hA
        gi_wp2
        go_end0
        have hend := HPRE.out
        rw [rem_end (by omega), List.append_nil] at hend
        have hfin := HJ.out
        rw [hend] at hfin
        exact ⟨⟨_, rfl⟩, .inl ⟨w2.heap.size, by omega, hfin⟩⟩
  · have h3 : chk s ws = 3 := by rcases chk_cases s ws with h | h <;> omega
    have HE : Hid (elems s ws q = []) := hid (by unfold elems; rw [if_neg hg])
    rw [h3] at HCK
    refine callsIn_of_wp Tryd.func53 rfl trivial ?_ rfl
    simp only [Tryd.ntmps53, List.size_toArray, List.length_cons, List.length_nil, Nat.reduceAdd, Nat.reduceSub, Array.replicate_succ, Array.replicate_zero, List.push_toArray, List.append_toArray, List.nil_append, List.cons_append]
    gi_wp2_with (refine ⟨trivial, ?_⟩; gi_at_call 16; refine (callsIn_wide.2 HCK.out).mono ?_; rintro e w2 ⟨rfl, hb2⟩)
    refine bodyPost_ret (results_none rfl _ _ _) rfl ?_
    have hz2 := hb2.size
    have hJ0 : J w2.heap.size [] w2 := H1.out _ _ hb2 (by omega) (Nat.le_refl _)
    rw [← HE.out] at hJ0
    exact ⟨⟨_, rfl⟩, .inl ⟨w2.heap.size, _, by omega, rfl, hJ0⟩⟩
end Go.Proofs.YtbifhcjkdfocaaaDoor
