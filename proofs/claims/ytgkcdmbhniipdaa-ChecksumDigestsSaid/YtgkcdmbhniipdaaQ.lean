/- Lists of sectors; the iterator over their bytes; Sectors. -/
import Derived.Test.YtgkcdmbhniipdaaO
namespace Go.Proofs.Ytgkcdmbhniipdaa
open Go.RowKit Go.Lib Go.Shelf
attribute [local go_sem] Oper.semAt_some

/-- Sectors as lists of eight bytes. -/
def Secs (ll : List (List Nat)) : Prop := ∀ s ∈ ll, s.length = 8 ∧ B8 s
/-- The slice value v reads as the sectors ll. -/
def Sec (w : World) (v : Value) (ll : List (List Nat)) : Prop :=
  Secs ll ∧ ∃ A cap, v = .slice A ll.length cap ∧ ll.length ≤ cap ∧ cap ≤ maxLen ∧ ∃ b off, (0 < ll.length → A = some ⟨b, off, none⟩ ∧ b < w.heap.size) ∧ ∀ (i : Nat) (s : List Nat), ll[i]? = some s → ∀ (j x : Nat), s[j]? = some x → w.cell? ⟨b, off + i * 8 + j, none⟩ = some (.int .u8 (x : Int))
theorem Sec.below {w w' : World} {v : Value} {l : List (List Nat)} (h : Sec w v l) (hb : Below w.heap.size w w') : Sec w' v l := by
  obtain ⟨h8, A, cap, e, h1, h2, b, off, hA, hc⟩ := h
  refine ⟨h8, A, cap, e, h1, h2, b, off, fun h => ⟨(hA h).1, Nat.lt_of_lt_of_le (hA h).2 hb.size⟩, fun i s hs j x hx => ?_⟩
  have hl : 0 < l.length := by have := (List.getElem?_eq_some_iff.1 hs).1; omega
  exact (hb.cell (p := ⟨b, off + i * 8 + j, none⟩) (hA hl).2).trans (hc i s hs j x hx)
theorem sec_form {w : World} {v : Value} {l : List (List Nat)} (h : Sec w v l) : ∃ A cap, v = .slice A l.length cap := by
  obtain ⟨_, A, cap, e, _⟩ := h
  exact ⟨A, cap, e⟩
theorem sec_len {w : World} {v : Value} {l : List (List Nat)} (h : Sec w v l) : l.length ≤ 9223372036854775807 := by
  obtain ⟨_, A, cap, e, h1, h2, _⟩ := h
  unfold maxLen at h2
  omega
theorem flat_length {ll : List (List Nat)} (h : Secs ll) : ll.flatten.length = 8 * ll.length := by
  induction ll with
  | nil => rfl
  | cons s ll ih =>
    rw [List.flatten_cons, List.length_append, (h s (List.mem_cons_self ..)).1, ih (fun t ht => h t (List.mem_cons_of_mem _ ht)), List.length_cons]
    omega
theorem flat_get {ll : List (List Nat)} (h : Secs ll) : ∀ {i m : Nat} {s : List Nat}, ll[i]? = some s → m < 8 → ll.flatten[8 * i + m]? = s[m]? := by
  induction ll with
  | nil => intro i m s hs _; simp at hs
  | cons t ll ih =>
    intro i m s hs hm
    have ht := (h t (List.mem_cons_self ..)).1
    rw [List.flatten_cons]
    rcases i with _ | i
    · simp at hs
      subst hs
      rw [List.getElem?_append_left (by omega)]
      simp
    · rw [List.getElem?_append_right (by omega), ht]
      have e : 8 * (i + 1) + m - 8 = 8 * i + m := by omega
      rw [e]
      exact ih (fun u hu => h u (List.mem_cons_of_mem _ hu)) (by simpa using hs) hm
theorem flat_B8 {ll : List (List Nat)} (h : Secs ll) : B8 ll.flatten := fun x hx => by
  obtain ⟨s, hs, hxs⟩ := List.mem_flatten.1 hx
  exact (h s hs).2 x hxs
theorem list8 {s : List Nat} (h : s.length = 8) : ∃ x0 x1 x2 x3 x4 x5 x6 x7, s = [x0, x1, x2, x3, x4, x5, x6, x7] := by
  match s, h with
  | [x0, x1, x2, x3, x4, x5, x6, x7], _ => exact ⟨x0, x1, x2, x3, x4, x5, x6, x7, rfl⟩
theorem index8 (s : List Nat) (h : s.length = 8) (m : Nat) (hm : m < 8) (W : World) : (Instr.index 45 (.agg (s.map byteV).toArray) (.int .i64 (m : Int))).run Try.prog W = .ok (.int .u8 ((s.getD m 0 : Nat) : Int)) W := by
  obtain ⟨x0, x1, x2, x3, x4, x5, x6, x7, rfl⟩ := list8 h
  rcases m with _ | _ | _ | _ | _ | _ | _ | _ | m
  all_goals first | omega | kernel_rfl

set_option maxHeartbeats 4000000 in
set_option maxRecDepth 100000 in
theorem sectors_streams (n Bs : Nat) (ll : List (List Nat)) (v : Value) (w0 w : World) (hn : 1 ≤ n) (hv : Sec w0 v ll) (hb0 : Below w0.heap.size w0 w) (hlt : Bs < w.heap.size) (hc0 : w.cell? ⟨Bs, 0, none⟩ = some v) :
    Streams n 36 #[.pointer (some ⟨Bs, 0, none⟩)] w0.heap.size ll.flatten w := by
  intro l0 J Jx W hW hJ hJx hY h0
  have hbW : Below w0.heap.size w0 W := hb0.trans (hW.mono hb0.size)
  have hBs := (hW.cell (p := ⟨Bs, 0, none⟩) hlt).trans hc0
  have hfl := flat_length hv.1
  have HG := hid (fun (i m : Nat) (s : List Nat) (h1 : ll[i]? = some s) (h2 : m < 8) => flat_get hv.1 h1 h2)
  have H8 := hid hv.1
  have hw0 := hbW.size
  obtain ⟨_, A, cap, rfl, hcap, hcm, b, off, hA, hc⟩ := hv
  unfold maxLen at hcm
  have HC := hid hc
  have HY := hid hY
  have HBW := hid hbW
  have HJJ := hid hJ
  clear hc hY hJ hJx hb0 hW hbW hc0 hlt
  obtain ⟨fl, hfe⟩ : ∃ fl, ll.flatten = fl := ⟨_, rfl⟩
  rw [hfe] at HG hfl HY ⊢
  clear hfe
  refine callsIn_of_wp Try.func36 rfl trivial ?_ rfl
  simp only [Try.ntmps36, List.size_toArray, List.length_cons, List.length_nil, Nat.reduceAdd, Nat.reduceSub, Array.replicate_succ, Array.replicate_zero, List.push_toArray, List.append_toArray, List.nil_append, List.cons_append]
  gi_wp2
  gi_loopw [9] (fun i wr => ∃ (k : Nat) (pre : List (Fin 256)), k ≤ ll.length ∧ i = .int .i64 (k : Int) ∧ Hid (pre.map (·.val) = fl.take (8 * k)) ∧ Hid (J pre wr) ∧ Hid (Below w0.heap.size W wr)) (fun i _ => ll.length - (intOf i).toNat)
  case atStart => exact ⟨0, [], Nat.zero_le _, rfl, hid (by simp), hid h0, hid (Below.refl _ _)⟩
  case round =>
    clear h0 hBs
    obtain ⟨k, pre, hk, rfl, HP, HJ, HB⟩ := hrel
    have hwr := HB.out.size
    by_cases hkl : k < ll.length
    · obtain ⟨hA1, hb⟩ := hA (by omega)
      subst hA1
      obtain ⟨s, hs⟩ : ∃ s, ll[k]? = some s := ⟨ll[k], List.getElem?_eq_getElem hkl⟩
      have hs8 := H8.out s (List.mem_of_getElem? hs)
      have HGS := hid (fun (m : Nat) (h : m < 8) => HG.out k m s hs h)
      have hcs : ∀ (j x : Nat), s[j]? = some x → wr.cell? ⟨b, off + k * 8 + j, none⟩ = some (.int .u8 (x : Int)) := fun j x hx =>
        (HB.out.cell (p := ⟨b, off + k * 8 + j, none⟩) hb).trans ((HBW.out.cell (p := ⟨b, off + k * 8 + j, none⟩) hb).trans (HC.out k s hs j x hx))
      obtain ⟨hsl, hsb⟩ := hs8
      have HSB := hid hsb
      clear hs hsb
      obtain ⟨x0, x1, x2, x3, x4, x5, x6, x7, rfl⟩ := list8 hsl
      have c0 := hcs 0 x0 rfl
      have c1 := hcs 1 x1 rfl
      have c2 := hcs 2 x2 rfl
      have c3 := hcs 3 x3 rfl
      have c4 := hcs 4 x4 rfl
      have c5 := hcs 5 x5 rfl
      have c6 := hcs 6 x6 rfl
      have c7 := hcs 7 x7 rfl
      rw [Nat.add_zero] at c0
      clear hcs hsl
      gi_wp2
      obtain ⟨w5, hw5⟩ : ∃ w5, wr.alloc (.cells #[.int .u8 (x0 : Int), .int .u8 (x1 : Int), .int .u8 (x2 : Int), .int .u8 (x3 : Int), .int .u8 (x4 : Int), .int .u8 (x5 : Int), .int .u8 (x6 : Int), .int .u8 (x7 : Int)] 45) = w5 := ⟨_, rfl⟩
      have HJ5 : Hid (J pre w5) := by rw [← hw5]; exact hid (HJJ.out _ _ _ none HJ.out (World.grownBy_alloc wr _ none) (fun r e => by cases e))
      have HB5 : Hid (Below w0.heap.size W w5) := by rw [← hw5]; exact hid (HB.out.alloc (Nat.le_trans hw0 hwr) _)
      rw [hw5]
      clear hw5 c0 c1 c2 c3 c4 c5 c6 c7 HJ HB hwr
      gi_loopw [14] (fun i wi => ∃ (m : Nat) (pre : List (Fin 256)), m ≤ 8 ∧ i = .int .i64 (m : Int) ∧ Hid (pre.map (·.val) = fl.take (8 * k + m)) ∧ Hid (J pre wi) ∧ Hid (Below w0.heap.size W wi)) (fun i _ => 8 - (intOf i).toNat)
      case atStart => exact ⟨0, pre, by omega, rfl, hid HP.out, HJ5, HB5⟩
      case round =>
        clear HP HJ5 HB5
        obtain ⟨m, pre, hm, rfl, HP, HJ, HB⟩ := hrel
        by_cases hm8 : m < 8
        · have hidx := index8 [x0, x1, x2, x3, x4, x5, x6, x7] rfl m hm8
          have hxs : [x0, x1, x2, x3, x4, x5, x6, x7][m]? = some ([x0, x1, x2, x3, x4, x5, x6, x7].getD m 0) := by
            rw [List.getElem?_eq_getElem (show m < 8 from hm8)]
            simp [List.getD, List.getElem?_eq_getElem (show m < [x0, x1, x2, x3, x4, x5, x6, x7].length from hm8)]
          have hzl := getD_B8 HSB.out m
          obtain ⟨z, hz⟩ : ∃ z, [x0, x1, x2, x3, x4, x5, x6, x7].getD m 0 = z := ⟨_, rfl⟩
          rw [hz] at hidx hxs hzl
          have hfx := (HGS.out m hm8).trans hxs
          have HP2 := hid (take_map hzl HP.out hfx)
          obtain ⟨fn, tmps, assign, body, hy, hR⟩ := HY.out pre ⟨z, hzl⟩ wr HJ.out (pre_short HP.out (by omega))
          dsimp only at hy
          have HR := hid hR
          have hidx2 : ∀ W : World, (Instr.index 45 (.agg #[.int .u8 (x0 : Int), .int .u8 (x1 : Int), .int .u8 (x2 : Int), .int .u8 (x3 : Int), .int .u8 (x4 : Int), .int .u8 (x5 : Int), .int .u8 (x6 : Int), .int .u8 (x7 : Int)]) (.int .i64 (m : Int))).run Try.prog W = .ok (.int .u8 (z : Int)) W := hidx
          clear hR hidx hxs hfx hz
          gi_wp2
          refine HR.out.mono ?_
          rintro e W3 (⟨rfl, hJ3, hk3⟩ | ⟨rfl, hJx3⟩)
          · have HJ3 := hid hJ3
            have HB3 := hid (HB.out.trans hk3)
            clear hJ3 hk3
            gi_wp2
            go_roundw
            case rel => exact ⟨m + 1, _, by omega, by go_num, HP2, HJ3, HB3⟩
            case measure => simp [intOf]; omega
          · gi_wp2
            refine bodyPost_ret (results_none rfl _ _ _) rfl ?_
            exact ⟨⟨_, rfl⟩, .inr ⟨_, trivial, hJx3⟩⟩
        · obtain rfl : m = 8 := by omega
          gi_wp2
          go_roundw
          case rel => exact ⟨k + 1, pre, by omega, by go_num, hid (by rw [show 8 * (k + 1) = 8 * k + 8 by omega]; exact HP.out), HJ, HB⟩
          case measure => simp [intOf]; omega
    · obtain rfl : k = ll.length := by omega
      gi_wp2
      go_end0
      exact ⟨⟨_, rfl⟩, .inl ⟨_, by rw [HP.out, ← hfl, List.take_of_length_le (Nat.le_refl _)], HJ.out⟩⟩
end Go.Proofs.Ytgkcdmbhniipdaa
