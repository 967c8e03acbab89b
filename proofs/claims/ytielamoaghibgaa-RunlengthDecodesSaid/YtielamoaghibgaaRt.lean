/- The reference's equal. -/
import Derived.Test.YtielamoaghibgaaRq
namespace Go.Proofs.Ytielamoaghibgaa
open Go.RowKit Go.Lib

set_option maxHeartbeats 4000000 in
set_option maxRecDepth 100000 in
theorem eqRun_any (l : List Sect) (p : Nat) (v : Value) (w : World) (hv : Sec w v l) (hp : p < l.length) (hl : l.length ≤ 100000) :
    Calls Try.prog 32 #[v, .int .i64 (p : Int)] w fun e w' => e = .returned (.int .i64 (eqh (l.drop p) : Nat)) ∧ Below w.heap.size w w' := by
  have h0 : l ≠ [] := by intro e; rw [e] at hp; simp at hp
  obtain ⟨b, off, cap, rfl, hcap, hcm, hbl, hsc⟩ := sec_at hv h0
  obtain ⟨a, hat⟩ : ∃ a, l[p]? = some a := ⟨l[p], List.getElem?_eq_getElem hp⟩
  have ha := hv.1 a (List.mem_of_getElem? hat)
  have HE0 : Hid (eqh (l.drop p) = 1 + eqs a (l.drop (p + 1))) := hid (by
    obtain ⟨hlt, rfl⟩ := List.getElem?_eq_some_iff.1 hat
    rw [List.drop_eq_getElem_cons hlt, eqh_cons]
    omega)
  have HSC := hid (fun (X : World) (hX : Below w.heap.size w X) (k : Nat) (s : Sect) (hk : l[k]? = some s) => (hsc k s hk).below hbl hX)
  have HSA := hid (fun (X : World) (hX : Below w.heap.size w X) => HSC.out X hX p a hat)
  have HSE := hid (fun (k : Nat) (s : Sect) (hk : l[k]? = some s) => hv.1 s (List.mem_of_getElem? hk))
  have HAA := hid ha
  clear hv h0 hat hsc
  obtain ⟨x0, x1, x2, x3, x4, x5, x6, x7, rfl⟩ := list8 ha.1
  clear ha
  obtain ⟨n, hn⟩ : ∃ n, l.length = n := ⟨_, rfl⟩
  have HN := hid hn
  rw [hn] at hp hl hcap ⊢
  unfold maxLen at hcm
  clear hn
  go_enter Try.func32, Try.ntmps32
  go_wp2_with fail
  go_loopw [5] (fun i wr => ∃ k : Nat, 1 ≤ k ∧ p + k ≤ n ∧ i = .int .i64 (k : Int) ∧ Hid (eqh (l.drop p) = k + eqs [x0, x1, x2, x3, x4, x5, x6, x7] (l.drop (p + k))) ∧ Hid (Below w.heap.size w wr)) (fun i _ => n - (Lib.intOf i).toNat)
  case atStart => exact ⟨1, by omega, by omega, rfl, HE0, hid (Below.refl _ _)⟩
  case round =>
    clear HE0
    obtain ⟨k, hk1, hk, rfl, HR, HB⟩ := hrel
    obtain ⟨p0, p1, p2, p3, p4, p5, p6, p7⟩ := (HSA.out wr HB.out).facts
    by_cases hkn : p + k < n
    · obtain ⟨y, hy⟩ : ∃ y, l[p + k]? = some y := ⟨l[p + k]'(by rw [HN.out]; exact hkn), List.getElem?_eq_getElem _⟩
      have hyo := HSE.out _ y hy
      have HD : Hid (l.drop (p + k) = y :: l.drop (p + k + 1)) := hid (by
        obtain ⟨hlt, rfl⟩ := List.getElem?_eq_some_iff.1 hy
        exact List.drop_eq_getElem_cons hlt)
      have s1 := HSC.out wr HB.out _ y hy
      have heq := fun (X : World) => eql_sec y [x0, x1, x2, x3, x4, x5, x6, x7] hyo.1 HAA.out.1 hyo.2 HAA.out.2 X
      clear hy
      obtain ⟨y0, y1, y2, y3, y4, y5, y6, y7, rfl⟩ := list8 hyo.1
      obtain ⟨q0, q1, q2, q3, q4, q5, q6, q7⟩ := s1.facts
      clear s1 hyo
      obtain ⟨bb, hbb⟩ : ∃ bb, decide ([y0, y1, y2, y3, y4, y5, y6, y7] = [x0, x1, x2, x3, x4, x5, x6, x7]) = bb := ⟨_, rfl⟩
      rw [hbb] at heq
      have heq2 : ∀ X : World, (Op.equalIn 10000 41 (.agg #[.int .u8 (y0 : Int), .int .u8 (y1 : Int), .int .u8 (y2 : Int), .int .u8 (y3 : Int), .int .u8 (y4 : Int), .int .u8 (y5 : Int), .int .u8 (y6 : Int), .int .u8 (y7 : Int)]) (.agg #[.int .u8 (x0 : Int), .int .u8 (x1 : Int), .int .u8 (x2 : Int), .int .u8 (x3 : Int), .int .u8 (x4 : Int), .int .u8 (x5 : Int), .int .u8 (x6 : Int), .int .u8 (x7 : Int)])).run Try.prog X = .ok bb X := heq
      clear heq
      have dk : decide (p + k < n) = true := by simp; omega
      have hkn1 : (p : Int) + (k : Int) < (n : Int) := by omega
      have hk0 : (0 : Int) ≤ (p : Int) + (k : Int) := by omega
      have hp1 : (p : Int) < (n : Int) := by omega
      rcases bb with _ | _
      · have HE : Hid (eqh (l.drop p) = k) := hid (by rw [HR.out, HD.out, eqs_stop (of_decide_eq_false hbb)]; rfl)
        clear hbb
        go_wp2_with fail
        go_quiet (fail)
        have HBd : Hid (Below w.heap.size w (wr.drewN nq)) := hid ⟨HB.out.os, HB.out.tape, HB.out.output, HB.out.size, HB.out.block⟩
        go_wp2
        go_ret
        exact ⟨by rw [HE.out]; rfl, HBd.out⟩
      · have HE : Hid (eqh (l.drop p) = (k + 1) + eqs [x0, x1, x2, x3, x4, x5, x6, x7] (l.drop (p + (k + 1)))) := hid (by rw [HR.out, HD.out, eqs_step (of_decide_eq_true hbb)]; show _ = k + 1 + eqs _ (l.drop (p + k + 1)); omega)
        clear hbb
        go_wp2_with fail
        go_quiet (fail)
        have HBd : Hid (Below w.heap.size w (wr.drewN nq)) := hid ⟨HB.out.os, HB.out.tape, HB.out.output, HB.out.size, HB.out.block⟩
        go_wp2
        go_roundw
        case rel => exact ⟨k + 1, by omega, by omega, by go_num, HE, HBd⟩
        case measure => simp [Lib.intOf]; omega
    · obtain rfl : n = p + k := by omega
      have HE : Hid (eqh (l.drop p) = k) := hid (by rw [HR.out, List.drop_of_length_le (by rw [HN.out]; omega)]; rfl)
      have dk : decide ((p : Int) + (k : Int) < (p : Int) + (k : Int)) = false := by simp
      have dk2 : decide (p + k < p + k) = false := by simp
      clear hkn
      go_wp2_with fail
      go_quiet (fail)
      have HBd : Hid (Below w.heap.size w (wr.drewN nq)) := hid ⟨HB.out.os, HB.out.tape, HB.out.output, HB.out.size, HB.out.block⟩
      go_wp2
      go_ret
      exact ⟨by rw [HE.out]; rfl, HBd.out⟩
end Go.Proofs.Ytielamoaghibgaa
