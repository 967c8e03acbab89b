/- The laws' sectors and encodings. -/
import Derived.Test.YtielamoaghibgaaRm
namespace Go.Proofs.Ytielamoaghibgaa
open Go.RowKit Go.Lib

/-- The sector whose first byte is x. -/
def tg (x : Nat) : Sect := [x, 0, 0, 0, 0, 0, 0, 0]
def tgA (x : Nat) : Array Value := #[.int .u8 (x : Int), .int .u8 0, .int .u8 0, .int .u8 0, .int .u8 0, .int .u8 0, .int .u8 0, .int .u8 0]
theorem tg_secs {l : List Nat} (h : B8 l) : Secs (l.map tg) := fun s hs => by
  obtain ⟨x, hx, rfl⟩ := List.mem_map.1 hs
  refine ⟨rfl, fun y hy => ?_⟩
  have := h x hx
  simp [tg] at hy
  omega

theorem und41 : Try.prog.underlying 41 = some (.array 8 5) := by kernel_rfl
theorem size41 : (Try.prog.info? 41).map (·.size) = some 8 := by kernel_rfl
set_option maxHeartbeats 2000000 in
set_option maxRecDepth 100000 in
theorem sector_any (x : Nat) (w : World) :
    Calls Try.prog 33 #[.int .u8 (x : Int)] w fun e w' => e = .returned (.agg (tgA x)) ∧ Below w.heap.size w w' := by
  have hB := al1 w (.cells (tgA x) 41)
  go_enter Try.func33, Try.ntmps33
  go_wp2
  refine bodyPost_ret (results_cell_row rfl _ _ w.heap.size 41 (tgA x) (0, 0) _ rfl (heap_alloc_new w _) und41 rfl size41) rfl ?_
  exact ⟨rfl, hB⟩

set_option maxRecDepth 100000 in
theorem append_secs {ops : Array Oper} {rest : List Oper} {o : Oper} {a : Act} {w : World} {Q : Exit → Act → World → Prop} (hgd : o.guard = none) (s x : Operand) (ho : o.op = .call { callee := .builtin .append, args := #[s, x], argTypes := #[22, 22] })
    (base : Nat) (v : Value) (n : Nat) (olds : List Value) (hs : a.eval s = v) (hown : w.ownsRow base 41 8 v n olds) (l : List Sect) (ad : Addr) (m c : Nat) (hm : l.length = m) (hl : Secs l) (hx : a.eval x = .slice (some ad) m c)
    (hc : ∀ j u, (l.map cSec).flatten[j]? = some u → w.cell? (ad.add j) = some u) (b1 : n + m ≤ 100000000) (hbase : base ≤ w.heap.size)
    (h : ∀ v' w', w'.ownsRow base 41 8 v' (n + m) (olds ++ (l.map cSec).flatten) → w.grownBy w' v.ownBlock → wpList Try.prog ops Q rest (a.put o.dst v') w') : wpList Try.prog ops Q (o :: rest) a w := by
  obtain ⟨i0, hi, hz0, hz1, hz2⟩ := info_parts info41
  exact wpList_append_own w hgd s x 22 ho base 41 i0 _ 8 8 Try.underlying22 hi hz0 hz1 hz2 rfl (by decide) v n olds hs hown ad m c _ hx (by rw [flat_cells hl]; omega) hc (cells_one l) (by unfold maxLen; omega) (by omega) hbase (fun v' w' h1 h2 _ => h v' w' h1 h2)
theorem own_none41 (w : World) (base : Nat) : w.ownsRow base 41 8 (.slice none 0 0) 0 [] := World.ownsRow_nil _ _ _ _

set_option maxHeartbeats 2000000 in
set_option maxRecDepth 100000 in
theorem tags_any (s : List Nat) (v : Value) (w : World) (hv : Byt w v s) (hl : s.length ≤ 1000) :
    Calls Try.prog 21 #[v] w fun e w' => ∃ v', e = .returned v' ∧ w'.ownsRow w.heap.size 41 8 v' s.length ((s.map tg).map cSec).flatten ∧ Below w.heap.size w w' := by
  have h8 := hid hv.1
  have HV := hid hv
  obtain ⟨A, c, rfl⟩ := byt_form hv
  clear hv
  go_enter Try.func21, Try.ntmps21
  go_wp2_with fail
  go_loopw [3, 8] (fun v i wr => ∃ (k : Nat), k ≤ s.length ∧ i = .int .i64 (k : Int) ∧ Hid (wr.ownsRow w.heap.size 41 8 v k (((s.take k).map tg).map cSec).flatten) ∧ Hid (Below w.heap.size w wr)) (fun _ i _ => s.length - (Lib.intOf i).toNat)
  case atStart => exact ⟨0, Nat.zero_le _, rfl, hid (own_none41 _ _), hid (Below.refl _ _)⟩
  case round =>
    obtain ⟨k, hk, rfl, HO, HB⟩ := hrel
    by_cases hkl : k < s.length
    · have d8 : decide ((k : Int) < (s.length : Int)) = true := by simp; omega
      obtain ⟨x, hx⟩ : ∃ x, s[k]? = some x := ⟨s[k], List.getElem?_eq_getElem hkl⟩
      have hx8 : x < 256 := h8.out x (List.mem_of_getElem? hx)
      obtain ⟨lA, lc, rfl⟩ := own_form41 HO.out
      obtain ⟨_, A', c', e1, h1, h2, b, off, hA, hc⟩ := HV.out
      injection e1 with e1 _ e2
      subst e1 e2
      unfold maxLen at h2
      obtain ⟨hA1, hblt⟩ := hA (by omega)
      subst hA1
      have hcx := (HB.out.cell (p := ⟨b, off + k, none⟩) hblt).trans (hc k x hx)
      have HT : Hid (s.take (k + 1) = s.take k ++ [x]) := hid (by
        obtain ⟨hlt, rfl⟩ := List.getElem?_eq_some_iff.1 hx
        exact List.take_succ_eq_append_getElem hlt)
      have HCX := hid hx
      have HC := hid (sector_any x wr)
      clear hA hc hx
      go_wp2_with fail
      refine HC.out.mono ?_
      rintro e w1 ⟨rfl, hb1⟩
      have HO1 := hid (own_keep HO.out (keep_below hb1))
      have HB1 := hid (HB.out.trans (hb1.mono HB.out.size))
      clear hb1 hcx
      unfold tgA
      have hz1 := HB1.out.size
      go_wp2_with (at_builtin; refine append_secs rfl (.tmp 12) (.tmp 15) rfl w.heap.size (.slice lA k lc) k _ rfl (own_keep HO1.out (keep_below (al1 _ _))) [tg x] ⟨w1.heap.size, 0, none⟩ 1 1 rfl (tg_secs (l := [x]) (fun y hy => by rw [List.mem_singleton] at hy; omega)) rfl (fun j u hu => by rw [add_at', cell_of_row _ _ _ _ _ _ (heap_alloc_new w1 _)]; simpa [cSec, byteV, tg] using hu) (by omega) (by simp; omega) ?_; intro v2 w2 hown2 hg2; obtain ⟨a2, c2, rfl⟩ := own_form41 hown2; have HB2 := hid ((HB1.out.alloc hz1 _).grown hg2 (by simp; omega) (fun k e => (HO1.out.lt k e).1)); have HO2 := hid hown2; clear hown2 hg2)
      go_roundw
      case rel => exact ⟨k + 1, by omega, by go_num, hid (by rw [HT.out]; simpa using HO2.out), HB2⟩
      case measure => simp [Lib.intOf]; omega
    · obtain rfl : k = s.length := by omega
      go_wp2
      go_ret
      exact ⟨_, rfl, by have h := HO.out; rw [List.take_length] at h; exact h, HB.out⟩
end Go.Proofs.Ytielamoaghibgaa
