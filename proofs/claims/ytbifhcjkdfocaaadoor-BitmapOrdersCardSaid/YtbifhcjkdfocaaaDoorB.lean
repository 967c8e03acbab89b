/- OnesCount64. -/
import Derived.Test.YtbifhcjkdfocaaaDoorA
namespace Go.Proofs.YtbifhcjkdfocaaaDoor
open Go.RowKit

/-- Hides a fact from the walk. -/
structure Hid (p : Prop) : Prop where
  out : p
theorem hid {p : Prop} (h : p) : Hid p := ⟨h⟩

theorem div_cast (x k : Nat) : ((x : Int) / (k : Int)) = ((x / k : Nat) : Int) := by omega
theorem wrap_cast (x : Nat) (hx : x < 18446744073709551616) : IntKind.u64.wrap (x : Int) = (x : Int) := by rw [IntKind.wrap_u64]; omega
theorem step1 (x : Nat) (hx : x < 18446744073709551616) (h1 : swar1 x < 18446744073709551616) : IntKind.u64.wrap (bits .and .u64 ((x : Int) / 2) 6148914691236517205 + bits .and .u64 (x : Int) 6148914691236517205) = ((swar1 x : Nat) : Int) := by
  have e : (x : Int) / 2 = ((x / 2 : Nat) : Int) := by omega
  rw [e, show (6148914691236517205 : Int) = ((6148914691236517205 : Nat) : Int) from rfl, u64_and_nat _ _ (by omega) (by decide), u64_and_nat _ _ hx (by decide), ← Int.natCast_add]
  exact wrap_cast (swar1 x) h1
theorem step2 (x : Nat) (hx : x < 18446744073709551616) (h1 : swar2 x < 18446744073709551616) : IntKind.u64.wrap (bits .and .u64 ((x : Int) / 4) 3689348814741910323 + bits .and .u64 (x : Int) 3689348814741910323) = ((swar2 x : Nat) : Int) := by
  have e : (x : Int) / 4 = ((x / 4 : Nat) : Int) := by omega
  rw [e, show (3689348814741910323 : Int) = ((3689348814741910323 : Nat) : Int) from rfl, u64_and_nat _ _ (by omega) (by decide), u64_and_nat _ _ hx (by decide), ← Int.natCast_add]
  exact wrap_cast (swar2 x) h1
theorem step3 (x : Nat) (hx : x ≤ 4919131752989213764) : bits .and .u64 (IntKind.u64.wrap ((x : Int) / 16 + (x : Int))) 1085102592571150095 = ((swar3 x : Nat) : Int) := by
  have e : (x : Int) / 16 + x = ((x / 16 + x : Nat) : Int) := by omega
  rw [e, wrap_cast _ (by omega), show (1085102592571150095 : Int) = ((1085102592571150095 : Nat) : Int) from rfl, u64_and_nat _ _ (by omega) (by decide)]
  rfl
theorem step4 (x k y : Nat) (h : y = x + x / k) (hy : y < 18446744073709551616) : IntKind.u64.wrap ((x : Int) + (x : Int) / (k : Int)) = (y : Int) := by
  rw [div_cast, ← Int.natCast_add, ← h, wrap_cast _ hy]

theorem mask127 (x : Nat) (hx : x < 9223372036854775808) : bits .and .i64 (wrap64 (x : Int)) 127 = ((x % 128 : Nat) : Int) := by
  have h : wrap64 (x : Int) = x := by unfold wrap64; omega
  rw [h]
  have := bits_mask .i64 63 (by decide) (fun n h0 h1 => by rw [IntKind.wrap_i64]; omega) 7 (by decide) (x : Int) (by omega) (by omega)
  exact this.trans (by omega)

theorem ones_any (x : Nat) (w : World) (hx : x < 18446744073709551616) :
    Calls Tryd.prog 41 #[.int .u64 x] w fun e w' => e = .returned (.int .i64 (pop 64 x)) ∧ w' = w := by
  obtain ⟨s1, s2, s3⟩ := swar_cat x hx
  have hp := bytes8_pop x hx
  have hc := fun b (_ : b < 256) => pop_le 8 b
  obtain ⟨t, ht⟩ : ∃ t, swar3 (swar2 (swar1 x)) = t := ⟨_, rfl⟩
  obtain ⟨y, hy⟩ : ∃ y, y = t + t / 256 := ⟨_, rfl⟩
  obtain ⟨z, hz⟩ : ∃ z, z = y + y / 65536 := ⟨_, rfl⟩
  have hF := fold_sum _ _ _ _ _ _ _ _ (pop_le 8 (x % 256)) (pop_le 8 (x / 256 % 256)) (pop_le 8 (x / 65536 % 256)) (pop_le 8 (x / 16777216 % 256)) (pop_le 8 (x / 4294967296 % 256)) (pop_le 8 (x / 1099511627776 % 256)) (pop_le 8 (x / 281474976710656 % 256)) (pop_le 8 (x / 72057594037927936 % 256)) t y z (by rw [← ht, s1]; rfl) hy hz
  obtain ⟨f1, f2, f3, f4, f5⟩ := hF
  have hp2 : (z + z / 4294967296) % 128 = pop 64 x := by rw [f1, ← hp]; simp only [bytes8, List.map_cons, List.map_nil, List.sum_cons, List.sum_nil]; omega
  have e1 := step1 x hx s2
  have e2 := step2 (swar1 x) s2 (by omega)
  have e3 := step3 (swar2 (swar1 x)) s3
  rw [ht] at e3
  have e4 : IntKind.u64.wrap ((t : Int) + (t : Int) / 256) = (y : Int) := step4 t 256 y hy f3
  have e5 : IntKind.u64.wrap ((y : Int) + (y : Int) / 65536) = (z : Int) := step4 y 65536 z hz f4
  have e6 : IntKind.u64.wrap ((z : Int) + (z : Int) / 4294967296) = ((z + z / 4294967296 : Nat) : Int) := step4 z 4294967296 _ rfl (by omega)
  have E := hid (And.intro e1 (And.intro e2 (And.intro e3 (And.intro e4 (And.intro e5 e6)))))
  clear e1 e2 e3 e4 e5 e6 f1 f2 f3 f4 hp hc s1 s2 s3 hy hz ht
  have hq : (z + z / 4294967296) < 9223372036854775808 := f5
  clear f5
  go_enter Tryd.func41, Tryd.ntmps41
  go_wp2
  obtain ⟨e1, e2, e3, e4, e5, e6⟩ := E.out
  rw [e1, e2, e3, e4, e5, e6]
  refine bodyPost_ret (results_tmp rfl _ _ _) rfl ?_
  refine ⟨?_, rfl⟩
  show Ending.returned (.int .i64 (bits .and .i64 (wrap64 ((z + z / 4294967296 : Nat) : Int)) 127)) = _
  rw [mask127 _ hq, hp2]
end Go.Proofs.YtbifhcjkdfocaaaDoor
