/- encodeList of numbers, sectors, extents. -/
import Derived.Test.YtchpoddfjbopbaaL
namespace Go.Proofs.Ytchpoddfjbopbaa
open Go.RowKit Go.Lib

theorem Wr.alloc {w : World} {g base : Nat} {l : List Nat} (h : Wr w g base l) (o : Obj) : Wr (w.alloc o) g base l := by
  obtain ⟨v, bx, ho⟩ := h
  exact ⟨v, bx.alloc o, ho.alloc o⟩
theorem Wr.lt {w : World} {g base : Nat} {l : List Nat} (h : Wr w g base l) : g < w.heap.size := by
  obtain ⟨v, bx, ho⟩ := h
  exact bx.lt
theorem eSome_le {α : Type} (E : α → List Nat) (xs : List α) (k : Nat) : (eSome E xs k).length ≤ (eList E xs).length := by
  unfold eSome eList eMany
  rw [List.length_append, List.length_append]
  have h := congrArg List.length (congrArg List.flatten (congrArg (List.map E) (List.take_append_drop k xs)))
  rw [List.map_append, List.flatten_append, List.length_append] at h
  omega
/-- What a call that writes answers. -/
def Wrote (w : World) (g base : Nat) (l : List Nat) (e : Ending) (w' : World) : Prop := (∃ v, e = .returned v) ∧ Wr w' g base l ∧ Below base w w'
theorem list8 {α : Type} {s : List α} (h : s.length = 8) : ∃ x0 x1 x2 x3 x4 x5 x6 x7, s = [x0, x1, x2, x3, x4, x5, x6, x7] := by
  match s, h with
  | [x0, x1, x2, x3, x4, x5, x6, x7], _ => exact ⟨x0, x1, x2, x3, x4, x5, x6, x7, rfl⟩

set_option maxHeartbeats 2000000 in
set_option maxRecDepth 100000 in
theorem encInt_any (xs : List Int) (pr : List Nat) (u : Value) (g : Nat) (w0 w : World) (hu : Arr w0 u 1 (xs.map cInt)) (hb0 : Below w0.heap.size w0 w) (hw : Wr w g w0.heap.size pr) (hbg : w0.heap.size ≤ g) (hx : xs.length ≤ 60000) (hl : pr.length + (eList eNum xs).length ≤ 60000)
    (hel : ∀ (k : Nat) (x : Int), xs[k]? = some x → ∀ (p : List Nat) (W : World), Wr W g w0.heap.size p → Below w0.heap.size w0 W → p.length + (eNum x).length ≤ 60000 → Calls Try.prog 52 #[.pointer (some ⟨g, 0, none⟩), .int .i64 x] W (Wrote W g w0.heap.size (p ++ eNum x))) :
    Calls Try.prog 83 #[.pointer (some ⟨g, 0, none⟩), u, .func (.func 52) #[] #[]] w (Wrote w g w0.heap.size (pr ++ eList eNum xs)) := by
  have hp := wnum_any (xs.length : Int) pr g w0.heap.size w hw hbg (by omega)
  rw [cl_nat (by omega), ← eSome_zero eNum xs] at hp
  have HP := hid hp
  have HL := hid (fun (k : Nat) => eSome_le eNum xs k)
  have HS := hid (fun (k : Nat) (x : Int) (h : xs[k]? = some x) => eSome_succ (E := eNum) h)
  have HEL := hid hel
  rw [← eSome_all eNum xs] at hl ⊢
  obtain ⟨F, hF⟩ : ∃ F, eSome eNum xs = F := ⟨_, rfl⟩
  rw [← eSome_all eNum xs] at HL
  rw [hF] at HP HL HS hl ⊢
  obtain ⟨C, cc, rfl, hcap, hcm, b, off, hA, hc⟩ := hu
  unfold maxLen at hcm
  rw [List.length_map] at hcap hA ⊢
  have HC := hid hc
  have HB0 := hid hb0
  have HLL := hid hl
  clear hw hc hF hp hel hb0 hl
  go_enter Try.func83, Try.ntmps83
  go_wp2_with fail
  refine HP.out.mono ?_
  rintro e w1 ⟨⟨v1, rfl⟩, hw1, hb1⟩
  have HW1 := hid hw1
  have HB1 := hid hb1
  clear hw1 hb1 HP
  go_wp2
  go_loopw [14] (fun i wr => ∃ k : Nat, k ≤ xs.length ∧ i = .int .i64 (k : Int) ∧ Hid (Wr wr g w0.heap.size (pr ++ F k)) ∧ Hid (Below w0.heap.size w wr)) (fun i _ => xs.length - (intOf i).toNat)
  case atStart => exact ⟨0, by omega, rfl, HW1, HB1⟩
  case round =>
    clear HW1 HB1
    obtain ⟨k, hk, rfl, HW, HB⟩ := hrel
    by_cases hkl : k < xs.length
    · obtain ⟨hA1, hb⟩ := hA (by omega)
      subst hA1
      obtain ⟨x, hxk⟩ : ∃ x, xs[k]? = some x := ⟨xs[k], List.getElem?_eq_getElem hkl⟩
      have hrow : ∀ (j : Nat) (v : Value), (cInt x)[j]? = some v → wr.cell? ⟨b, off + k * 1 + j, none⟩ = some v := fun j v hv =>
        (HB.out.cell (p := ⟨b, _, none⟩) hb).trans ((HB0.out.cell (p := ⟨b, _, none⟩) hb).trans (HC.out k _ (by rw [List.getElem?_map, hxk]; rfl) j v hv))
      have hlen := HL.out (k + 1)
      have HS1 := hid (HS.out k x hxk)
      have HE1 := hid (HEL.out k x hxk (pr ++ F k))
      have HE : Hid (pr ++ F (k + 1) = (pr ++ F k) ++ eNum x) := hid (by rw [HS1.out, List.append_assoc])
      have HLk : Hid ((pr ++ F k).length + (eNum x).length ≤ 60000) := hid (by rw [HS1.out, List.length_append] at hlen; rw [List.length_append]; have := HLL.out; omega)
      obtain ⟨m, hm⟩ : ∃ m, pr ++ F k = m := ⟨_, rfl⟩
      rw [hm] at HW HE HE1 HLk
      clear hm HS1 hlen
      have c0 := hrow 0 _ rfl
      rw [Nat.add_zero, Nat.mul_one] at c0
      have hBs := HB.out.size
      have hB0s := HB0.out.size
      have HC1 := hid (HE1.out wr HW.out (HB0.out.trans HB.out) HLk.out)
      have HBA := HB
      clear HE1 hxk
      go_wp2_with fail
      refine HC1.out.mono ?_
      rintro e w2 ⟨⟨v2, rfl⟩, hw2, hb2⟩
      rw [← HE.out] at hw2
      have HW2 := hid hw2
      have HB2 := hid (HBA.out.trans hb2)
      clear hw2 hb2 HW HB HBA HC1 HE HLk hrow
      go_wp2_with fail
      go_roundw
      case rel => exact ⟨k + 1, by omega, by go_num, HW2, HB2⟩
      case measure => simp [intOf]; omega
    · obtain rfl : k = xs.length := by omega
      go_wp2
      go_end0
      exact ⟨⟨_, rfl⟩, HW.out, HB.out⟩

set_option maxHeartbeats 2000000 in
set_option maxRecDepth 100000 in
theorem encSec_any (xs : List (List Nat)) (pr : List Nat) (u : Value) (g : Nat) (w0 w : World) (hu : Arr w0 u 8 (xs.map cSec)) (hb0 : Below w0.heap.size w0 w) (hw : Wr w g w0.heap.size pr) (hbg : w0.heap.size ≤ g) (hx : xs.length ≤ 60000) (hl : pr.length + (eList eSec xs).length ≤ 60000)
    (hel : ∀ (k : Nat) (x : (List Nat)), xs[k]? = some x → ∀ (p : List Nat) (W : World), Wr W g w0.heap.size p → Below w0.heap.size w0 W → p.length + (eSec x).length ≤ 60000 → Calls Try.prog 58 #[.pointer (some ⟨g, 0, none⟩), .agg (cSec x).toArray] W (Wrote W g w0.heap.size (p ++ eSec x))) (hok : ∀ s ∈ xs, s.length = 8) :
    Calls Try.prog 86 #[.pointer (some ⟨g, 0, none⟩), u, .func (.func 58) #[] #[]] w (Wrote w g w0.heap.size (pr ++ eList eSec xs)) := by
  have hp := wnum_any (xs.length : Int) pr g w0.heap.size w hw hbg (by omega)
  rw [cl_nat (by omega), ← eSome_zero eSec xs] at hp
  have HP := hid hp
  have HL := hid (fun (k : Nat) => eSome_le eSec xs k)
  have HS := hid (fun (k : Nat) (x : (List Nat)) (h : xs[k]? = some x) => eSome_succ (E := eSec) h)
  have HEL := hid hel
  rw [← eSome_all eSec xs] at hl ⊢
  obtain ⟨F, hF⟩ : ∃ F, eSome eSec xs = F := ⟨_, rfl⟩
  rw [← eSome_all eSec xs] at HL
  rw [hF] at HP HL HS hl ⊢
  obtain ⟨C, cc, rfl, hcap, hcm, b, off, hA, hc⟩ := hu
  unfold maxLen at hcm
  rw [List.length_map] at hcap hA ⊢
  have HC := hid hc
  have HB0 := hid hb0
  have HLL := hid hl
  have HOK := hid hok
  clear hok
  clear hw hc hF hp hel hb0 hl
  go_enter Try.func86, Try.ntmps86
  go_wp2_with fail
  refine HP.out.mono ?_
  rintro e w1 ⟨⟨v1, rfl⟩, hw1, hb1⟩
  have HW1 := hid hw1
  have HB1 := hid hb1
  clear hw1 hb1 HP
  go_wp2
  go_loopw [14] (fun i wr => ∃ k : Nat, k ≤ xs.length ∧ i = .int .i64 (k : Int) ∧ Hid (Wr wr g w0.heap.size (pr ++ F k)) ∧ Hid (Below w0.heap.size w wr)) (fun i _ => xs.length - (intOf i).toNat)
  case atStart => exact ⟨0, by omega, rfl, HW1, HB1⟩
  case round =>
    clear HW1 HB1
    obtain ⟨k, hk, rfl, HW, HB⟩ := hrel
    by_cases hkl : k < xs.length
    · obtain ⟨hA1, hb⟩ := hA (by omega)
      subst hA1
      obtain ⟨x, hxk⟩ : ∃ x, xs[k]? = some x := ⟨xs[k], List.getElem?_eq_getElem hkl⟩
      have hrow : ∀ (j : Nat) (v : Value), (cSec x)[j]? = some v → wr.cell? ⟨b, off + k * 8 + j, none⟩ = some v := fun j v hv =>
        (HB.out.cell (p := ⟨b, _, none⟩) hb).trans ((HB0.out.cell (p := ⟨b, _, none⟩) hb).trans (HC.out k _ (by rw [List.getElem?_map, hxk]; rfl) j v hv))
      have hlen := HL.out (k + 1)
      have HS1 := hid (HS.out k x hxk)
      have HE1 := hid (HEL.out k x hxk (pr ++ F k))
      have HE : Hid (pr ++ F (k + 1) = (pr ++ F k) ++ eSec x) := hid (by rw [HS1.out, List.append_assoc])
      have HLk : Hid ((pr ++ F k).length + (eSec x).length ≤ 60000) := hid (by rw [HS1.out, List.length_append] at hlen; rw [List.length_append]; have := HLL.out; omega)
      obtain ⟨m, hm⟩ : ∃ m, pr ++ F k = m := ⟨_, rfl⟩
      rw [hm] at HW HE HE1 HLk
      clear hm HS1 hlen
      obtain ⟨x0, x1, x2, x3, x4, x5, x6, x7, rfl⟩ := list8 (HOK.out x (List.mem_of_getElem? hxk))
      have c0 := hrow 0 _ rfl
      have c1 := hrow 1 _ rfl
      have c2 := hrow 2 _ rfl
      have c3 := hrow 3 _ rfl
      have c4 := hrow 4 _ rfl
      have c5 := hrow 5 _ rfl
      have c6 := hrow 6 _ rfl
      have c7 := hrow 7 _ rfl
      unfold byteV at c0 c1 c2 c3 c4 c5 c6 c7
      rw [Nat.add_zero] at c0
      have hBs := HB.out.size
      have hB0s := HB0.out.size
      have HC1 : Hid (Calls Try.prog 58 #[.pointer (some ⟨g, 0, none⟩), .agg #[.int .u8 (x0 : Int), .int .u8 (x1 : Int), .int .u8 (x2 : Int), .int .u8 (x3 : Int), .int .u8 (x4 : Int), .int .u8 (x5 : Int), .int .u8 (x6 : Int), .int .u8 (x7 : Int)]] (wr.alloc (.cells #[.int .u8 (x0 : Int), .int .u8 (x1 : Int), .int .u8 (x2 : Int), .int .u8 (x3 : Int), .int .u8 (x4 : Int), .int .u8 (x5 : Int), .int .u8 (x6 : Int), .int .u8 (x7 : Int)] 59)) _) := hid (HE1.out _ (HW.out.alloc _) ((HB0.out.trans HB.out).alloc (by omega) _) HLk.out)
      have HBA := hid (HB.out.alloc (by omega) (.cells #[.int .u8 (x0 : Int), .int .u8 (x1 : Int), .int .u8 (x2 : Int), .int .u8 (x3 : Int), .int .u8 (x4 : Int), .int .u8 (x5 : Int), .int .u8 (x6 : Int), .int .u8 (x7 : Int)] 59))
      clear HE1 hxk
      go_wp2_with fail
      refine HC1.out.mono ?_
      rintro e w2 ⟨⟨v2, rfl⟩, hw2, hb2⟩
      rw [← HE.out] at hw2
      have HW2 := hid hw2
      have HB2 := hid (HBA.out.trans hb2)
      clear hw2 hb2 HW HB HBA HC1 HE HLk hrow
      go_wp2_with fail
      go_roundw
      case rel => exact ⟨k + 1, by omega, by go_num, HW2, HB2⟩
      case measure => simp [intOf]; omega
    · obtain rfl : k = xs.length := by omega
      go_wp2
      go_end0
      exact ⟨⟨_, rfl⟩, HW.out, HB.out⟩

set_option maxHeartbeats 2000000 in
set_option maxRecDepth 100000 in
theorem encExt_any (xs : List (Int × Int)) (pr : List Nat) (u : Value) (g : Nat) (w0 w : World) (hu : Arr w0 u 2 (xs.map cExt)) (hb0 : Below w0.heap.size w0 w) (hw : Wr w g w0.heap.size pr) (hbg : w0.heap.size ≤ g) (hx : xs.length ≤ 60000) (hl : pr.length + (eList eExtI xs).length ≤ 60000)
    (hel : ∀ (k : Nat) (x : (Int × Int)), xs[k]? = some x → ∀ (p : List Nat) (W : World), Wr W g w0.heap.size p → Below w0.heap.size w0 W → p.length + (eExtI x).length ≤ 60000 → Calls Try.prog 60 #[.pointer (some ⟨g, 0, none⟩), .agg (cExt x).toArray] W (Wrote W g w0.heap.size (p ++ eExtI x))) :
    Calls Try.prog 89 #[.pointer (some ⟨g, 0, none⟩), u, .func (.func 60) #[] #[]] w (Wrote w g w0.heap.size (pr ++ eList eExtI xs)) := by
  have hp := wnum_any (xs.length : Int) pr g w0.heap.size w hw hbg (by omega)
  rw [cl_nat (by omega), ← eSome_zero eExtI xs] at hp
  have HP := hid hp
  have HL := hid (fun (k : Nat) => eSome_le eExtI xs k)
  have HS := hid (fun (k : Nat) (x : (Int × Int)) (h : xs[k]? = some x) => eSome_succ (E := eExtI) h)
  have HEL := hid hel
  rw [← eSome_all eExtI xs] at hl ⊢
  obtain ⟨F, hF⟩ : ∃ F, eSome eExtI xs = F := ⟨_, rfl⟩
  rw [← eSome_all eExtI xs] at HL
  rw [hF] at HP HL HS hl ⊢
  obtain ⟨C, cc, rfl, hcap, hcm, b, off, hA, hc⟩ := hu
  unfold maxLen at hcm
  rw [List.length_map] at hcap hA ⊢
  have HC := hid hc
  have HB0 := hid hb0
  have HLL := hid hl
  clear hw hc hF hp hel hb0 hl
  go_enter Try.func89, Try.ntmps89
  go_wp2_with fail
  refine HP.out.mono ?_
  rintro e w1 ⟨⟨v1, rfl⟩, hw1, hb1⟩
  have HW1 := hid hw1
  have HB1 := hid hb1
  clear hw1 hb1 HP
  go_wp2
  go_loopw [14] (fun i wr => ∃ k : Nat, k ≤ xs.length ∧ i = .int .i64 (k : Int) ∧ Hid (Wr wr g w0.heap.size (pr ++ F k)) ∧ Hid (Below w0.heap.size w wr)) (fun i _ => xs.length - (intOf i).toNat)
  case atStart => exact ⟨0, by omega, rfl, HW1, HB1⟩
  case round =>
    clear HW1 HB1
    obtain ⟨k, hk, rfl, HW, HB⟩ := hrel
    by_cases hkl : k < xs.length
    · obtain ⟨hA1, hb⟩ := hA (by omega)
      subst hA1
      obtain ⟨x, hxk⟩ : ∃ x, xs[k]? = some x := ⟨xs[k], List.getElem?_eq_getElem hkl⟩
      have hrow : ∀ (j : Nat) (v : Value), (cExt x)[j]? = some v → wr.cell? ⟨b, off + k * 2 + j, none⟩ = some v := fun j v hv =>
        (HB.out.cell (p := ⟨b, _, none⟩) hb).trans ((HB0.out.cell (p := ⟨b, _, none⟩) hb).trans (HC.out k _ (by rw [List.getElem?_map, hxk]; rfl) j v hv))
      have hlen := HL.out (k + 1)
      have HS1 := hid (HS.out k x hxk)
      have HE1 := hid (HEL.out k x hxk (pr ++ F k))
      have HE : Hid (pr ++ F (k + 1) = (pr ++ F k) ++ eExtI x) := hid (by rw [HS1.out, List.append_assoc])
      have HLk : Hid ((pr ++ F k).length + (eExtI x).length ≤ 60000) := hid (by rw [HS1.out, List.length_append] at hlen; rw [List.length_append]; have := HLL.out; omega)
      obtain ⟨m, hm⟩ : ∃ m, pr ++ F k = m := ⟨_, rfl⟩
      rw [hm] at HW HE HE1 HLk
      clear hm HS1 hlen
      obtain ⟨x0, x1⟩ := x
      have c0 : wr.cell? ⟨b, off + k * 2, none⟩ = some (.int .i64 x0) := hrow 0 _ rfl
      have c1 : wr.cell? ⟨b, off + k * 2 + 1, none⟩ = some (.int .i64 x1) := hrow 1 _ rfl
      have hBs := HB.out.size
      have hB0s := HB0.out.size
      have HC1 : Hid (Calls Try.prog 60 #[.pointer (some ⟨g, 0, none⟩), .agg #[.int .i64 x0, .int .i64 x1]] (wr.alloc (.cells #[.int .i64 x0, .int .i64 x1] 66)) _) := hid (HE1.out _ (HW.out.alloc _) ((HB0.out.trans HB.out).alloc (by omega) _) HLk.out)
      have HBA := hid (HB.out.alloc (by omega) (.cells #[.int .i64 x0, .int .i64 x1] 66))
      clear HE1 hxk
      go_wp2_with fail
      refine HC1.out.mono ?_
      rintro e w2 ⟨⟨v2, rfl⟩, hw2, hb2⟩
      rw [← HE.out] at hw2
      have HW2 := hid hw2
      have HB2 := hid (HBA.out.trans hb2)
      clear hw2 hb2 HW HB HBA HC1 HE HLk hrow
      go_wp2_with fail
      go_roundw
      case rel => exact ⟨k + 1, by omega, by go_num, HW2, HB2⟩
      case measure => simp [intOf]; omega
    · obtain rfl : k = xs.length := by omega
      go_wp2
      go_end0
      exact ⟨⟨_, rfl⟩, HW.out, HB.out⟩

end Go.Proofs.Ytchpoddfjbopbaa
