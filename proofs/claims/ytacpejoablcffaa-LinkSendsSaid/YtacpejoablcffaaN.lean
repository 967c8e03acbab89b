/- The reference's comparisons, of equal values. -/
import Derived.Test.YtacpejoablcffaaM
namespace Go.Proofs.Ytacpejoablcffaa
open Go.RowKit Go.Lib

def TrueQ (w : World) (e : Ending) (w' : World) : Prop := e = .returned (.bool true) ∧ Below w.heap.size w w'
set_option maxHeartbeats 4000000 in
set_option maxRecDepth 100000 in
theorem sameInts_any (l : List Int) (v u : Value) (w : World) (hv : Ints w v l) (hu : Ints w u l) (hl : l.length ≤ 1000000) : Calls Try.prog 20 #[v, u] w (TrueQ w) := by
  obtain ⟨A, c, rfl⟩ := ints_form hv
  obtain ⟨B, d, rfl⟩ := ints_form hu
  obtain ⟨N, hN⟩ : ∃ N, l.length = N := ⟨_, rfl⟩
  rw [hN] at hv hu hl ⊢
  have HV := hid hv
  have HU := hid hu
  have HN := hid hN
  have d1 : ((N : Int) != (N : Int)) = false := by simp
  clear hv hu hN
  go_enter Try.func20, Try.ntmps20
  go_wp2
  go_loopw [5] (fun i wr => ∃ k : Nat, k ≤ N ∧ i = .int .i64 (k : Int) ∧ ∃ q, wr = w.drewN q) (fun i _ => N - (Go.RowKit.intOf i).toNat)
  case atStart => exact ⟨0, by omega, rfl, 0, rfl⟩
  case round =>
    obtain ⟨k, hk, rfl, q, rfl⟩ := hrel
    by_cases hkl : k < N
    · have hkl' : (k : Int) < (N : Int) := by omega
      obtain ⟨b, off, rfl, hbl, hc⟩ := ints_cells HV.out (by rw [HN.out]; omega)
      obtain ⟨b2, off2, rfl, hbl2, hc2⟩ := ints_cells HU.out (by rw [HN.out]; omega)
      obtain ⟨x, hx⟩ : ∃ x, l[k]? = some x := ⟨l[k]'(by rw [HN.out]; exact hkl), List.getElem?_eq_getElem _⟩
      have p0 := hc k x hx
      have q0 := hc2 k x hx
      have dx : (x != x) = false := by simp
      clear hc hc2 hx
      go_wp2_with fail
      go_quiet (fail)
      go_wp2_with fail
      go_roundw
      case rel => exact ⟨k + 1, by omega, by go_num, _, rfl⟩
      case measure => simp [Go.RowKit.intOf]; omega
    · obtain rfl : k = N := by omega
      go_wp2
      go_ret
      exact ⟨rfl, below_both_drewN (Below.refl _ _) q⟩
/-- Payloads that can be read. -/
def PyL (w : World) (v : Value) (ps : List Fl) : Prop := (∀ x ∈ ps, Byt w x.d x.p) ∧ Arr w v 1 (ps.map fun x => [x.d])
theorem PyL.below {w w' : World} {v : Value} {l : List Fl} (h : PyL w v l) (hb : Below w.heap.size w w') : PyL w' v l := ⟨fun x hx => (h.1 x hx).below hb, h.2.below hb⟩
theorem py_flat (l : List Fl) : (l.map fun x => [x.d]).flatten = l.map Fl.d := by
  induction l with
  | nil => rfl
  | cons a t ih => rw [List.map_cons, List.flatten_cons, ih]; rfl
theorem py_of_own {w : World} {B n : Nat} {v : Value} {ps : List Fl} (h : w.ownsRow B 37 1 v n (ps.map Fl.d)) (hp : ∀ x ∈ ps, Pay w x) : PyL w v ps := by
  refine ⟨fun x hx => (hp x hx).byt.1, ?_⟩
  rw [← py_flat] at h
  refine arr_of_own h ?_ (fun r hr => by obtain ⟨s, _, rfl⟩ := List.mem_map.1 hr; rfl)
  have := h.1
  rw [py_flat, List.length_map] at this
  rw [List.length_map]; omega
theorem py_form {w : World} {v : Value} {l : List Fl} (h : PyL w v l) : ∃ A c, v = .slice A l.length c := by
  obtain ⟨A, c, e⟩ := arr_form h.2
  rw [List.length_map] at e
  exact ⟨A, c, e⟩
theorem py_cells {w : World} {A : Option Addr} {n c : Nat} {l : List Fl} (h : PyL w (.slice A n c) l) (hp : 0 < l.length) : ∃ b off, A = some ⟨b, off, none⟩ ∧ b < w.heap.size ∧ ∀ (i : Nat) (x : Fl), l[i]? = some x → w.cell? ⟨b, off + i, none⟩ = some x.d := by
  obtain ⟨b, off, h1, h2, h3⟩ := arr_at1 h.2 (by rw [List.length_map]; exact hp)
  refine ⟨b, off, h1, h2, fun i x hx => ?_⟩
  have hr : (l.map fun x => [x.d])[i]? = some [x.d] := by rw [List.getElem?_map, hx]; rfl
  have := h3 i _ hr 0 _ rfl
  rwa [Nat.mul_one, Nat.add_zero] at this
theorem conv_at {w W : World} {A : Option Addr} {n c : Nat} {l : List Nat} (h : Byt w (.slice A n c) l) (hb : Below w.heap.size w W) : (convert 37 9 (.slice A n c)).run Try.prog W = .ok (.string (strOfNums (ints l))) W := byt_conv (h.below hb)
set_option maxHeartbeats 4000000 in
set_option maxRecDepth 100000 in
theorem samePays_any (l r : List Fl) (v u : Value) (w : World) (hv : PyL w v l) (hu : PyL w u r) (hl : l.length ≤ 1000000) (he : l.map Fl.p = r.map Fl.p) : Calls Try.prog 23 #[v, u] w (TrueQ w) := by
  obtain ⟨A, c, rfl⟩ := py_form hv
  obtain ⟨B, d, rfl⟩ := py_form hu
  have hlr : r.length = l.length := by have := congrArg List.length he; rw [List.length_map, List.length_map] at this; exact this.symm
  obtain ⟨N, hN⟩ : ∃ N, l.length = N := ⟨_, rfl⟩
  rw [hN] at hv hl hlr ⊢
  rw [hlr] at hu ⊢
  have HV := hid hv
  have HU := hid hu
  have HN := hid hN
  have HM := hid hlr
  have HE := hid he
  have d1 : ((N : Int) != (N : Int)) = false := by simp
  clear hv hu hN hlr he
  go_enter Try.func23, Try.ntmps23
  go_wp2
  go_loopw [5] (fun i wr => ∃ k : Nat, k ≤ N ∧ i = .int .i64 (k : Int) ∧ ∃ q, wr = w.drewN q) (fun i _ => N - (Go.RowKit.intOf i).toNat)
  case atStart => exact ⟨0, by omega, rfl, 0, rfl⟩
  case round =>
    obtain ⟨k, hk, rfl, q, rfl⟩ := hrel
    by_cases hkl : k < N
    · have hkl' : (k : Int) < (N : Int) := by omega
      obtain ⟨b, off, rfl, hbl, hc⟩ := py_cells HV.out (by rw [HN.out]; omega)
      obtain ⟨b2, off2, rfl, hbl2, hc2⟩ := py_cells HU.out (by rw [HM.out]; omega)
      obtain ⟨x, hx⟩ : ∃ x, l[k]? = some x := ⟨l[k]'(by rw [HN.out]; exact hkl), List.getElem?_eq_getElem _⟩
      obtain ⟨z, hz⟩ : ∃ z, r[k]? = some z := ⟨r[k]'(by rw [HM.out]; exact hkl), List.getElem?_eq_getElem _⟩
      have hzp : z.p = x.p := by
        have h := congrArg (fun l => l[k]?) HE.out
        simp only [List.getElem?_map, hx, hz, Option.map_some] at h
        injection h with h
        exact h.symm
      have p0 := hc k x hx
      have q0 := hc2 k z hz
      have hxb := HV.out.1 x (List.mem_of_getElem? hx)
      have hzb := HU.out.1 z (List.mem_of_getElem? hz)
      obtain ⟨xt, xn, xd, xp⟩ := x
      obtain ⟨zt, zn, zd, zp⟩ := z
      dsimp only at p0 q0 hxb hzb hzp
      subst hzp
      obtain ⟨xA, xc, rfl⟩ := byt_form hxb
      obtain ⟨zA, zc, rfl⟩ := byt_form hzb
      obtain ⟨xm, hxm⟩ : ∃ xm, zp.length = xm := ⟨_, rfl⟩
      rw [hxm] at p0 q0 hxb hzb
      obtain ⟨S, hS⟩ : ∃ S, strOfNums (ints zp) = S := ⟨_, rfl⟩
      have hc1 : (convert 37 9 (.slice xA xm xc)).run Try.prog (w.drewN q).drew = .ok (.string (strOfNums (ints zp))) (w.drewN q).drew := conv_at hxb (below_both_drewN (Below.refl _ _) q).drew
      have hc3 : (convert 37 9 (.slice zA xm zc)).run Try.prog (w.drewN q).drew = .ok (.string (strOfNums (ints zp))) (w.drewN q).drew := conv_at hzb (below_both_drewN (Below.refl _ _) q).drew
      rw [hS] at hc1 hc3
      have dS' : (S.toList != S.toList) = false := by simp
      have hHeld : (w.drewN q).drew.cell? ⟨b, off + k, none⟩ = some (.slice xA xm xc) ∧ (w.drewN q).drew.cell? ⟨b2, off2 + k, none⟩ = some (.slice zA xm zc) ∧ (convert 37 9 (.slice xA xm xc)).run Try.prog (w.drewN q).drew = .ok (.string S) (w.drewN q).drew ∧ (convert 37 9 (.slice zA xm zc)).run Try.prog (w.drewN q).drew = .ok (.string S) (w.drewN q).drew := ⟨p0, q0, hc1, hc3⟩
      clear hc hc2 hx hz hxb hzb hxm hS
      go_wp2_with fail
      refine region_tail 10 (fun X => X.cell? ⟨b, off + k, none⟩ = some (.slice xA xm xc) ∧ X.cell? ⟨b2, off2 + k, none⟩ = some (.slice zA xm zc) ∧ (convert 37 9 (.slice xA xm xc)).run Try.prog X = .ok (.string S) X ∧ (convert 37 9 (.slice zA xm zc)).run Try.prog X = .ok (.string S) X) (by kernel_rfl) ?_
      refine' wpAnyT_take (i := 0) (oi := ?oia0) (v := ?va0) ?hia0 (by kernel_rfl) (by kernel_rfl) ?hqa0 ?hya0 hHeld ?resta0
      case hia0 => (simp only [List.getElem?_toArray, List.getElem?_cons_zero]; rfl)
      case hqa0 => exact fun _ _ _ h => h
      case hya0 => (refine Or.inl ⟨by rfl, ?_⟩; intro w' hSw; (try dsimp only at hSw); go_simp; try with_reducible rfl)
      (try simp only [Act.put, List.setIfInBounds_toArray, List.set_cons_zero, List.set_cons_succ])
      refine' wpAnyT_take (i := 1) (oi := ?oia1) (v := ?va1) ?hia1 (by kernel_rfl) (by kernel_rfl) ?hqa1 ?hya1 hHeld ?resta1
      case hia1 => (simp only [List.getElem?_toArray, List.getElem?_cons_zero, List.getElem?_cons_succ]; rfl)
      case hqa1 => exact fun _ _ _ h => h
      case hya1 => (refine Or.inl ⟨by rfl, ?_⟩; intro w' hSw; (try dsimp only at hSw); go_simp; try with_reducible rfl)
      (try simp only [Act.put, List.setIfInBounds_toArray, List.set_cons_zero, List.set_cons_succ])
      refine' wpAnyT_take (i := 2) (oi := ?oia2) (v := ?va2) ?hia2 (by kernel_rfl) (by kernel_rfl) ?hqa2 ?hya2 hHeld ?resta2
      case hia2 => (simp only [List.getElem?_toArray, List.getElem?_cons_zero, List.getElem?_cons_succ]; rfl)
      case hqa2 => exact fun _ _ _ h => h
      case hya2 => (refine Or.inl ⟨by rfl, ?_⟩; intro w' hSw; (try dsimp only at hSw); go_simp; try with_reducible rfl)
      (try simp only [Act.put, List.setIfInBounds_toArray, List.set_cons_zero, List.set_cons_succ])
      refine' wpAnyT_take (i := 3) (oi := ?oia3) (v := ?va3) ?hia3 (by kernel_rfl) (by kernel_rfl) ?hqa3 ?hya3 hHeld ?resta3
      case hia3 => (simp only [List.getElem?_toArray, List.getElem?_cons_zero, List.getElem?_cons_succ]; rfl)
      case hqa3 => exact fun _ _ _ h => h
      case hya3 => (refine Or.inl ⟨by rfl, ?_⟩; intro w' hSw; (try dsimp only at hSw); go_simp; try with_reducible rfl)
      (try simp only [Act.put, List.setIfInBounds_toArray, List.set_cons_zero, List.set_cons_succ])
      refine' wpAnyT_take (i := 4) (oi := ?oia4) (v := ?va4) ?hia4 (by kernel_rfl) (by kernel_rfl) ?hqa4 ?hya4 hHeld ?resta4
      case hia4 => (simp only [List.getElem?_toArray, List.getElem?_cons_zero, List.getElem?_cons_succ]; rfl)
      case hqa4 => exact fun _ _ _ h => h
      case hya4 => (refine Or.inl ⟨by rfl, ?_⟩; intro w' hSw; (try dsimp only at hSw); go_simp; try with_reducible rfl)
      (try simp only [Act.put, List.setIfInBounds_toArray, List.set_cons_zero, List.set_cons_succ])
      refine' wpAnyT_take (i := 5) (oi := ?oia5) (v := ?va5) ?hia5 (by kernel_rfl) (by kernel_rfl) ?hqa5 ?hya5 hHeld ?resta5
      case hia5 => (simp only [List.getElem?_toArray, List.getElem?_cons_zero, List.getElem?_cons_succ]; rfl)
      case hqa5 => exact fun _ _ _ h => h
      case hya5 => (refine Or.inl ⟨by rfl, ?_⟩; intro w' hSw; (try dsimp only at hSw); go_simp; try with_reducible rfl)
      (try simp only [Act.put, List.setIfInBounds_toArray, List.set_cons_zero, List.set_cons_succ])
      refine' wpAnyT_take (i := 6) (oi := ?oia6) (v := ?va6) ?hia6 (by kernel_rfl) (by kernel_rfl) ?hqa6 ?hya6 hHeld ?resta6
      case hia6 => (simp only [List.getElem?_toArray, List.getElem?_cons_zero, List.getElem?_cons_succ]; rfl)
      case hqa6 => exact fun _ _ _ h => h
      case hya6 => (refine Or.inl ⟨by rfl, ?_⟩; intro w' hSw; (try dsimp only at hSw); go_simp; try with_reducible rfl)
      (try simp only [Act.put, List.setIfInBounds_toArray, List.set_cons_zero, List.set_cons_succ])
      refine' wpAnyT_take (i := 7) (oi := ?oia7) (v := ?va7) ?hia7 (by kernel_rfl) (by kernel_rfl) ?hqa7 ?hya7 hHeld ?resta7
      case hia7 => (simp only [List.getElem?_toArray, List.getElem?_cons_zero, List.getElem?_cons_succ]; rfl)
      case hqa7 => exact fun _ _ _ h => h
      case hya7 => (refine Or.inl ⟨by rfl, ?_⟩; intro w' hSw; (try dsimp only at hSw); go_simp; try with_reducible rfl)
      (try simp only [Act.put, List.setIfInBounds_toArray, List.set_cons_zero, List.set_cons_succ])
      refine' wpAnyT_take (i := 8) (oi := ?oia8) (v := ?va8) ?hia8 (by kernel_rfl) (by kernel_rfl) ?hqa8 ?hya8 hHeld ?resta8
      case hia8 => (simp only [List.getElem?_toArray, List.getElem?_cons_zero, List.getElem?_cons_succ]; rfl)
      case hqa8 => exact fun _ _ _ h => h
      case hya8 => (refine Or.inl ⟨by rfl, ?_⟩; intro w' hSw; (try dsimp only at hSw); go_simp; try with_reducible rfl)
      (try simp only [Act.put, List.setIfInBounds_toArray, List.set_cons_zero, List.set_cons_succ])
      refine' wpAnyT_take (i := 9) (oi := ?oia9) (v := ?va9) ?hia9 (by kernel_rfl) (by kernel_rfl) ?hqa9 ?hya9 hHeld ?resta9
      case hia9 => (simp only [List.getElem?_toArray, List.getElem?_cons_zero, List.getElem?_cons_succ]; rfl)
      case hqa9 => exact fun _ _ _ h => h
      case hya9 => (refine Or.inl ⟨by rfl, ?_⟩; intro w' hSw; (try dsimp only at hSw); go_simp; try with_reducible rfl)
      (try simp only [Act.put, List.setIfInBounds_toArray, List.set_cons_zero, List.set_cons_succ])
      refine wpAnyT_all (l := [10]) (by kernel_rfl) (by decide) ?_
      intro i hi
      simp only [List.mem_cons, List.not_mem_nil, or_false] at hi
      subst hi
      refine ⟨_, by (simp only [List.getElem?_toArray, List.getElem?_cons_zero, List.getElem?_cons_succ]; rfl), fun KK hKK => ?_⟩
      go_simp
      refine hKK.out _ _ (fun h => absurd h (by decide)) ?_
      clear hKK KK
      (try simp only [Act.put, List.setIfInBounds_toArray, List.set_cons_zero, List.set_cons_succ])
      refine wpAnyT_done (by kernel_rfl) ?_ _
      go_wp2_with fail
      go_roundw
      case rel => exact ⟨k + 1, by omega, by go_num, _, rfl⟩
      case measure => simp [Go.RowKit.intOf]; omega
    · obtain rfl : k = N := by omega
      go_wp2
      go_ret
      exact ⟨rfl, below_both_drewN (Below.refl _ _) q⟩
end Go.Proofs.Ytacpejoablcffaa
