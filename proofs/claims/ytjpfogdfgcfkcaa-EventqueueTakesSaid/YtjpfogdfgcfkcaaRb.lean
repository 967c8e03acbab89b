/- times. -/
import Derived.Test.YtjpfogdfgcfkcaaRa
import Derived.Test.YtjpfogdfgcfkcaaQ
namespace Go.Proofs.Ytjpfogdfgcfkcaa
open Go.RowKit Go.Lib

/-- A list of small numbers that came in. -/
def UL (w : World) (v : Value) (l : List Nat) : Prop := (∀ x ∈ l, x < 65536) ∧ Arr w v 1 (l.map fun (x : Nat) => [.int .u16 (x : Int)])
theorem UL.below {w w' : World} {v : Value} {l : List Nat} (h : UL w v l) (hb : Below w.heap.size w w') : UL w' v l := ⟨h.1, h.2.below hb⟩
theorem ul_form {w : World} {v : Value} {l : List Nat} (h : UL w v l) : ∃ A c, v = .slice A l.length c := by
  obtain ⟨A, c, e⟩ := arr_form h.2
  rw [List.length_map] at e
  exact ⟨A, c, e⟩
theorem ul_cells {w : World} {A : Option Addr} {n c : Nat} {l : List Nat} (h : UL w (.slice A n c) l) (hp : 0 < l.length) : ∃ b off, A = some ⟨b, off, none⟩ ∧ b < w.heap.size ∧ ∀ (i : Nat) (x : Nat), l[i]? = some x → w.cell? ⟨b, off + i, none⟩ = some (.int .u16 (x : Int)) := by
  obtain ⟨b, off, h1, h2, h3⟩ := arr_at1 h.2 (by rw [List.length_map]; exact hp)
  refine ⟨b, off, h1, h2, fun i x hx => ?_⟩
  have := h3 i [.int .u16 (x : Int)] (by rw [List.getElem?_map, hx]; rfl) 0 _ rfl
  simpa using this
def tmsL (l : List Nat) : List Int := (l.take 30).map (fun (x : Nat) => ((x % 100 : Nat) : Int))
theorem info3 : (Try.prog.info? 3).map (fun i => (i.zero, i.size, i.bytes)) = some (some (.int .i64 0), 1, 8) := by kernel_rfl
set_option maxRecDepth 100000 in
theorem append_int {ops : Array Oper} {rest : List Oper} {o : Oper} {a : Act} {w : World} {Q : Exit → Act → World → Prop} (hgd : o.guard = none) (s x : Operand) (ho : o.op = .call { callee := .builtin .append, args := #[s, x], argTypes := #[53, 53] })
    (base : Nat) (v : Value) (n : Nat) (olds : List Value) (hs : a.eval s = v) (hown : w.ownsRow base 3 1 v n olds) (t : Int) (ad : Addr) (c : Nat) (hx : a.eval x = .slice (some ad) 1 c)
    (hc : ∀ j u, ([.int .i64 t] : List Value)[j]? = some u → w.cell? (ad.add j) = some u) (b1 : n + 1 ≤ 1000000) (hbase : base ≤ w.heap.size)
    (h : ∀ v' w', w'.ownsRow base 3 1 v' (n + 1) (olds ++ [.int .i64 t]) → w.grownBy w' v.ownBlock → wpList Try.prog ops Q rest (a.put o.dst v') w') : wpList Try.prog ops Q (o :: rest) a w := by
  obtain ⟨i0, hi, hz0, hz1, hz2⟩ := info_parts info3
  exact wpList_append_own w hgd s x 53 ho base 3 i0 _ 1 8 Try.underlying53 hi hz0 hz1 hz2 rfl (by decide) v n olds hs hown ad 1 c _ hx rfl hc (by intro u hu; simp at hu; subst hu; rfl) (by unfold maxLen; omega) (by omega) hbase (fun v' w' h1 h2 _ => h v' w' h1 h2)
theorem fl_ints (l : List Int) : (l.map cI).flatten = l.map (fun t => Value.int .i64 t) := by
  induction l with
  | nil => rfl
  | cons x t ih => rw [List.map_cons, List.flatten_cons, ih]; rfl
theorem il_of_own {w : World} {base n : Nat} {v : Value} {l : List Int} (h : w.ownsRow base 3 1 v n (l.map (fun t => Value.int .i64 t))) (hl : l.length = n) : IL w v l := by
  rw [← fl_ints] at h
  exact arr_of_own h (by rw [List.length_map, hl]) (fun r hr => by
    obtain ⟨s, hs, rfl⟩ := List.mem_map.1 hr
    rfl)
set_option maxHeartbeats 4000000 in
set_option maxRecDepth 100000 in
theorem times_any (l : List Nat) (v : Value) (w : World) (hv : UL w v l) :
    Calls Try.prog 27 #[v] w fun e w' => ∃ A c, e = .returned (.slice A (tmsL l).length c) ∧ IL w' (.slice A (tmsL l).length c) (tmsL l) ∧ Below w.heap.size w w' := by
  obtain ⟨A, c, rfl⟩ := ul_form hv
  obtain ⟨N, hN⟩ : ∃ N, l.length = N := ⟨_, rfl⟩
  rw [hN] at hv ⊢
  have HV := hid hv
  have HN := hid hN
  clear hv hN
  go_enter Try.func27, Try.ntmps27
  go_wp2_with fail
  go_loopw [3, 4] (fun ov i wr => ∃ (k : Nat), k ≤ N ∧ k ≤ 30 ∧ i = .int .i64 (k : Int) ∧ Hid (wr.ownsRow w.heap.size 3 1 ov k (((l.take k).map (fun (x : Nat) => ((x % 100 : Nat) : Int))).map (fun t => Value.int .i64 t))) ∧ Hid (Below w.heap.size w wr)) (fun _ i _ => 30 - (Lib.intOf i).toNat)
  case atStart => exact ⟨0, Nat.zero_le _, by omega, rfl, hid (by simpa using World.ownsRow_nil _ _ _ _), hid (Below.refl _ _)⟩
  case round =>
    obtain ⟨k, hk, hk30, rfl, HO, HB⟩ := hrel
    obtain ⟨oA, oc, rfl⟩ := own_formE HO.out
    have hfin : ¬ (k < N ∧ k < 30) → Hid (tmsL l = (l.take k).map (fun (x : Nat) => ((x % 100 : Nat) : Int))) := fun h => hid (by
      unfold tmsL
      congr 1
      by_cases h3 : k = 30
      · rw [h3]
      · rw [List.take_of_length_le (by rw [HN.out]; omega), List.take_of_length_le (by rw [HN.out]; omega)])
    by_cases hkn : k < N
    · have d1 : decide ((k : Int) < (N : Int)) = true := decide_eq_true (by omega)
      by_cases hk3 : k < 30
      · have d2 : decide ((k : Int) < 30) = true := decide_eq_true (by omega)
        obtain ⟨b, off, rfl, hbl, hc⟩ := ul_cells (HV.out.below HB.out) (by rw [HN.out]; omega)
        obtain ⟨x, hx⟩ : ∃ x, l[k]? = some x := ⟨l[k]'(by rw [HN.out]; exact hkn), List.getElem?_eq_getElem _⟩
        have q0 := hc k x hx
        have hxb := HV.out.1 x (List.mem_of_getElem? hx)
        have HTK := hid (take_succ'' hx)
        obtain ⟨y, hy⟩ : ∃ y, x % 100 = y := ⟨_, rfl⟩
        have hy1 : Int.tmod (x : Int) 100 = (y : Int) := by rw [← hy]; exact (Int.ofNat_tmod x 100).symm
        have hy2 : IntKind.i64.wrap (y : Int) = (y : Int) := by rw [IntKind.wrap_i64]; omega
        have hz0 := HB.out.size
        have HYY := hid hy
        clear hc hx hy hfin
        go_wp2_with (at_builtin; refine append_int rfl (.tmp 15) (.tmp 22) rfl w.heap.size (.slice oA k oc) k _ rfl (own_keep HO.out (keep_below (al1 _ _))) (y : Int) ⟨wr.heap.size, 0, none⟩ 1 rfl (fun j u hu => by rw [add_at, cell_of_row _ _ _ _ _ _ (heap_alloc_new _ _)]; simpa using hu) (by omega) (by simp; omega) ?_; intro v2 w2 ho2 hg2; have HB2 := hid ((HB.out.alloc hz0 _).grown hg2 (by simp; omega) (fun k e => (HO.out.lt k e).1)); obtain ⟨a2, c2, rfl⟩ := own_formE ho2; have HO2 := hid ho2; clear ho2 hg2)
        go_roundw
        case rel => exact ⟨k + 1, by omega, by omega, by go_num, hid (by rw [HTK.out, List.map_append, List.map_append]; have h := HO2.out; rw [← HYY.out] at h; simpa using h), HB2⟩
        case measure => simp [Lib.intOf]; omega
      · have d2 : decide ((k : Int) < 30) = false := decide_eq_false (by omega)
        have HF := hfin (by omega)
        have HL : Hid ((tmsL l).length = k) := hid (by rw [HF.out, List.length_map, List.length_take, HN.out]; omega)
        clear hfin
        go_wp2_with fail
        go_ret
        rw [HL.out]
        exact ⟨_, _, rfl, il_of_own (by rw [HF.out]; exact HO.out) HL.out, HB.out⟩
    · have d1 : decide ((k : Int) < (N : Int)) = false := decide_eq_false (by omega)
      have HF := hfin (by omega)
      have HL : Hid ((tmsL l).length = k) := hid (by rw [HF.out, List.length_map, List.length_take, HN.out]; omega)
      clear hfin
      go_wp2_with fail
      go_ret
      rw [HL.out]
      exact ⟨_, _, rfl, il_of_own (by rw [HF.out]; exact HO.out) HL.out, HB.out⟩
end Go.Proofs.Ytjpfogdfgcfkcaa
