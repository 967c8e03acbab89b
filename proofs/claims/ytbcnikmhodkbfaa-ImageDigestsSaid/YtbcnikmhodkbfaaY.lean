/- The reference's New. -/
import Derived.Test.YtbcnikmhodkbfaaW
namespace Go.Proofs.Ytbcnikmhodkbfaa
open Go.RowKit Go.Lib

set_option maxHeartbeats 1000000 in
theorem made40_own (n : Nat) (w : World) (hn : n ≤ 1000000) : (w.alloc (.cells (laid [] n).toArray 58)).ownsRow w.heap.size 58 8 (.slice (some ⟨w.heap.size, 0, none⟩) n n) (List.replicate n zs).length ((List.replicate n zs).map cSec).flatten := by
  have hfl := flat_cells (rep_secs n)
  rw [List.length_replicate] at hfl ⊢
  refine ⟨by rw [hfl]; omega, .inr ⟨w.heap.size, n, _, rfl, Nat.le_refl _, heap_alloc_new w _, Nat.le_refl _, by unfold maxLen; omega, by rw [laid_rep, List.size_toArray, hfl]; omega, ?_⟩⟩
  rw [laid_rep]
  exact List.take_of_length_le (by rw [hfl]; omega)
set_option maxRecDepth 100000 in
theorem append_vol {ops : Array Oper} {rest : List Oper} {o : Oper} {a : Act} {w : World} {Q : Exit → Act → World → Prop} (hgd : o.guard = none) (s x : Operand) (ho : o.op = .call { callee := .builtin .append, args := #[s, x], argTypes := #[24, 24] })
    (base : Nat) (v : Value) (n : Nat) (olds : List Value) (hs : a.eval s = v) (hown : w.ownsRow base 40 1 v n olds) (A : Option Addr) (m k : Nat) (ad : Addr) (c : Nat) (hx : a.eval x = .slice (some ad) 1 c)
    (hc : ∀ j u, [Value.slice A m k][j]? = some u → w.cell? (ad.add j) = some u) (b1 : n + 1 ≤ 1000000) (hbase : base ≤ w.heap.size)
    (h : ∀ v' w', w'.ownsRow base 40 1 v' (n + 1) (olds ++ [Value.slice A m k]) → w.grownBy w' v.ownBlock → wpList Try.prog ops Q rest (a.put o.dst v') w') : wpList Try.prog ops Q (o :: rest) a w := by
  obtain ⟨i0, hi, hz0, hz1, hz2⟩ := info_parts info40
  exact wpList_append_own w hgd s x 24 ho base 40 i0 _ 1 24 Try.underlying24 hi hz0 hz1 hz2 rfl (by decide) v n olds hs hown ad 1 c _ hx rfl hc (by intro u hu; simp at hu; subst hu; rfl) (by unfold maxLen; omega) (by omega) hbase (fun v' w' h1 h2 _ => h v' w' h1 h2)
theorem flat_vol (ys : List Vol) : (ys.map cVol).flatten = ys.map (·.d) := by
  induction ys with
  | nil => rfl
  | cons a l ih => rw [List.map_cons, List.flatten_cons, ih]; rfl
/-- Volumes that a call has made, in a row that it has made. -/
def OwnV (w : World) (base : Nat) (v : Value) (ys : List Vol) : Prop := w.ownsRow base 40 1 v ys.length (ys.map cVol).flatten ∧ ∀ y ∈ ys, Secs y.l ∧ w.ownsRow base 58 8 y.d y.l.length (y.l.map cSec).flatten
theorem img_of_ownV {w : World} {base : Nat} {v : Value} {ys : List Vol} (h : OwnV w base v ys) : Img w v ys := by
  refine ⟨fun y hy => ⟨sec_of_own (h.2 y hy).2 (h.2 y hy).1, ownAny_nilOk (h.2 y hy).2⟩, ?_⟩
  have h' : w.ownsRow base 40 1 v (ys.map cVol).length (ys.map cVol).flatten := by rw [List.length_map]; exact h.1
  exact arr_of_own h' rfl (fun r hr => by obtain ⟨x, _, rfl⟩ := List.mem_map.1 hr; rfl)
theorem ownV_next {w0 w w1 w2 : World} {v v2 d : Value} {ys : List Vol} {l : List Sect} {o : Obj} (h : OwnV w w0.heap.size v ys) (hB : Below w0.heap.size w0 w) (h1 : Below w.heap.size w w1) (hs : Secs l) (hd : w1.ownsRow w.heap.size 58 8 d l.length (l.map cSec).flatten)
    (hg : (w1.alloc o).grownBy w2 v.ownBlock) (ho : w2.ownsRow w0.heap.size 40 1 v2 (ys.length + 1) ((ys.map cVol).flatten ++ [d])) : OwnV w2 w0.heap.size v2 (ys ++ [⟨d, l⟩]) ∧ Below w0.heap.size w0 w2 := by
  have hb := al1 w1 o
  have hr1 := own_keep (own_keep h.1 (keep_below h1)) (keep_below hb)
  have hk : Keep 58 w1 w2 := (keep_below hb).trans (keep_grown hr1 (by decide) hg)
  have hz : w0.heap.size ≤ w1.heap.size := Nat.le_trans hB.size h1.size
  refine ⟨⟨?_, fun x hx => ?_⟩, ((hB.trans (h1.mono hB.size)).alloc hz _).grown hg (by simp; omega) (fun q e => (hr1.lt q e).1)⟩
  · rw [List.length_append, List.map_append, List.flatten_append]
    simpa [cVol] using ho
  · rcases List.mem_append.1 hx with hx | hx
    · exact ⟨(h.2 x hx).1, own_keep (own_keep (h.2 x hx).2 (keep_below h1)) hk⟩
    · rw [List.mem_singleton] at hx
      subst hx
      exact ⟨hs, own_keep (own_base hd hB.size) hk⟩
/-- What the reference's New answers. -/
def RefNewQ (w : World) (l : List Int) (e : Ending) (w' : World) : Prop :=
  Below w.heap.size w w' ∧ ((chkS l ≠ 0 ∧ e = .returned (.tuple #[.slice none 0 0, .int .i64 (chkS l)])) ∨ (chkS l = 0 ∧ ∃ r ys, e = .returned (.tuple #[r, .int .i64 0]) ∧ con ys = (l.map fun x => List.replicate x.toNat zs) ∧ OwnV w' w.heap.size r ys))
set_option maxHeartbeats 4000000 in
set_option maxRecDepth 100000 in
theorem refNew_any (l : List Int) (v : Value) (w : World) (hv : Arr w v 1 (l.map cInt)) : Calls Try.prog 16 #[v] w (RefNewQ w l) := by
  have HC := hid (refSizes_any l v w hv)
  obtain ⟨A, c, rfl⟩ := arr_form hv
  obtain ⟨_, hc1, hc2⟩ := arr_cap hv
  have HV := hid hv
  rw [List.length_map] at HC HV hc1 ⊢
  obtain ⟨n, hn⟩ : ∃ n, l.length = n := ⟨_, rfl⟩
  have HN := hid hn
  rw [hn] at HC HV hc1 ⊢
  obtain ⟨ck, hck⟩ : ∃ ck, chkS l = ck := ⟨_, rfl⟩
  have HCK := hid hck
  unfold RefNewQ
  rw [hck] at HC ⊢
  clear hv hn hck
  by_cases hk : ck = 0
  · subst hk
    have hsz := chk_sizes HCK.out
    have hn8 : n ≤ 8 := by rw [← HN.out]; exact hsz.1
    have HSZ := hid hsz.2
    clear hsz
    go_enter Try.func16, Try.ntmps16
    go_wp2_with fail
    refine HC.out.mono ?_
    rintro e w1 ⟨rfl, rfl⟩
    go_wp2_with fail
    go_loopw [5, 6] (fun v i wr => ∃ (k : Nat) (ys : List Vol), k ≤ n ∧ i = .int .i64 (k : Int) ∧ ys.length = k ∧ Hid (con ys = (l.take k).map fun x => List.replicate x.toNat zs) ∧ Hid (OwnV wr w.heap.size v ys) ∧ Hid (Below w.heap.size w wr)) (fun _ i _ => n - (Go.RowKit.intOf i).toNat)
    case atStart => exact ⟨0, [], Nat.zero_le _, rfl, rfl, hid rfl, hid ⟨World.ownsRow_nil _ _ _ _, fun y hy => by cases hy⟩, hid (Below.refl _ _)⟩
    case round =>
      obtain ⟨k, ys, hkn0, rfl, hyl, HY, HO, HB⟩ := hrel
      obtain ⟨lA, lc, rfl⟩ := ownAny_form HO.out.1
      have HYL := hid hyl
      rw [hyl] at HO ⊢
      clear hyl
      by_cases hkn : k < n
      · obtain ⟨x, hx⟩ : ∃ x, l[k]? = some x := ⟨l[k]'(by rw [HN.out]; exact hkn), List.getElem?_eq_getElem _⟩
        have hxr := HSZ.out x (List.mem_of_getElem? hx)
        obtain ⟨m, rfl⟩ := Int.eq_ofNat_of_zero_le (show 0 ≤ x by omega)
        have hm : m ≤ 4096 := by omega
        obtain ⟨b, off, hbA, hb, hcell⟩ := arr_at1 HV.out (by rw [List.length_map, HN.out]; omega)
        subst hbA
        have hcx : wr.cell? ⟨b, off + k, none⟩ = some (.int .i64 (m : Int)) := by
          have h := hcell k _ (by rw [List.getElem?_map, hx]; rfl) 0 _ rfl
          rw [Nat.mul_one, Nat.add_zero] at h
          exact (HB.out.cell (p := ⟨b, off + k, none⟩) hb).trans h
        have HT : Hid ((l.take (k + 1)).map (fun x => List.replicate x.toNat zs) = (l.take k).map (fun x => List.replicate x.toNat zs) ++ [List.replicate m zs]) := hid (by rw [take_snoc hx, List.map_append]; rfl)
        have hkc : (k : Int) < (n : Int) := by omega
        have hmk := fun W => make40 W m (by omega)
        have HMO := hid (made40_own m wr (by omega))
        have HAP := hid (fun o => own_keep (own_keep HO.out.1 (keep_below (al1 wr (.cells (laid [] m).toArray 58)))) (keep_below (al1 _ o)))
        rw [HYL.out] at HAP
        have hz1 := HB.out.size
        have HZ : Hid (k + 1 ≤ 1000000) := hid (by omega)
        clear hcell hx hxr
        go_wp2_with (at_builtin; refine append_vol rfl (.tmp 18) (.tmp 24) rfl w.heap.size (.slice lA k lc) k _ rfl (HAP.out _) (some ⟨wr.heap.size, 0, none⟩) m m ⟨(wr.alloc (.cells (laid [] m).toArray 58)).heap.size, 0, none⟩ 1 (by simp [Act.eval]) (fun j u hu => by rw [add_at', cell_of_row _ _ _ _ _ _ (heap_alloc_new (wr.alloc (.cells (laid [] m).toArray 58)) _)]; simpa using hu) HZ.out (by simp; omega) ?_; intro v2 w2 hown2 hg2; obtain ⟨a2, c2, rfl⟩ := ownAny_form hown2; have HO2 := hid hown2; have HG2 := hid hg2; clear hown2 hg2)
        have hnx := ownV_next (show OwnV wr w.heap.size (.slice lA k lc) ys from HO.out) HB.out (al1 wr (.cells (laid [] m).toArray 58)) (rep_secs m) HMO.out HG2.out (by rw [HYL.out]; exact HO2.out)
        have H1 := hid hnx.1
        have H2 := hid hnx.2
        clear hnx hmk hcx
        go_roundw
        case rel => exact ⟨k + 1, ys ++ [⟨.slice (some ⟨wr.heap.size, 0, none⟩) m m, List.replicate m zs⟩], by omega, by go_num, by rw [List.length_append, HYL.out]; rfl, hid (by rw [con_snoc, HY.out, HT.out]), H1, H2⟩
        case measure => simp [Go.RowKit.intOf]; omega
      · obtain rfl : k = n := by omega
        go_wp2
        refine bodyPost_ret (v := .tuple #[.slice lA k lc, .int .i64 0]) (by simp [results, Try.results16, go_sem]) rfl ?_
        exact ⟨HB.out, .inr ⟨trivial, _, ys, rfl, by rw [HY.out, List.take_of_length_le (by rw [HN.out]; exact Nat.le_refl _)], HO.out⟩⟩
  · have d1 : (ck != 0) = true := by simpa using hk
    have HK := hid hk
    clear hk
    go_enter Try.func16, Try.ntmps16
    go_wp2_with fail
    refine HC.out.mono ?_
    rintro e w1 ⟨rfl, rfl⟩
    go_wp2
    refine bodyPost_ret (v := .tuple #[.slice none 0 0, .int .i64 ck]) (by simp [results, Try.results16, go_sem]) rfl ?_
    exact ⟨Below.refl _ _, .inl ⟨HK.out, rfl⟩⟩
end Go.Proofs.Ytbcnikmhodkbfaa
