/- Differ. -/
import Derived.Test.YtbcnikmhodkbfaaK
namespace Go.Proofs.Ytbcnikmhodkbfaa
open Go.RowKit Go.Lib

/-- The extents of a volume: the slice that leads to them, and they themselves. -/
structure Dvol where
  d : Value
  l : List (Int × Int)
def cDvol (x : Dvol) : List Value := [x.d]
def Difs (w : World) (v : Value) (ds : List Dvol) : Prop := (∀ x ∈ ds, Xt.Ext w x.d x.l) ∧ Arr w v 1 (ds.map cDvol)
theorem Difs.below {w w' : World} {v : Value} {ds : List Dvol} (h : Difs w v ds) (hb : Below w.heap.size w w') : Difs w' v ds := ⟨fun x hx => (h.1 x hx).below hb, h.2.below hb⟩
/-- l is the canonical list of the sectors at which a and b differ. -/
def Dx (a b : List Sect) (l : List (Int × Int)) : Prop := Xt.Canon 0 l ∧ ∀ x, Xt.mem l x = Xt.mem (one1 (dif a b)) x
def difErr (L M : List (List Sect)) : Int := if chkS (siz L) ≠ 0 then chkS (siz L) else if chkS (siz M) ≠ 0 then chkS (siz M) else if siz L ≠ siz M then 22 else 0
def AllDx (L M : List (List Sect)) (ds : List Dvol) : Prop := ds.length = L.length ∧ ∀ (i : Nat) (x : Dvol), ds[i]? = some x → Dx (L.getD i []) (M.getD i []) x.l
/-- What Differ answers. -/
def DiffQ (w : World) (L M : List (List Sect)) (e : Ending) (w' : World) : Prop :=
  Below w.heap.size w w' ∧ ((difErr L M ≠ 0 ∧ e = .returned (.tuple #[.slice none 0 0, .int .i64 (difErr L M)])) ∨ (difErr L M = 0 ∧ ∃ g ds, e = .returned (.tuple #[.slice (some ⟨g, 0, none⟩) ds.length ds.length, .int .i64 0]) ∧ AllDx L M ds ∧ Difs w' (.slice (some ⟨g, 0, none⟩) ds.length ds.length) ds))
theorem ext_form {w : World} {v : Value} {l : List (Int × Int)} (h : Xt.Ext w v l) : ∃ A c, v = .slice A l.length c := by
  obtain ⟨_, A, c, e, _⟩ := h
  exact ⟨A, c, e⟩
theorem ext_set {w : World} {g k : Nat} {cs : List Value} {T : TypeId} {fr : Nat × Nat} {v u : Value} {l : List (Int × Int)} (h : Xt.Ext w v l) (hg : w.heap[g]? = some (.cells cs.toArray T fr)) (hs : ∀ x ∈ cs, ∃ A n c, x = .slice A n c) : Xt.Ext (w.setCell ⟨g, k, none⟩ u) v l := by
  obtain ⟨hr, A, cap, hv, h1, h2, b, off, hA, hcell⟩ := h
  have hbg : 0 < l.length → b ≠ g := fun hp e => by
    subst e
    have h0 := (hcell 0 _ (List.getElem?_eq_getElem hp)).1
    rw [cell_of_row _ _ _ _ _ _ hg, List.getElem?_toArray] at h0
    obtain ⟨A, n, c, e⟩ := hs _ (List.mem_of_getElem? h0)
    cases e
  refine ⟨hr, A, cap, hv, h1, h2, b, off, fun hp => ⟨(hA hp).1, by have := (hA hp).2; simpa using this⟩, fun i e hi => ?_⟩
  have hp : 0 < l.length := by have := (List.getElem?_eq_some_iff.1 hi).1; omega
  have hk : ∀ j, (w.setCell ⟨g, k, none⟩ u).cell? ⟨b, j, none⟩ = w.cell? ⟨b, j, none⟩ := fun j => World.cell?_setCell_other w ⟨g, k, none⟩ ⟨b, j, none⟩ u (by intro e; injection e with e _; exact hbg hp e.symm)
  rw [hk, hk]
  exact hcell i e hi
theorem info80 : (Try.prog.info? 80).map (fun i => (i.zero, i.size, i.bytes)) = some (some (.slice none 0 0), 1, 24) := by kernel_rfl
theorem make60 (W : World) (n : Nat) (hn : n ≤ 1000000) : (Instr.makeSlice 60 (.int .i64 n) (.int .i64 n)).run Try.prog W = .ok (.slice (some ⟨W.heap.size, 0, none⟩) n n) (W.alloc (.cells (madeCells #[.slice none 0 0] n) 80)) := by
  obtain ⟨i0, hi, hz0, hz1, hz2⟩ := info_parts info80
  have h := run_make (P := Try.prog) W 60 80 i0 (.slice none 0 0) Try.underlying60 hi hz0 .i64 .i64 n n (by omega) (by omega) (by rw [hz2]; omega) (by omega)
  rw [hz1] at h
  simp only [Int.toNat_natCast, Nat.mul_one] at h
  exact h
theorem build93 (A B : Option Addr) (n c m d : Nat) (w : World) : (Instr.build 93 #[(0, .slice A n c), (1, .slice B m d)]).run Try.prog w = .ok (.agg #[.slice A n c, .slice B m d]) w := run_build w 93 _ _ (by kernel_rfl)
theorem index93_0 (A B : Option Addr) (n c m d : Nat) (w : World) : (Instr.index 93 (.agg #[.slice A n c, .slice B m d]) (.int .i64 0)).run Try.prog w = .ok (.slice A n c) w := by kernel_rfl
theorem index93_1 (A B : Option Addr) (n c m d : Nat) (w : World) : (Instr.index 93 (.agg #[.slice A n c, .slice B m d]) (.int .i64 1)).run Try.prog w = .ok (.slice B m d) w := by kernel_rfl
theorem enters73 : ∀ args w, (callFunc 73 args).run Try.prog w = .ok (.enter 73 args) w := enters_of Try.func73 (by kernel_rfl) rfl
/-- extents of differing. -/
theorem dif_len (a b : List Sect) : (dif a b).length ≤ a.length := by
  unfold dif difN
  have := List.length_filter_le (fun i => decide (a[i]? ≠ b[i]?)) (List.range a.length)
  rwa [List.length_range] at this
theorem dif_lt {a b : List Sect} {x : Nat} (h : x ∈ dif a b) : x < a.length := by
  unfold dif difN at h
  exact List.mem_range.1 (List.mem_filter.1 h).1
theorem extdif_any (a b : List Sect) (A B : Option Addr) (n m c d : Nat) (w : World) (ha : Sec w (.slice A n c) a) (hb : Sec w (.slice B m d) b) (hlen : a.length = b.length) (hl : a.length ≤ 4096) (W : World) (hW : (w.alloc (.cells #[.slice A n c] 40)).alloc (.cells #[.slice B m d] 40) = W) :
    Calls Try.prog 57 #[.func (.func 73) #[] #[.pointer (some ⟨w.heap.size, 0, none⟩), .pointer (some ⟨w.heap.size + 1, 0, none⟩)]] W (Xt.Made W fun x => Xt.mem (one1 (dif a b)) x) := by
  have hB : Below w.heap.size w W := by rw [← hW]; exact ((Below.refl _ w).alloc (Nat.le_refl _) _).alloc (by simp) _
  have hz : W.heap.size = w.heap.size + 2 := by rw [← hW]; simp
  have h0 : W.cell? ⟨w.heap.size, 0, none⟩ = some (.slice A n c) := by
    rw [← hW]
    exact cell_of_row _ _ 0 _ _ _ ((Below.heap_alloc _ _ _ (by simp)).trans (heap_alloc_new w _))
  have h1 : W.cell? ⟨w.heap.size + 1, 0, none⟩ = some (.slice B m d) := by
    rw [← hW]
    have h := heap_alloc_new (w.alloc (.cells #[.slice A n c] 40)) (.cells #[.slice B m d] 40)
    rw [show (w.alloc (.cells #[.slice A n c] 40)).heap.size = w.heap.size + 1 by simp] at h
    exact cell_of_row _ _ 0 _ _ _ h
  have hS := differing_streams 2 w.heap.size (w.heap.size + 1) a b _ _ w W (by decide) ha hb hlen hB (by omega) (by omega) h0 h1
  exact extents_any 73 _ W.heap.size _ W hS (Nat.le_refl _) enters73 (by have := dif_len a b; omega) (fun x hx => by have := dif_lt hx; omega)

theorem fld_cell {w : World} {g k m : Nat} {cs : List Value} {T : TypeId} {z : Value} {fr : Nat × Nat} (h : w.heap[g]? = some (.cells (fld cs (m + 1) z).toArray T fr)) (hk : cs.length = k) : w.cell? ⟨g, k, none⟩ = some z := by
  rw [cell_of_row _ _ k _ _ _ h, List.getElem?_toArray, ← hk]
  exact fld_at cs m z
theorem dif_next {w w6 : World} {g k n mm : Nat} {L M : List (List Sect)} {ds : List Dvol} {a b : List Sect} {v6 : Value} {l6 : List (Int × Int)} (HK : ds.length = k) (HDX : ∀ (i : Nat) (x : Dvol), ds[i]? = some x → Dx (L.getD i []) (M.getD i []) x.l)
    (HG6 : w6.heap[g]? = some (.cells (fld (ds.map (·.d)) (mm + 1) (.slice none 0 0)).toArray 80)) (HE6 : ∀ x ∈ ds, Xt.Ext w6 x.d x.l) (HB6 : Below w.heap.size w w6) (hgw : w.heap.size ≤ g) (HNX : L.getD k [] = a ∧ M.getD k [] = b) (HMK : n - (k + 1) = mm)
    (HCAN : Xt.Canon 0 l6) (HMEM : ∀ x, Xt.mem l6 x = Xt.mem (one1 (dif a b)) x) (HEXT : Xt.Ext w6 v6 l6) :
    ∃ ds' : List Dvol, ds'.length = k + 1 ∧ (∀ (i : Nat) (x : Dvol), ds'[i]? = some x → Dx (L.getD i []) (M.getD i []) x.l) ∧ (w6.setCell ⟨g, k, none⟩ v6).heap[g]? = some (.cells (fld (ds'.map (·.d)) (n - (k + 1)) (.slice none 0 0)).toArray 80) ∧
      (∀ x ∈ ds', Xt.Ext (w6.setCell ⟨g, k, none⟩ v6) x.d x.l) ∧ Below w.heap.size w (w6.setCell ⟨g, k, none⟩ v6) := by
  have hs : ∀ x ∈ fld (ds.map (·.d)) (mm + 1) (.slice none 0 0), ∃ A n c, x = .slice A n c := fun x hx => by
    rcases List.mem_append.1 hx with hx | hx
    · obtain ⟨y, hy, rfl⟩ := List.mem_map.1 hx
      obtain ⟨A, c, e⟩ := ext_form (HE6 y hy)
      exact ⟨A, _, c, e⟩
    · obtain ⟨_, rfl⟩ := List.mem_replicate.1 hx
      exact ⟨none, 0, 0, rfl⟩
  refine ⟨ds ++ [⟨v6, l6⟩], by rw [List.length_append, HK]; rfl, fun i x hi => ?_, ?_, fun x hx => ?_, HB6.setCell (p := ⟨g, k, none⟩) hgw v6⟩
  · rcases Nat.lt_or_ge i ds.length with hlt | hge
    · rw [List.getElem?_append_left hlt] at hi
      exact HDX i x hi
    · rw [List.getElem?_append_right hge] at hi
      have hi0 : i - ds.length = 0 := by
        have := (List.getElem?_eq_some_iff.1 hi).1
        simp at this
        omega
      rw [hi0] at hi
      obtain rfl : i = k := by omega
      injection hi with hi
      rw [← hi, HNX.1, HNX.2]
      exact ⟨HCAN, HMEM⟩
  · have h := row_set HG6 (i := k) v6
    have h2 := fld_set (ds.map (·.d)) mm (.slice none 0 0) v6
    rw [List.length_map, HK] at h2
    rw [h2] at h
    rw [HMK, List.map_append]
    exact h
  · rcases List.mem_append.1 hx with hx | hx
    · exact ext_set (HE6 x hx) HG6 hs
    · rw [List.mem_singleton] at hx
      subst hx
      exact ext_set HEXT HG6 hs
set_option maxHeartbeats 8000000 in
set_option maxRecDepth 100000 in
theorem differ_any (xs ys : List Vol) (v u : Value) (w : World) (hv : Img w v xs) (hu : Img w u ys) (hl : xs.length ≤ 1000) (hm : ys.length ≤ 1000) :
    Calls Try.prog 28 #[v, u] w (DiffQ w (con xs) (con ys)) := by
  have HCa := hid (fun W (hb : Below w.heap.size w W) => check_any xs v W (hv.below hb) hl)
  have HCb := hid (fun W (hb : Below w.heap.size w W) => check_any ys u W (hu.below hb) hm)
  have HSa := hid (fun W (hb : Below w.heap.size w W) => sizesOf_any xs v W (hv.below hb) hl)
  have HSb := hid (fun W (hb : Below w.heap.size w W) => sizesOf_any ys u W (hu.below hb) hm)
  obtain ⟨A, c, rfl⟩ := img_form hv
  obtain ⟨B, d, rfl⟩ := img_form hu
  obtain ⟨L, hL⟩ : ∃ L, con xs = L := ⟨_, rfl⟩
  obtain ⟨M, hM⟩ : ∃ M, con ys = M := ⟨_, rfl⟩
  rw [hL] at HCa HSa ⊢
  rw [hM] at HCb HSb ⊢
  have HL := hid hL
  have HM := hid hM
  have HV := hid hv
  have HU := hid hu
  obtain ⟨n, hn⟩ : ∃ n, xs.length = n := ⟨_, rfl⟩
  obtain ⟨m, hmm⟩ : ∃ m, ys.length = m := ⟨_, rfl⟩
  have HN := hid hn
  have HMM := hid hmm
  have HLL : Hid (L.length = n) := hid (by rw [← hL, con_len, hn])
  rw [hn] at HV HCa HSa hl ⊢
  rw [hmm] at HU HCb HSb hm ⊢
  have hcc := arr_cap HV.out.2
  have hc1 := hcc.2.1
  have hc2 := hcc.2.2
  clear hcc
  obtain ⟨ck, hck⟩ : ∃ ck, chkS (siz L) = ck := ⟨_, rfl⟩
  obtain ⟨cm, hcm⟩ : ∃ cm, chkS (siz M) = cm := ⟨_, rfl⟩
  rw [hck] at HCa
  rw [hcm] at HCb
  have HCK := hid hck
  have HCM := hid hcm
  obtain ⟨D, hD⟩ : ∃ D, difErr L M = D := ⟨_, rfl⟩
  have HD : Hid (D = if ck ≠ 0 then ck else if cm ≠ 0 then cm else if siz L ≠ siz M then 22 else 0) := hid (by rw [← hD, ← hck, ← hcm]; rfl)
  unfold DiffQ
  rw [hD]
  clear hv hu hL hM hn hmm hck hcm hD
  have hbu := fun W => build93 A B n c m d W
  have hi0 := fun W => index93_0 A B n c m d W
  have hi1 := fun W => index93_1 A B n c m d W
  go_enter Try.func28, Try.ntmps28
  go_wp2_with fail
  go_loopw [14] (fun i wr => ∃ k : Nat, k ≤ 2 ∧ i = .int .i64 (k : Int) ∧ Hid (Below w.heap.size w wr) ∧ Hid ((0 < k → ck = 0) ∧ (1 < k → cm = 0))) (fun i _ => 2 - (Go.RowKit.intOf i).toNat)
  case atStart => exact ⟨0, by omega, rfl, hid (Below.refl _ _), hid ⟨fun h => by omega, fun h => by omega⟩⟩
  case round =>
    obtain ⟨k, hk, rfl, HB, HK⟩ := hrel
    have hk3 : k = 0 ∨ k = 1 ∨ k = 2 := by omega
    rcases hk3 with rfl | rfl | rfl
    · go_wp2_with fail
      refine (HCa.out _ HB.out).mono ?_
      rintro e w1 ⟨rfl, hb1⟩
      have HB1 := hid (below_both HB.out hb1)
      clear hb1
      by_cases h0 : ck = 0
      · subst h0
        go_wp2
        go_roundw
        case rel => exact ⟨1, by omega, by go_num, HB1, hid ⟨fun _ => trivial, fun h => by omega⟩⟩
        case measure => simp [Go.RowKit.intOf]
      · have d1 : (ck != 0) = true := by simpa using h0
        have HD2 : Hid (D = ck) := hid (by rw [HD.out, if_pos h0])
        have H0 := hid h0
        clear h0
        go_wp2
        refine bodyPost_ret (v := .tuple #[.slice none 0 0, .int .i64 ck]) (by simp [results, Try.results28, go_sem]) rfl ?_
        exact ⟨HB1.out, .inl ⟨by rw [HD2.out]; exact H0.out, by rw [HD2.out]⟩⟩
    · have hck0 := HK.out.1 (by omega)
      subst hck0
      go_wp2_with fail
      refine (HCb.out _ HB.out).mono ?_
      rintro e w1 ⟨rfl, hb1⟩
      have HB1 := hid (below_both HB.out hb1)
      clear hb1
      by_cases h0 : cm = 0
      · subst h0
        go_wp2
        go_roundw
        case rel => exact ⟨2, by omega, by go_num, HB1, hid ⟨fun _ => trivial, fun _ => trivial⟩⟩
        case measure => simp [Go.RowKit.intOf]
      · have d1 : (cm != 0) = true := by simpa using h0
        have HD2 : Hid (D = cm) := hid (by rw [HD.out, if_neg (by decide), if_pos h0])
        have H0 := hid h0
        clear h0
        go_wp2
        refine bodyPost_ret (v := .tuple #[.slice none 0 0, .int .i64 cm]) (by simp [results, Try.results28, go_sem]) rfl ?_
        exact ⟨HB1.out, .inl ⟨by rw [HD2.out]; exact H0.out, by rw [HD2.out]⟩⟩
    · have hck0 := HK.out.1 (by omega)
      have hcm0 := HK.out.2 (by omega)
      subst hck0 hcm0
      clear HK
      go_wp2_with fail
      refine (HSa.out _ HB.out).mono ?_
      rintro e w1 ⟨g1, rfl, hg1, ha1, hb1⟩
      have HA1 := hid ha1
      have HB1 := hid (below_both HB.out hb1)
      clear ha1 hb1
      go_wp2_with fail
      refine (HSb.out _ HB1.out).mono ?_
      rintro e w2 ⟨g2, rfl, hg2, ha2, hb2⟩
      have HQ := hid (eqInts_any _ _ _ _ w2 (HA1.out.below hb2) ha2)
      have HB2 := hid (below_both HB1.out hb2)
      clear ha2 hb2 HA1
      go_wp2_with fail
      refine HQ.out.mono ?_
      rintro e w3 h
      obtain ⟨rfl, hb3⟩ := saysQ_B h
      have HB3 := hid (below_both HB2.out hb3)
      clear h hb3 HQ
      by_cases heq : siz L = siz M
      · rw [decide_eq_true heq]
        have HD2 : Hid (D = 0) := hid (by rw [HD.out, if_neg (by decide), if_neg (by decide), if_neg (fun h => h heq)])
        have HEQ := hid heq
        clear heq
        have hmk := fun W => make60 W n (by omega)
        obtain ⟨W1, hW1⟩ : ∃ W1, w3.alloc (.cells (madeCells #[.slice none 0 0] n) 80) = W1 := ⟨_, rfl⟩
        obtain ⟨g, hg⟩ : ∃ g, w3.heap.size = g := ⟨_, rfl⟩
        have HB4 : Hid (Below w.heap.size w W1) := hid (by rw [← hW1]; exact HB3.out.alloc HB3.out.size _)
        have HG4 : Hid (W1.heap[g]? = some (.cells (fld [] n (.slice none 0 0)).toArray 80)) := hid (by rw [← hW1, made_one, ← hg]; exact heap_alloc_new w3 _)
        have hgw : w.heap.size ≤ g := by rw [← hg]; exact HB3.out.size
        go_wp2_with fail
        clear hmk hW1
        go_loopw [34] (fun i wr => ∃ (k : Nat) (ds : List Dvol), k ≤ n ∧ i = .int .i64 (k : Int) ∧ Hid (ds.length = k) ∧ Hid (∀ (i : Nat) (x : Dvol), ds[i]? = some x → Dx (L.getD i []) (M.getD i []) x.l) ∧ Hid (wr.heap[g]? = some (.cells (fld (ds.map (·.d)) (n - k) (.slice none 0 0)).toArray 80)) ∧ Hid (∀ x ∈ ds, Xt.Ext wr x.d x.l) ∧ Hid (Below w.heap.size w wr)) (fun i _ => n - (Go.RowKit.intOf i).toNat)
        case atStart => exact ⟨0, [], Nat.zero_le _, rfl, hid rfl, hid (fun i x h => by simp at h), HG4, hid (fun x h => by cases h), HB4⟩
        case round =>
          clear HG4 HB4 HB HB1 HB2 HB3 hg1 hg2 hg
          obtain ⟨k, ds, hk, rfl, HK, HDX, HG, HE, HB⟩ := hrel
          by_cases hkn : k < n
          · have hkc : (k : Int) < (n : Int) := by omega
            have hML : M.length = n := by have h := congrArg List.length HEQ.out; rw [siz_len, siz_len, HLL.out] at h; exact h.symm
            have hmn : m = n := by have h := hML; rw [← HM.out, con_len, HMM.out] at h; exact h
            obtain ⟨x, hx⟩ : ∃ x, xs[k]? = some x := ⟨xs[k]'(by rw [HN.out]; exact hkn), List.getElem?_eq_getElem _⟩
            obtain ⟨y, hy⟩ : ∃ y, ys[k]? = some y := ⟨ys[k]'(by rw [HMM.out]; omega), List.getElem?_eq_getElem _⟩
            have hLk : L[k]? = some x.l := by rw [← HL.out]; unfold con; rw [List.getElem?_map, hx]; rfl
            have hMk : M[k]? = some y.l := by rw [← HM.out]; unfold con; rw [List.getElem?_map, hy]; rfl
            have hxy : x.l.length = y.l.length := by
              have h := congrArg (fun l => l[k]?) HEQ.out
              unfold siz at h
              rw [List.getElem?_map, List.getElem?_map, hLk, hMk] at h
              have h2 : (x.l.length : Int) = (y.l.length : Int) := by simpa using h
              omega
            have hx4 : x.l.length ≤ 4096 := ((chk_ok HCK.out).2.2 x.l (List.mem_of_getElem? hLk)).2
            obtain ⟨ba, oa, hA, hla, hca⟩ := arr_at1 HV.out.2 (by rw [List.length_map, HN.out]; omega)
            obtain ⟨bb, ob, hBB, hlb, hcb⟩ := arr_at1 HU.out.2 (by rw [List.length_map, HMM.out]; omega)
            subst hA hBB
            have hxs := (HV.out.1 x (List.mem_of_getElem? hx)).1
            have hys := (HU.out.1 y (List.mem_of_getElem? hy)).1
            obtain ⟨xA, xc, hxd⟩ := sec_form hxs
            obtain ⟨yA, yc, hyd⟩ := sec_form hys
            have q0 : wr.cell? ⟨ba, oa + k, none⟩ = some (.slice xA x.l.length xc) := by
              have h := hca k _ (by rw [List.getElem?_map, hx]; rfl) 0 _ rfl
              rw [Nat.mul_one, Nat.add_zero, hxd] at h
              exact (HB.out.cell (p := ⟨ba, oa + k, none⟩) hla).trans h
            have q1 : wr.cell? ⟨bb, ob + k, none⟩ = some (.slice yA y.l.length yc) := by
              have h := hcb k _ (by rw [List.getElem?_map, hy]; rfl) 0 _ rfl
              rw [Nat.mul_one, Nat.add_zero, hyd] at h
              exact (HB.out.cell (p := ⟨bb, ob + k, none⟩) hlb).trans h
            have hBd : Below w.heap.size w wr.drew := below_drew HB.out
            rw [hxd] at hxs
            rw [hyd] at hys
            obtain ⟨w5, hw5⟩ : ∃ w5, (wr.drew.alloc (.cells #[.slice xA x.l.length xc] 40)).alloc (.cells #[.slice yA y.l.length yc] 40) = w5 := ⟨_, rfl⟩
            have HDF : Hid (Calls Try.prog 58 #[.slice xA x.l.length xc, .slice yA y.l.length yc] wr.drew fun e w' => e = .returned (.func (.func 73) #[] #[.pointer (some ⟨wr.heap.size, 0, none⟩), .pointer (some ⟨wr.heap.size + 1, 0, none⟩)]) ∧ w5 = w') := hid ((differing_any xA yA _ _ _ _ wr.drew).mono fun e w' ⟨h1, h2⟩ => ⟨h1, hw5.symm.trans h2⟩)
            have HEX : Hid (Calls Try.prog 57 #[.func (.func 73) #[] #[.pointer (some ⟨wr.heap.size, 0, none⟩), .pointer (some ⟨wr.heap.size + 1, 0, none⟩)]] w5 (Xt.Made w5 fun z => Xt.mem (one1 (dif x.l y.l)) z)) := hid (extdif_any x.l y.l xA yA _ _ _ _ wr.drew (hxs.below hBd) (hys.below hBd) hxy hx4 w5 hw5)
            have hb5 : Below wr.heap.size wr w5 := by rw [← hw5]; exact ((below_drew (Below.refl _ wr)).alloc (Nat.le_refl _) _).alloc (by simp) _
            have hgl := box_lt HG.out
            obtain ⟨mm, hmm⟩ : ∃ mm, n - k = mm + 1 := ⟨n - k - 1, by omega⟩
            have HG5 : Hid (w5.heap[g]? = some (.cells (fld (ds.map (·.d)) (mm + 1) (.slice none 0 0)).toArray 80)) := hid (by rw [← hmm]; exact (hb5.block g hgl).trans HG.out)
            have HZ5 : Hid (g < w5.heap.size) := hid (box_lt HG5.out)
            have HKL : Hid ((ds.map (·.d)).length = k) := hid (by rw [List.length_map, HK.out])
            have HB5 := hid (HB.out.trans (hb5.mono HB.out.size))
            have HE5 : Hid (∀ x ∈ ds, Xt.Ext w5 x.d x.l) := hid (fun x hx => (HE.out x hx).below hb5)
            have HNX : Hid (L.getD k [] = x.l ∧ M.getD k [] = y.l) := hid ⟨by rw [List.getD_eq_getElem?_getD, hLk]; rfl, by rw [List.getD_eq_getElem?_getD, hMk]; rfl⟩
            have HMK : Hid (n - (k + 1) = mm) := hid (by omega)
            obtain ⟨xn, hxn⟩ : ∃ xn, x.l.length = xn := ⟨_, rfl⟩
            obtain ⟨yn, hyn⟩ : ∃ yn, y.l.length = yn := ⟨_, rfl⟩
            rw [hxn, hyn] at HDF
            rw [hxn] at q0
            rw [hyn] at q1
            have hkm : (k : Int) < (m : Int) := by omega
            clear hML hmn hx hy hLk hMk hxy hx4 hla hca hlb hcb hxs hys hxd hyd hBd hw5 hb5 hgl hmm hxn hyn HG HE
            go_wp2_with fail
            go_region_with (first | (go_at_call 58; refine HDF.out.mono ?_; rintro e w' ⟨rfl, rfl⟩) | (go_at_call 57; refine HEX.out.mono ?_; rintro e w6 ⟨v6, l6, rfl, hcan, hmem, hext, hb6⟩; obtain ⟨eA, ec, rfl⟩ := ext_form hext; have HG6 := hid ((hb6.block g HZ5.out).trans HG5.out); have c7 := fld_cell HG6.out HKL.out; have f7 := box_fr HG6.out k; have HCAN := hid hcan; have HMEM := hid hmem; have HEXT := hid hext; have HB6 := hid hb6; clear hcan hmem hext hb6))
            all_goals
              have HNE := hid (dif_next HK.out HDX.out HG6.out (fun x hx => (HE5.out x hx).below HB6.out) (HB5.out.trans (HB6.out.mono HB5.out.size)) hgw HNX.out HMK.out HCAN.out HMEM.out HEXT.out)
              obtain ⟨ds', h1, h2, h3, h4, h5⟩ := HNE.out
              have H1 := hid h1
              have H2 := hid h2
              have H3 := hid h3
              have H4 := hid h4
              have H5 := hid h5
              clear h1 h2 h3 h4 h5 HNE c7 f7 q0 q1
              go_wp2
              go_roundw
              case rel => exact ⟨k + 1, ds', by omega, by go_num, H1, H2, H3, H4, H5⟩
              case measure => simp [Go.RowKit.intOf]; omega
          · obtain rfl : k = n := by omega
            go_wp2
            refine bodyPost_ret (v := .tuple #[.slice (some ⟨g, 0, none⟩) k k, .int .i64 0]) (by simp [results, Try.results28, go_sem]) rfl ?_
            refine ⟨HB.out, .inr ⟨HD2.out, g, ds, by rw [HK.out], ⟨by rw [HK.out, HLL.out], HDX.out⟩, HE.out, ?_⟩⟩
            have h := HG.out
            rw [Nat.sub_self, fld_zero] at h
            rw [HK.out]
            have h2 := arr_row h (n := k) (by rw [List.length_map, HK.out]) (by unfold maxLen; omega)
            rw [List.map_map] at h2
            exact h2
      · rw [decide_eq_false heq]
        have HD2 : Hid (D = 22) := hid (by rw [HD.out, if_neg (by decide), if_neg (by decide), if_pos heq])
        clear heq
        go_wp2
        refine bodyPost_ret (v := .tuple #[.slice none 0 0, .int .i64 22]) (by simp [results, Try.results28, go_sem]) rfl ?_
        exact ⟨HB3.out, .inl ⟨by rw [HD2.out]; decide, by rw [HD2.out]⟩⟩
end Go.Proofs.Ytbcnikmhodkbfaa
