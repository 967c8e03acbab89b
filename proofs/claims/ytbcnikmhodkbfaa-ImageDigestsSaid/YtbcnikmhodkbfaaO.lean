/- sector; what awake's values are. -/
import Derived.Test.YtbcnikmhodkbfaaN
namespace Go.Proofs.Ytbcnikmhodkbfaa
open Go.RowKit Go.Lib

theorem al_back {w W : World} {o : Obj} (h : Below (w.alloc o).heap.size (w.alloc o) W) : Below w.heap.size w W := (al1 w o).trans (h.mono (by simp))
/-- The sector whose first byte is x. -/
def tg (x : Nat) : Sect := [x, 0, 0, 0, 0, 0, 0, 0]
def tgA (x : Nat) : Array Value := #[.int .u8 (x : Int), .int .u8 0, .int .u8 0, .int .u8 0, .int .u8 0, .int .u8 0, .int .u8 0, .int .u8 0]
theorem tg_secs {l : List Nat} (h : ∀ x ∈ l, x < 256) : Secs (l.map tg) := fun s hs => by
  obtain ⟨x, hx, rfl⟩ := List.mem_map.1 hs
  refine ⟨rfl, fun y hy => ?_⟩
  have := h x hx
  simp [tg] at hy
  omega
set_option maxHeartbeats 2000000 in
set_option maxRecDepth 100000 in
theorem sector_any (x : Nat) (w : World) :
    Calls Try.prog 41 #[.int .u8 (x : Int)] w fun e w' => e = .returned (.agg (tgA x)) ∧ Below w.heap.size w w' := by
  have hB := al1 w (.cells (tgA x) 58)
  go_enter Try.func41, Try.ntmps41
  go_wp2
  refine bodyPost_ret (results_cell_row rfl _ _ w.heap.size 58 (tgA x) (0, 0) _ rfl (heap_alloc_new w _) und58 rfl size58) rfl ?_
  exact ⟨rfl, hB⟩
def L0 : List (List Sect) := [[zs, zs, zs, zs], [zs, zs]]
def L1 : List (List Sect) := [[zs, tg 1, tg 3, zs], [zs, zs]]
theorem dif01 : dif [zs, zs, zs, zs] [zs, tg 1, tg 3, zs] = [1, 2] := by decide
theorem dif02 : dif [zs, zs] [zs, zs] = [] := by decide
theorem difErr01 : difErr L0 L1 = 0 := by decide
theorem dx01 {l : List (Int × Int)} (h : Dx [zs, zs, zs, zs] [zs, tg 1, tg 3, zs] l) : l = [(1, 2)] := by
  refine Xt.canon_ext (Int.le_refl 0) h.1 (by simp [Xt.Canon]) fun x => (h.2 x).trans ?_
  rw [dif01]
  rw [Bool.eq_iff_iff]
  simp only [one1, List.map_cons, List.map_nil, Xt.mem_cons, Xt.mem_nil, Bool.or_eq_true, Bool.or_false, Xt.inE_iff]
  omega
theorem dx02 {l : List (Int × Int)} (h : Dx [zs, zs] [zs, zs] l) : l = [] := by
  refine Xt.canon_ext (Int.le_refl 0) h.1 (by simp [Xt.Canon]) fun x => (h.2 x).trans ?_
  rw [dif02]
  rfl
theorem allDx01 {ds : List Dvol} (h : AllDx L0 L1 ds) : ∃ a b, ds = [⟨a, [(1, 2)]⟩, ⟨b, []⟩] := by
  obtain ⟨hl, hd⟩ := h
  match ds, hl, hd with
  | [x, y], _, hd =>
    have h1 := dx01 (hd 0 x rfl)
    have h2 := dx02 (hd 1 y rfl)
    obtain ⟨a, la⟩ := x
    obtain ⟨b, lb⟩ := y
    cases h1
    cases h2
    exact ⟨a, b, rfl⟩
theorem pat01 {ds : List Dvol} (h : AllDx L0 L1 ds) {ws : List Wri} (hw : ws.map wv = patK L1 ds L0.length) : ∃ d, ws = [⟨0, 1, d, [tg 1, tg 3]⟩] := by
  obtain ⟨a, b, rfl⟩ := allDx01 h
  have e : patK L1 [⟨a, [(1, 2)]⟩, ⟨b, []⟩] L0.length = [(0, 1, [tg 1, tg 3])] := rfl
  rw [e] at hw
  match ws, hw with
  | [⟨v, s, d, l⟩], hw =>
    cases hw
    exact ⟨d, rfl⟩
theorem app01 (d1 d2 : Value) : appM L0 [⟨0, 1, d1, [tg 1, tg 2]⟩, ⟨0, 2, d2, [tg 3]⟩] = .ok L1 := by kernel_rfl
theorem new_lit (w : World) : Calls Try.prog 15 #[.slice (some ⟨w.heap.size, 0, none⟩) 2 2] (w.alloc (.cells #[.int .i64 4, .int .i64 2] 3)) fun e w' => ∃ g ys, e = .returned (.tuple #[.slice (some ⟨g, 0, none⟩) 2 2, .int .i64 0]) ∧ con ys = L0 ∧ ys.length = 2 ∧ Img w' (.slice (some ⟨g, 0, none⟩) 2 2) ys ∧ Below w.heap.size w w' := by
  refine (new_any [4, 2] _ _ (arr_new w 3 1 2 ([4, 2].map cInt) _ (fun r hr => by obtain ⟨x, _, rfl⟩ := List.mem_map.1 hr; rfl) rfl (by decide) rfl)).mono ?_
  rintro e w1 ⟨hb, ⟨h0, _⟩ | ⟨h0, g, ys, rfl, hc, ho⟩⟩
  · exact absurd rfl h0
  · have hc' : con ys = L0 := hc
    have hl : ys.length = 2 := by rw [← con_len, hc']; rfl
    have hi := img_of_own ho (by omega)
    rw [hl] at hi ⊢
    exact ⟨g, ys, rfl, hc', hl, hi, al_back hb⟩
/-- Two writes that lie in three rows of one's own. -/
theorem wrs_lit (w : World) (b1 b2 : Nat) (h1 : w.heap[b1]? = some (.cells (tgA 1 ++ tgA 2) 58)) (h2 : w.heap[b2]? = some (.cells (tgA 3) 58)) : WrsA (w.alloc (.cells #[.int .i64 0, .int .i64 1, .slice (some ⟨b1, 0, none⟩) 2 2, .int .i64 0, .int .i64 2, .slice (some ⟨b2, 0, none⟩) 1 1] 42)) (.slice (some ⟨w.heap.size, 0, none⟩) 2 2) [⟨0, 1, .slice (some ⟨b1, 0, none⟩) 2 2, [tg 1, tg 2]⟩, ⟨0, 2, .slice (some ⟨b2, 0, none⟩) 1 1, [tg 3]⟩] := by
  have s1 : Sec w (.slice (some ⟨b1, 0, none⟩) 2 2) [tg 1, tg 2] := ⟨tg_secs (l := [1, 2]) (by decide), arr_at (rows := [tg 1, tg 2].map cSec) (fun r hr => by obtain ⟨x, hx, rfl⟩ := List.mem_map.1 hr; simp at hx; rcases hx with rfl | rfl <;> rfl) rfl (Nat.le_refl _) (by decide) h1 (fun k u hu => by rw [show (tgA 1 ++ tgA 2) = (([tg 1, tg 2].map cSec).flatten).toArray from rfl]; simpa using hu)⟩
  have s2 : Sec w (.slice (some ⟨b2, 0, none⟩) 1 1) [tg 3] := ⟨tg_secs (l := [3]) (by decide), arr_at (rows := [tg 3].map cSec) (fun r hr => by obtain ⟨x, hx, rfl⟩ := List.mem_map.1 hr; simp at hx; subst hx; rfl) rfl (Nat.le_refl _) (by decide) h2 (fun k u hu => by rw [show tgA 3 = (([tg 3].map cSec).flatten).toArray from rfl]; simpa using hu)⟩
  refine ⟨fun x hx => ?_, arr_new w 42 3 2 _ _ (fun r hr => by obtain ⟨x, _, rfl⟩ := List.mem_map.1 hr; rfl) rfl (by decide) rfl⟩
  have hB := al1 w (.cells #[.int .i64 0, .int .i64 1, .slice (some ⟨b1, 0, none⟩) 2 2, .int .i64 0, .int .i64 2, .slice (some ⟨b2, 0, none⟩) 1 1] 42)
  simp at hx
  rcases hx with rfl | rfl
  · exact ⟨s1.below hB, nilOk_some _ _ _, ⟨by simp, by simp⟩, ⟨by simp, by simp⟩⟩
  · exact ⟨s2.below hB, nilOk_some _ _ _, ⟨by simp, by simp⟩, ⟨by simp, by simp⟩⟩
def wsL (b1 b2 : Nat) : List Wri := [⟨0, 1, .slice (some ⟨b1, 0, none⟩) 2 2, [tg 1, tg 2]⟩, ⟨0, 2, .slice (some ⟨b2, 0, none⟩) 1 1, [tg 3]⟩]
theorem app_lit (w : World) (g b1 : Nat) (ys : List Vol) (hi : Img w (.slice (some ⟨g, 0, none⟩) 2 2) ys) (hc : con ys = L0) (hx : w.heap[b1]? = some (.cells (tgA 1 ++ tgA 2) 58)) (hz : b1 < w.heap.size) :
    Calls Try.prog 23 #[.slice (some ⟨g, 0, none⟩) 2 2, .slice (some ⟨w.heap.size + 1, 0, none⟩) 2 2] ((w.alloc (.cells (tgA 3) 58)).alloc (.cells #[.int .i64 0, .int .i64 1, .slice (some ⟨b1, 0, none⟩) 2 2, .int .i64 0, .int .i64 2, .slice (some ⟨w.heap.size, 0, none⟩) 1 1] 42)) fun e w' => ∃ g2 us, e = .returned (.tuple #[.slice (some ⟨g2, 0, none⟩) 2 2, .int .i64 0, .int .i64 0]) ∧ con us = L1 ∧ Img w' (.slice (some ⟨g2, 0, none⟩) 2 2) us ∧ Below w.heap.size w w' := by
  have hb := al1 w (.cells (tgA 3) 58)
  have h := wrs_lit (w.alloc (.cells (tgA 3) 58)) b1 w.heap.size ((hb.block b1 hz).trans hx) (heap_alloc_new w _)
  have hb2 := al1 (w.alloc (.cells (tgA 3) 58)) (.cells #[.int .i64 0, .int .i64 1, .slice (some ⟨b1, 0, none⟩) 2 2, .int .i64 0, .int .i64 2, .slice (some ⟨w.heap.size, 0, none⟩) 1 1] 42)
  have hs : (w.alloc (.cells (tgA 3) 58)).heap.size = w.heap.size + 1 := by simp
  have hl : ys.length = 2 := by rw [← con_len, hc]; rfl
  have ha := apply_any ys _ _ _ _ ((hi.below hb).below hb2) h (by omega)
  rw [hs] at ha
  refine ha.mono ?_
  rintro e w' ⟨hb', ⟨L', g2, us, hL, rfl, hcu, _, ho⟩ | ⟨i, er, he, _⟩⟩
  · rw [hc, app01] at hL
    cases hL
    have hlu : us.length = 2 := by rw [← con_len, hcu]; rfl
    have hiu := img_of_own ho (by omega)
    rw [hlu] at hiu ⊢
    exact ⟨g2, us, rfl, hcu, hiu, al_back (al_back hb')⟩
  · rw [hc, app01] at he
    cases he
theorem differ_lit (w : World) (v u : Value) (ys us : List Vol) (hv : Img w v ys) (hu : Img w u us) (hc : con ys = L0) (hd : con us = L1) :
    Calls Try.prog 28 #[v, u] w fun e w' => ∃ g A1 c1 A2 c2, e = .returned (.tuple #[.slice (some ⟨g, 0, none⟩) 2 2, .int .i64 0]) ∧ Difs w' (.slice (some ⟨g, 0, none⟩) 2 2) [⟨.slice A1 1 c1, [(1, 2)]⟩, ⟨.slice A2 0 c2, []⟩] ∧ Below w.heap.size w w' := by
  have hl : ys.length = 2 := by rw [← con_len, hc]; rfl
  have hm : us.length = 2 := by rw [← con_len, hd]; rfl
  refine (differ_any ys us v u w hv hu (by omega) (by omega)).mono ?_
  rw [hc, hd]
  rintro e w' ⟨hb, ⟨h0, _⟩ | ⟨_, g, ds, rfl, ha, hds⟩⟩
  · exact absurd difErr01 h0
  · obtain ⟨a, b, rfl⟩ := allDx01 ha
    obtain ⟨A1, c1, e1⟩ := ext_form (hds.1 _ (List.mem_cons_self ..))
    obtain ⟨A2, c2, e2⟩ := ext_form (hds.1 _ (List.mem_cons_of_mem _ (List.mem_cons_self ..)))
    dsimp only at e1 e2
    subst e1 e2
    exact ⟨g, A1, c1, A2, c2, rfl, hds, hb⟩
theorem patch_lit (w : World) (v u : Value) (ys us : List Vol) (hv : Img w v ys) (hu : Img w u us) (hc : con ys = L0) (hd : con us = L1) :
    Calls Try.prog 30 #[v, u] w fun e w' => ∃ p c A k, e = .returned (.tuple #[.slice (some p) 1 c, .int .i64 0]) ∧ WrsA w' (.slice (some p) 1 c) [⟨0, 1, .slice A 2 k, [tg 1, tg 3]⟩] ∧ Below w.heap.size w w' := by
  have hl : ys.length = 2 := by rw [← con_len, hc]; rfl
  have hm : us.length = 2 := by rw [← con_len, hd]; rfl
  refine (patch_any ys us v u w hv hu (by omega) (by omega)).mono ?_
  rw [hc, hd]
  rintro e w' ⟨hb, ⟨h0, _⟩ | ⟨_, v', ws, ds, rfl, ha, hws, ho⟩⟩
  · exact absurd difErr01 h0
  · obtain ⟨d, rfl⟩ := pat01 ha hws
    have hw := wrs_of_own ho
    obtain ⟨P, c, rfl⟩ := wrs_form hw
    obtain ⟨A, k, e1⟩ := sec_form (hw.1 _ (List.mem_cons_self ..)).1
    dsimp only at e1
    subst e1
    obtain ⟨b, off, rfl, _⟩ := arr_at1 hw.2 (Nat.zero_lt_one)
    exact ⟨_, c, A, k, rfl, hw, hb⟩
theorem fit1 : fitE L0 0 2 3 = 2 := by kernel_rfl
theorem fit2 : fitE L0 2 0 1 = 7 := by kernel_rfl
theorem fit3 : fitE L0 1 0 0 = 1 := by kernel_rfl
theorem fits_lit (w : World) (v : Value) (ys : List Vol) (hv : Img w v ys) (hc : con ys = L0) (vo s : Int) (D : Option Addr) (m c : Nat) (hs : R64 s) (hm : m ≤ 9223372036854775807) (r : Int) (hr : fitE L0 vo s m = r) :
    Calls Try.prog 21 #[v, .agg #[.int .i64 vo, .int .i64 s, .slice D m c]] w fun e w' => e = .returned (.int .i64 r) ∧ Below w.heap.size w w' := by
  have hl : ys.length = 2 := by rw [← con_len, hc]; rfl
  have h := fits_any ys v vo s D m c w hv (by omega) hm hs
  rw [hc, hr] at h
  exact h
theorem ext_arr {w : World} {v : Value} {l : List (Int × Int)} (h : Xt.Ext w v l) : Arr w v 2 (l.map cExt) := by
  obtain ⟨_, A, cap, hv, h1, h2, b, off, hA, hc⟩ := h
  refine ⟨A, cap, by rw [List.length_map]; exact hv, by rw [List.length_map]; exact h1, h2, b, off, by rw [List.length_map]; exact hA, fun i r hr j u hu => ?_⟩
  rw [List.getElem?_map] at hr
  obtain ⟨e, he, rfl⟩ := Option.map_eq_some_iff.1 hr
  obtain ⟨c0, c1⟩ := hc i e he
  match j, hu with
  | 0, hu => cases hu; exact c0
  | 1, hu => cases hu; exact c1
theorem img01 {us : List Vol} (h : con us = L1) : ∃ a b, us = [⟨a, [zs, tg 1, tg 3, zs]⟩, ⟨b, [zs, zs]⟩] := by
  match us, h with
  | [⟨a, la⟩, ⟨b, lb⟩], h =>
    cases h
    exact ⟨a, b, rfl⟩
def zA : Array Value := #[.int .u8 0, .int .u8 0, .int .u8 0, .int .u8 0, .int .u8 0, .int .u8 0, .int .u8 0, .int .u8 0]
theorem eqS_lit (w W : World) (A : Option Addr) (c : Nat) (h : Sec w (.slice A 4 c) [zs, tg 1, tg 3, zs]) (hb : Below w.heap.size w W) :
    Calls Try.prog 27 #[.slice A 4 c, .slice (some ⟨W.heap.size, 0, none⟩) 4 4] (W.alloc (.cells (zA ++ tgA 1 ++ tgA 3 ++ zA) 58)) fun e w' => e = .returned (.bool true) ∧ Below w.heap.size w w' := by
  have hb2 := al1 W (.cells (zA ++ tgA 1 ++ tgA 3 ++ zA) 58)
  have h2 : Arr (W.alloc (.cells (zA ++ tgA 1 ++ tgA 3 ++ zA) 58)) (.slice (some ⟨W.heap.size, 0, none⟩) 4 4) 8 ([zs, tg 1, tg 3, zs].map cSec) := arr_new W 58 8 4 _ _ (fun r hr => by obtain ⟨x, hx, rfl⟩ := List.mem_map.1 hr; simp at hx; rcases hx with rfl | rfl | rfl | rfl <;> rfl) rfl (by decide) rfl
  refine (eqSecs_any _ _ _ _ _ ((h.below hb).below hb2).2 h2 h.1 h.1).mono ?_
  intro e w' hq
  obtain ⟨rfl, hb3⟩ := saysQ_B hq
  exact ⟨by rw [decide_eq_true rfl], below_both hb (below_both hb2 hb3)⟩
theorem eqE_lit (w W : World) (A : Option Addr) (c : Nat) (h : Xt.Ext w (.slice A 1 c) [(1, 2)]) (hb : Below w.heap.size w W) :
    Calls Try.prog 42 #[.slice A 1 c, .slice (some ⟨W.heap.size, 0, none⟩) 1 1] (W.alloc (.cells #[.int .i64 1, .int .i64 2] 51)) fun e w' => e = .returned (.bool true) ∧ Below w.heap.size w w' := by
  have hb2 := al1 W (.cells #[.int .i64 1, .int .i64 2] 51)
  have h2 : Arr (W.alloc (.cells #[.int .i64 1, .int .i64 2] 51)) (.slice (some ⟨W.heap.size, 0, none⟩) 1 1) 2 ([(1, 2)].map cExt) := arr_new W 51 2 1 _ _ (fun r hr => by obtain ⟨x, hx, rfl⟩ := List.mem_map.1 hr; rfl) rfl (by decide) rfl
  refine (eqExts_any _ _ _ _ _ (ext_arr ((h.below hb).below hb2)) h2).mono ?_
  intro e w' hq
  obtain ⟨rfl, hb3⟩ := saysQ_B hq
  exact ⟨by rw [decide_eq_true rfl], below_both hb (below_both hb2 hb3)⟩
end Go.Proofs.Ytbcnikmhodkbfaa
