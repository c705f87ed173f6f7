/-
  The statements' claim (layer 6): one that holds for the exponents.
-/
import Derived.Test.YtmmicbdjafolpaeLfew
import Derived.Laws.ResultCell
namespace Go.Proofs.Ytmmicbdjafolpae
open Go.RowKit

theorem info_claim : (Try.prog.info? 40).map (·.size) = some 2 := by kernel_rfl
theorem result_pair {P : Program} {fn : Func} {p u : Tmp} {t : TypeId} {tmps : Array Value} {w : World} {b : Nat} {v x : Value} (h : fn.results = #[.cell p t, .tmp u]) (hp : tmps.getD p undef = .pointer (some ⟨b, 0, none⟩)) (hu : tmps.getD u undef = x) (hl : (loadVar t ⟨b, 0, none⟩).run P w = .ok v w) :
    (results fn tmps).run P w = .ok (.tuple #[v, x]) w := by
  rw [results_cell_tmp h, hp, hu]
  simp [asAddr, hl, Result.andThen]

theorem Nums.facs2 {w : World} {base k : Nat} {v : Value} {F : Nat → Int} (h : Nums w base v k F) (hF : ∀ i, i < k → U64 (F i)) : ∃ b c, v = .slice b k c ∧ k ≤ c ∧ c ≤ 9223372036854775807 ∧ FacsIn w b k F := by
  have hm : ∀ b c, v = .slice b k c → c ≤ 9223372036854775807 := fun b c e => by
    rcases h.2 with ⟨e2, _⟩ | ⟨g, cap, cur, e2, _, _, _, hm, _⟩
    · rw [e] at e2
      cases e2
      omega
    · rw [e] at e2
      cases e2
      unfold maxLen at hm
      omega
  obtain ⟨b, c, e, h1, h2⟩ := h.facs hF
  exact ⟨b, c, e, h1, hm b c e, h2⟩

/-- The claim in its variable, with as many targets as it has come to. -/
structure Cl (W : World) (bb : Option Addr) (nb cb : Nat) (v : Value) (i : Nat) (wx : World) : Prop where
  old : Old W wx
  row : wx.heap[W.heap.size]? = some (.cells #[v, .slice bb nb cb] 40 (0, 0))
  nums : Nums wx (W.heap.size + 1) v i (fun _ => 1)
theorem Cl.size {W wx : World} {bb : Option Addr} {nb cb : Nat} {v : Value} {i : Nat} (h : Cl W bb nb cb v i wx) : W.heap.size + 1 ≤ wx.heap.size := (Array.getElem?_eq_some_iff.1 h.row).1
theorem Cl.new (W : World) (bb : Option Addr) (nb cb : Nat) : Cl W bb nb cb (.slice none 0 0) 0 (W.alloc (.cells #[.slice none 0 0, .slice bb nb cb] 40)) :=
  ⟨(Old.refl _).alloc _, heap_alloc_last W _, nums_nil _ _ _⟩
theorem Cl.old' {W wx w' : World} {bb : Option Addr} {nb cb : Nat} {v : Value} {i : Nat} (h : Cl W bb nb cb v i wx) (ho : Old wx w') : Cl W bb nb cb v i w' :=
  ⟨h.old.trans ho, (ho.block _ h.size).trans h.row, h.nums.old ho⟩
theorem Cl.set {W wx : World} {bb : Option Addr} {nb cb : Nat} {v u : Value} {i k : Nat} (h : Old W wx) (hrow : wx.heap[W.heap.size]? = some (.cells #[v, .slice bb nb cb] 40 (0, 0))) (hn : Nums wx (W.heap.size + 1) u k (fun _ => 1)) (_hi : i = k) : Cl W bb nb cb u k (wx.setCell ⟨W.heap.size, 0, none⟩ u) :=
  ⟨h.setCell (Nat.le_refl _) _, by have := set_row hrow 0 u; simpa using this, ownsRow_setCell_below hn (Nat.lt_succ_self _) _⟩
theorem Cl.grown {W wx w' : World} {bb : Option Addr} {nb cb : Nat} {v : Value} {i : Nat} {o : Obj} (h : Cl W bb nb cb v i wx) (hg : (wx.alloc o).grownBy w' v.ownBlock) : Old W w' ∧ w'.heap[W.heap.size]? = some (.cells #[v, .slice bb nb cb] 40 (0, 0)) := by
  have hk : ∀ k, v.ownBlock = some k → W.heap.size + 1 ≤ k := fun k hk => (World.ownsRow.lt h.nums k hk).1
  refine ⟨(h.old.alloc o).grown hg fun k e => by have := hk k e; omega, ?_⟩
  have hs := h.size
  rw [hg.block W.heap.size (by simp; omega) (fun e => by have := hk _ e.symm; omega), Below.heap_alloc _ _ _ (by omega)]
  exact h.row

theorem lens_one (w : World) (b : Option Addr) (n c : Nat) (t : TypeId) : LensIn (w.alloc (.cells #[.slice b n c] t)) (some ⟨w.heap.size, 0, none⟩) 1 (fun _ => b) (fun _ => n) (fun _ => c) := by
  refine Or.inr ⟨_, _, rfl, by simp, fun j hj => ?_⟩
  match j, hj with
  | 0, _ => exact (World.cell?_alloc_mark w _ t (0, 0) 0).trans rfl

/-- A claim was made, or none. -/
def MadeC (fw ok : Bool) (F : Nat → Int) (bb : Option Addr) (nb cb : Nat) (BA : Nat → Option Addr) (L C : Nat → Nat) (B : Nat → Nat → Int) (w : World) (r : Ending) (w' : World) : Prop :=
  ∃ bt nt ct o, r = .returned (.tuple #[cv bt nt ct bb nb cb, .bool o]) ∧ Old w w' ∧ (o = true → fw = true ∧ ok = true ∧ nt = nb ∧ ClaimIn w' bt nb ct F bb nb cb BA L C B)

set_option linter.unusedSimpArgs false in
set_option maxRecDepth 100000 in
set_option maxHeartbeats 8000000 in
theorem claim6_any (P Q G H : Int) (a : Option Addr) (n cap : Nat) (bb : Option Addr) (nb cb : Nat) (BA : Nat → Option Addr) (L C : Nat → Nat) (B : Nat → Nat → Int) (bw : Option Addr) (nw cw : Nat) (X : Nat → Int) (w : World) (h4 : Four P Q G H) (hbn : nb ≤ 5864062014634) (hcb : nb ≤ cb) (hcm : cb ≤ 9223372036854775807) (hB : ListsIn w bb nb BA L C B) (hX : FacsIn w bw nw X) :
    Calls Try.prog 35 #[gv P Q G H a n cap, .slice bb nb cb, .slice bw nw cw] w (MadeC (fewC nb nb L 1 (fun _ => nw)) (fitsB (sizeN P Q nb (fun _ => 1) nb L B) nw) (fun j => imI P Q (B j) X (sizeN P Q nb (fun _ => 1) nb L B)) bb nb cb BA L C B w) := by
  have HZ := lain2 w (gc P Q G H a n cap) (cc none 0 0 none 0 0) 25 40
  have HB : Hid (ListsIn w bb nb BA L C B) := hB
  have HFe : Hid (∀ bt ct wx t, Old w wx → Calls Try.prog 17 #[cv bt nb ct bb nb cb, .slice (some ⟨wx.heap.size, 0, none⟩) 1 1] (wx.alloc (.cells #[.slice bw nw cw] t)) fun e w' => e = .returned (.bool (fewC nb nb L 1 (fun _ => nw))) ∧ Old wx w') := fun bt ct wx t ho =>
    (few6_any bt nb ct bb nb cb BA L C _ 1 1 _ (fun _ => nw) _ _ (by omega) ((hB.lens.old ho).old ((Old.refl _).alloc _)) (lens_one wx bw nw cw t)).mono fun e w' ⟨h, k⟩ => ⟨h, ((Old.refl _).alloc _).trans k⟩
  have HIm : Hid (∀ bt ct wx, Old w wx → nb ≤ ct → ct ≤ 9223372036854775807 → FacsIn wx bt nb (fun _ => 1) → Calls Try.prog 19 #[gv P Q G H a n cap, cv bt nb ct bb nb cb, .slice bw nw cw] wx (Gives wx (fitsB (sizeN P Q nb (fun _ => 1) nb L B) nw) nb (fun j => imI P Q (B j) X (sizeN P Q nb (fun _ => 1) nb L B)))) := fun bt ct wx ho h1 h2 hT =>
    rimage_any P Q G H a n cap bt nb ct (fun _ => 1) bb nb cb BA L C B bw nw cw X wx h4 ⟨h1, h2, hcb, hcm, hT, hB.old ho⟩ (hX.old ho)
  have HFU : Hid (∀ j, U64 (imI P Q (B j) X (sizeN P Q nb (fun _ => 1) nb L B))) := fun j => u64_prod _ _ _
  obtain ⟨F, hF⟩ : ∃ F : Nat → Int, F = fun j => imI P Q (B j) X (sizeN P Q nb (fun _ => 1) nb L B) := ⟨_, rfl⟩
  have HFU : Hid (∀ j, U64 (F j)) := fun j => by rw [hF]; exact u64_prod _ _ _
  rw [← hF] at HIm ⊢
  clear hF h4 hX hB
  generalize fitsB (sizeN P Q nb (fun _ => 1) nb L B) nw = ok at *
  generalize fewC nb nb L 1 (fun _ => nw) = fw at *
  obtain ⟨i0, hi, hz0, hz1, hz2⟩ := info_parts u64info
  go_enter Try.func35, Try.ntmps35
  go_upto_region 1 with fail
  generalize hW : (w.alloc (.cells (gc P Q G H a n cap) 25)).alloc (.cells (cc none 0 0 none 0 0) 40) = W at *
  clear hW
  have HW0 : Hid (Old w W) := HZ.old
  have hWs : w.heap.size + 2 ≤ W.heap.size := HZ.size
  have HC0 := Cl.new W bb nb cb
  go_wp2_with fail
  generalize W.alloc (.cells #[.slice none 0 0, .slice bb nb cb] 40) = W3 at *
  go_loopw [15] (fun iv wx => ∃ i : Nat, ∃ v : Value, iv = .int .i64 (i : Int) ∧ i ≤ nb ∧ Hid (Cl W bb nb cb v i wx)) (fun iv _ => nb - (intOf iv).toNat)
  case atStart => exact ⟨0, _, rfl, Nat.zero_le _, HC0⟩
  case round =>
    obtain ⟨i, v, rfl, hi1, HCl⟩ := hrel
    have hs := HCl.out.size
    have c0 : wr.cell? ⟨W.heap.size, 0, none⟩ = some v := cell_of_row _ _ 0 _ _ (0, 0) HCl.out.row
    have c1 : wr.cell? ⟨W.heap.size, 1, none⟩ = some (.slice bb nb cb) := cell_of_row _ _ 1 _ _ (0, 0) HCl.out.row
    by_cases hlt : i < nb
    · go_upto_region 4 with fail
      go_wp2_with (at_builtin; refine wpList_append_lies _ rfl _ _ 34 rfl (W.heap.size + 1) 22 i0 (.int .u64 0) 1 8 Try.underlying34 hi hz0 hz1 hz2 rfl (by decide) _ _ _ rfl (World.ownsRow.alloc HCl.out.nums _) ⟨wr.heap.size, 0, none⟩ 1 1 [.int .u64 1] rfl rfl ?c1 ?c2 (by decide) ?c3 ?c4 ?c5 _ rfl ?_)
      case c1 => exact cell_one_new _ _ _
      case c2 => intro u hu; simp at hu; subst hu; rfl
      case c3 => unfold maxLen; omega
      case c4 => omega
      case c5 => simp; omega
      intro g5 cap5 w5 hown5 hgrow5 _ _
      have hg5 := HCl.out.grown hgrow5
      have hN5 := Nums.app (F := fun _ => 1) hown5 rfl
      have HR5 : Hid (w5.heap[W.heap.size]? = some (.cells #[v, .slice bb nb cb] 40 (0, 0))) := hg5.2
      have HO5 : Hid (Old W w5) := hg5.1
      have HN5 : Hid (Nums w5 (W.heap.size + 1) (.slice (some ⟨g5, 0, none⟩) (i + 1) cap5) (i + 1) (fun _ => 1)) := hN5
      clear hg5 hN5 hown5 hgrow5
      have q0 : w5.cell? ⟨W.heap.size, 0, none⟩ = some v := cell_of_row _ _ 0 _ _ (0, 0) HR5.out
      have f0 : w5.frozen? ⟨W.heap.size, 0, none⟩ = false := row_frozen HR5.out 0
      go_wp2
      go_roundw
      case rel => exact ⟨i + 1, _, idx_next i, by omega, Cl.set HO5.out HR5.out HN5.out rfl⟩
      case measure => simp [intOf]; omega
    · have he : nb = i := by omega
      subst he
      obtain ⟨bt, ct, rfl, hct, hctm, hft⟩ := HCl.out.nums.facs2 (fun _ _ => ⟨by omega, by omega⟩)
      have HOw : Hid (Old w wr) := HW0.out.trans HCl.out.old
      have HF1 : Hid (∀ t, Calls Try.prog 17 #[cv bt nb ct bb nb cb, .slice (some ⟨wr.heap.size, 0, none⟩) 1 1] (wr.alloc (.cells #[.slice bw nw cw] t)) fun e w' => e = .returned (.bool fw) ∧ Old wr w') := fun t => HFe.out bt ct wr t HOw.out
      have HPC : Hid (∀ w', Old W w' → w'.cell? ⟨w.heap.size, 0, none⟩ = some (.int .u64 P) ∧ w'.cell? ⟨w.heap.size, 1, none⟩ = some (.int .u64 Q) ∧ w'.cell? ⟨w.heap.size, 2, none⟩ = some (.int .u64 G) ∧ w'.cell? ⟨w.heap.size, 3, none⟩ = some (.int .u64 H) ∧ w'.cell? ⟨w.heap.size, 4, none⟩ = some (.slice a n cap)) := fun w' ho => ⟨(HZ.then ho).cell 0 0 (by simp) rfl, (HZ.then ho).cell 0 1 (by simp) rfl, (HZ.then ho).cell 0 2 (by simp) rfl, (HZ.then ho).cell 0 3 (by simp) rfl, (HZ.then ho).cell 0 4 (by simp) rfl⟩
      have HRS : Hid (∀ w', Old W w' → w'.heap[w.heap.size + 1]? = some (.cells #[.slice none 0 0, .slice none 0 0] 40 (0, 0))) := fun w' ho => (HZ.then ho).row 1 (by simp)
      cases fw with
      | false =>
        go_upto_region 7 with (go_at_call 17; refine (HF1.out _).mono ?_; rintro e w5 ⟨rfl, h5⟩)
        have hc5 := HCl.out.old' h5
        have HR5 : Hid (w5.heap[w.heap.size + 1]? = some (.cells #[.slice none 0 0, .slice none 0 0] 40 (0, 0))) := HRS.out _ hc5.old
        have HO5 : Hid (Old w w5) := HOw.out.trans h5
        have z0 : w5.cell? ⟨W.heap.size, 0, none⟩ = some (.slice bt nb ct) := cell_of_row _ _ 0 _ _ (0, 0) hc5.row
        have z1 : w5.cell? ⟨W.heap.size, 1, none⟩ = some (.slice bb nb cb) := cell_of_row _ _ 1 _ _ (0, 0) hc5.row
        have q0 : w5.cell? ⟨w.heap.size + 1, 0, none⟩ = some (.slice none 0 0) := cell_of_row _ _ 0 _ _ (0, 0) HR5.out
        have q1 : w5.cell? ⟨w.heap.size + 1, 1, none⟩ = some (.slice none 0 0) := cell_of_row _ _ 1 _ _ (0, 0) HR5.out
        have f0 : w5.frozen? ⟨w.heap.size + 1, 0, none⟩ = false := row_frozen HR5.out 0
        have f1 : w5.frozen? ⟨w.heap.size + 1, 1, none⟩ = false := row_frozen HR5.out 1
        clear hc5 h5 HF1
        go_wp2_with fail
        exact bodyPost_ret (result_pair (b := w.heap.size + 1) rfl rfl rfl (load_two HR5.out Try.underlying40 info_claim)) rfl ⟨bt, nb, ct, false, rfl, (HO5.out.setCell (by simp) _).setCell (by simp) _, fun h => by cases h⟩
      | true =>
        go_upto_region 8 with (go_at_call 17; refine (HF1.out _).mono ?_; rintro e w5 ⟨rfl, h5⟩)
        have HC5 : Hid (Cl W bb nb cb (.slice bt nb ct) nb w5) := HCl.out.old' h5
        have HO5 : Hid (Old w w5) := HOw.out.trans h5
        have HI5 : Hid (Calls Try.prog 19 #[gv P Q G H a n cap, cv bt nb ct bb nb cb, .slice bw nw cw] w5 (Gives w5 ok nb F)) := HIm.out bt ct w5 HO5.out hct hctm (hft.old h5)
        have z0 : w5.cell? ⟨W.heap.size, 0, none⟩ = some (.slice bt nb ct) := cell_of_row _ _ 0 _ _ (0, 0) HC5.out.row
        have z1 : w5.cell? ⟨W.heap.size, 1, none⟩ = some (.slice bb nb cb) := cell_of_row _ _ 1 _ _ (0, 0) HC5.out.row
        obtain ⟨p0, p1, p2, p3, p4⟩ := HPC.out _ HC5.out.old
        go_upto_region 9 with (go_at_call 19; refine HI5.out.mono ?_; rintro e w6 ⟨v6, rfl, hN6, h6⟩)
        obtain ⟨b6, c6, rfl, hc6, hm6, _⟩ := hN6.facs2 (fun j _ => HFU.out j)
        have HC6 : Hid (Cl W bb nb cb (.slice bt nb ct) nb w6) := HC5.out.old' h6
        have HO6 : Hid (Old w w6) := HO5.out.trans h6
        have hs5 := HC5.out.size
        have hs6 := HC6.out.size
        have HN6 : Hid (Nums w6 w5.heap.size (.slice b6 (if ok = true then nb else 0) c6) (if ok = true then nb else 0) F) := hN6
        clear p0 p1 p2 p3 p4 z0 z1 c0 c1 hN6 h6 h5 hft
        generalize hk : (if ok = true then nb else 0) = k6 at *
        have HK : Hid ((if ok = true then nb else 0) = k6) := hk
        clear hk
        have q0 : w6.cell? ⟨W.heap.size, 0, none⟩ = some (.slice bt nb ct) := cell_of_row _ _ 0 _ _ (0, 0) HC6.out.row
        have f0 : w6.frozen? ⟨W.heap.size, 0, none⟩ = false := row_frozen HC6.out.row 0
        go_upto_region 10 with fail
        have hr7 := set_row HC6.out.row 0 (.slice b6 k6 c6)
        have HO7 : Hid (Old w (w6.setCell ⟨W.heap.size, 0, none⟩ (.slice b6 k6 c6))) := HO6.out.setCell (by show w.heap.size ≤ W.heap.size; omega) _
        have HN7 : Hid (Nums (w6.setCell ⟨W.heap.size, 0, none⟩ (.slice b6 k6 c6)) w5.heap.size (.slice b6 k6 c6) k6 F) := ownsRow_setCell_below HN6.out (by show W.heap.size < w5.heap.size; omega) _
        have HR7 : Hid ((w6.setCell ⟨W.heap.size, 0, none⟩ (.slice b6 k6 c6)).heap[w.heap.size + 1]? = some (.cells #[.slice none 0 0, .slice none 0 0] 40 (0, 0))) := HRS.out _ (HC6.out.old.setCell (Nat.le_refl _) _)
        generalize w6.setCell ⟨W.heap.size, 0, none⟩ (.slice b6 k6 c6) = w7 at *
        have z0 : w7.cell? ⟨W.heap.size, 0, none⟩ = some (.slice b6 k6 c6) := by rw [cell_of_row _ _ 0 _ _ (0, 0) hr7]; simp
        have z1 : w7.cell? ⟨W.heap.size, 1, none⟩ = some (.slice bb nb cb) := by rw [cell_of_row _ _ 1 _ _ (0, 0) hr7]; simp
        clear hr7 q0 f0
        have q0 : w7.cell? ⟨w.heap.size + 1, 0, none⟩ = some (.slice none 0 0) := cell_of_row _ _ 0 _ _ (0, 0) HR7.out
        have q1 : w7.cell? ⟨w.heap.size + 1, 1, none⟩ = some (.slice none 0 0) := cell_of_row _ _ 1 _ _ (0, 0) HR7.out
        have f0 : w7.frozen? ⟨w.heap.size + 1, 0, none⟩ = false := row_frozen HR7.out 0
        have f1 : w7.frozen? ⟨w.heap.size + 1, 1, none⟩ = false := row_frozen HR7.out 1
        go_wp2_with fail
        refine bodyPost_ret (result_pair (b := w.heap.size + 1) rfl rfl rfl (load_two HR7.out Try.underlying40 info_claim)) rfl ⟨b6, k6, c6, ok, rfl, (HO7.out.setCell (by simp) _).setCell (by simp) _, fun hok => ?_⟩
        have hk : nb = k6 := by have := HK.out; rw [if_pos hok] at this; exact this
        subst hk
        have hn9 : Nums ((w7.setCell ⟨w.heap.size + 1, 0, none⟩ (.slice b6 nb c6)).setCell ⟨w.heap.size + 1, 1, none⟩ (.slice bb nb cb)) w5.heap.size (.slice b6 nb c6) nb F := ownsRow_setCell_below (ownsRow_setCell_below HN7.out (by show w.heap.size + 1 < w5.heap.size; omega) _) (by show w.heap.size + 1 < w5.heap.size; omega) _
        obtain ⟨_, _, e9, _, _, hf9⟩ := hn9.facs2 (fun j _ => HFU.out j)
        cases e9
        exact ⟨rfl, hok, rfl, hc6, hm6, hcb, hcm, hf9, HB.out.old ((HO7.out.setCell (by simp) _).setCell (by simp) _)⟩

end Go.Proofs.Ytmmicbdjafolpae
