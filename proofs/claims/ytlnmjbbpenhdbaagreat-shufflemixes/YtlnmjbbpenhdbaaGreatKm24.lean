/-
  The document's Mix (layer 8).
  The document's Same of boxes (layer 8).
  ShuffleMixes' walk (layer 8).
  A list of rows that came in, opened: what its reading says of memory.
  A group that came in, opened: what its reading says of memory.
  Pairs, threes and arrays that came in, opened: what their reading says (layer 5).
  Labelled lists, boxes, threes and what is made of draws, opened: what their reading says (layer 7).
  Batches, orders, draws and jobs that came in, opened: what their reading says (layer 8).
-/
import Derived.Test.YtlnmjbbpenhdbaaGreatKm23
import Derived.Test.YtlnmjbbpenhdbaaGreatKm05
import Derived.Test.YtlnmjbbpenhdbaaGreatKm01
import Derived.Deep.Slices
import Derived.Deep.Strs
import Derived.OpenShut
import Derived.SizedLaws
import Derived.Test.YtlnmjbbpenhdbaaGreatKm06
import Derived.Test.YtlnmjbbpenhdbaaGreatKm08
namespace Go.Proofs.YtlnmjbbpenhdbaaGreat
open Go Go.RowKit
set_option linter.unusedSimpArgs false
set_option linter.unusedVariables false

/-- A batch, or none (its room isn't told). -/
def GivR (w : World) (ok : Bool) (m : Nat) (C : Nat → Nat → Int) (r : Ending) (w' : World) : Prop := Old w w' ∧ ∃ a c, r = .returned (.tuple #[.slice a (if ok then m else 0) c, .bool ok]) ∧ BoxF w' a (if ok then m else 0) C
theorem givR_no {w w' : World} {ok : Bool} {m : Nat} {C : Nat → Nat → Int} (hok : ok = false) (ho : Old w w') : GivR w ok m C (.returned (.tuple #[.slice none 0 0, .bool false])) w' := by
  subst hok
  exact ⟨ho, none, 0, rfl, Or.inl rfl⟩
theorem mixB_ref {P Q y : Int} {m : Nat} {C : Nat → Nat → Int} {no : Nat} {O : Nat → Int} {nρ : Nat} : mixB P Q y m C no O nρ = true ↔ batB P Q m C = true ∧ inI P Q y = true ∧ ordR no O = true ∧ no = m ∧ nρ = m := by
  unfold mixB ordR
  simp only [Bool.and_eq_true_iff, decide_eq_true_eq]
  constructor
  · rintro ⟨h1, h2, h3, h4, h5⟩
    have := (batB_iff.1 h4).1
    exact ⟨h4, h5, ⟨by omega, h3⟩, h1, h2⟩
  · rintro ⟨h4, h5, ⟨_, h3⟩, h1, h2⟩
    exact ⟨h1, h2, h3, h4, h5⟩
theorem info_pair8r : (Tryz.prog.info? 69).map (·.size) = some 2 := by kernel_rfl
theorem pair_load8 (w : World) (b off : Nat) (u v : Int) (h0 : w.cell? ⟨b, off, none⟩ = some (.int .u64 u)) (h1 : w.cell? ⟨b, off + 1, none⟩ = some (.int .u64 v)) : (loadVar 69 ⟨b, off, none⟩).run Tryz.prog w = .ok (pv u v) w :=
  run_load_cells w b off _ #[.int .u64 u, .int .u64 v] _ (fun j v hv => by
    match j, (show j < 2 from (Array.getElem?_eq_some_iff.1 hv).1) with
    | 0, _ => exact h0.trans hv
    | 1, _ => exact h1.trans hv) Tryz.underlying69 rfl info_pair8r
theorem boxinfo9 : (Tryz.prog.info? 74).map (fun i => (i.zero, i.size, i.bytes)) = some (some (.agg #[.int .u64 0, .int .u64 0, .int .u64 0, .int .u64 0, .int .u64 0, .int .u64 0]), 6, 48) := by kernel_rfl
/-- What a box has come to, up to place k. -/
def mxV (k : Nat) (M C : Nat → Int) : Nat → Value := fun q => .int .u64 (if q < k then M q else C q)
theorem mxV_row (w : World) (M C : Nat → Int) : FulV (w.alloc (.cells (bx6a C) 74)) w.heap.size 6 74 (mxV 0 M C) := by
  unfold FulV
  rw [heap_alloc_last]
  rfl
theorem mxV_next {w : World} {b k : Nat} {M C : Nat → Int} {x z : Int} (h : FulV w b 6 74 (mxV k M C)) (hx : M k = x) (hz : M (k + 1) = z) : FulV ((w.setCell ⟨b, k, none⟩ (.int .u64 x)).setCell ⟨b, k + 1, none⟩ (.int .u64 z)) b 6 74 (mxV (k + 2) M C) :=
  ((h.set k (.int .u64 x)).set (k + 1) (.int .u64 z)).congr fun q hq => by
    unfold mxV
    by_cases h1 : q = k + 1
    · rw [if_pos h1, if_pos (by omega), h1, hz]
    · rw [if_neg h1]
      by_cases h2 : q = k
      · rw [if_pos h2, if_pos (by omega), h2, hx]
      · rw [if_neg h2]
        by_cases h3 : q < k
        · rw [if_pos h3, if_pos (by omega)]
        · rw [if_neg h3, if_neg (by omega)]
theorem saj0 {P : Program} {ops : List Oper} {L0 : List Value} {E : List Ent} {R : World → Prop} {dst : Option Tmp} {ty : TypeId} {pos : String} {after : Array Edge} {guard : Option (Nat × Bool)} {T e : TypeId} {x ix : Operand} {b n k : Nat} (sz : Nat) (hi : k < n) (hu : P.underlying T = some (.array n e)) (hs : (P.info? e).map (·.size) = some sz := by kernel_rfl) (hg : guardT E ⟨dst, .indexAddr T x ix, ty, pos, after, guard⟩ = some true := by rfl) (hx : ∀ t, Act.eval ⟨(fill ops E t 0 L0).toArray, []⟩ x = .pointer (some ⟨b, 0, none⟩) := by intro _; kernel_rfl) (hix : ∀ t, Act.eval ⟨(fill ops E t 0 L0).toArray, []⟩ ix = .int .i64 (k : Int) := by intro _; kernel_rfl) : StepT P ops L0 E R ⟨dst, .indexAddr T x ix, ty, pos, after, guard⟩ (.k (.pointer (some ⟨b, k * sz, none⟩))) := by
  have h := saj (P := P) (ops := ops) (L0 := L0) (E := E) (R := R) (off := 0) (i := k) sz hi hu hs hg hx hix
  rwa [Nat.zero_add] at h
set_option maxRecDepth 100000 in
set_option maxHeartbeats 16000000 in
theorem rmix8_any (P Q G H : Int) (a : Option Addr) (n cap : Nat) (y : Int) (bi : Option Addr) (m ci : Nat) (C : Nat → Nat → Int) (bo : Option Addr) (no co : Nat) (O : Nat → Int) (bρ : Option Addr) (nρ cρ : Nat) (R : Nat → Nat → Int) (w : World) (h4 : Four P Q G H) (hr : Righ P Q G) (hy : U64 y) (mm : m ≤ 80) (mo : no ≤ 80) (mρ : nρ ≤ 80) (hC : BoxsIn w bi m C) (hO : IntsIn w bo no O) (hR : RhoIn w bρ nρ R) :
    Calls Tryz.prog 16 #[gv P Q G H a n cap, .int .u64 y, .slice bi m ci, .slice bo no co, .slice bρ nρ cρ] w (GivR w (mixB P Q y m C no O nρ) m (mixC P Q G y C O R)) := by
  have HBa : Hid (∀ wx, Old w wx → Calls Tryz.prog 54 #[gv P Q G H a n cap, .slice bi m ci] wx (Ret wx (.bool (batB P Q m C)))) := fun wx ho => rbatch8_any P Q G H a n cap bi m ci C wx h4 (by omega) (hC.old ho)
  have HIn : Hid (∀ wx, Calls Tryz.prog 55 #[gv P Q G H a n cap, .int .u64 y] wx (Ret wx (.bool (inI P Q y)))) := fun wx => rin_any P Q G H y a n cap wx h4.q0 h4.q1 hy.2
  have HOr : Hid (∀ wx, Old w wx → Calls Tryz.prog 56 #[.slice bo no co] wx (Ret wx (.bool (ordR no O)))) := fun wx ho => rorder8_any bo no co O wx (by omega) (hO.old ho)
  have HZ := lain1 w (gc P Q G H a n cap) 25
  have HG0 := fun w' ho => (HZ.then (W' := w') ho).row 0 (by simp)
  have HW0 : Hid (Old w (w.alloc (.cells (gc P Q G H a n cap) 25))) := HZ.old
  clear HZ
  by_cases hok : mixB P Q y m C no O nρ = true
  rotate_left
  · have HN : Hid (mixB P Q y m C no O nρ = false) := by unfold Hid; simpa using hok
    have hno : ¬ (batB P Q m C = true ∧ inI P Q y = true ∧ ordR no O = true ∧ no = m ∧ nρ = m) := fun h => hok (mixB_ref.2 h)
    clear hok h4 hr hC hO hR
    generalize mixB P Q y m C no O nρ = mb at *
    generalize mixC P Q G y C O R = M at *
    go_enter Tryz.func16, Tryz.ntmps16
    go_upto_region 1 with fail
    generalize w.alloc (.cells (gc P Q G H a n cap) 25) = W at *
    obtain ⟨gb, hgb⟩ : ∃ gb, gb = w.heap.size := ⟨_, rfl⟩
    have HG : Hid (∀ wx, Old W wx → wx.heap[gb]? = some (.cells (gc P Q G H a n cap) 25 (0, 0))) := by rw [hgb]; exact HG0
    rw [← hgb]
    clear hgb HG0
    have HGc : Hid (∀ wx, Old W wx → wx.cell? ⟨gb, 0, none⟩ = some (.int .u64 P) ∧ wx.cell? ⟨gb, 1, none⟩ = some (.int .u64 Q) ∧ wx.cell? ⟨gb, 2, none⟩ = some (.int .u64 G) ∧ wx.cell? ⟨gb, 3, none⟩ = some (.int .u64 H) ∧ wx.cell? ⟨gb, 4, none⟩ = some (.slice a n cap)) := fun wx ho => ⟨cell_of_row _ _ 0 _ _ (0, 0) (HG.out _ ho), cell_of_row _ _ 1 _ _ (0, 0) (HG.out _ ho), cell_of_row _ _ 2 _ _ (0, 0) (HG.out _ ho), cell_of_row _ _ 3 _ _ (0, 0) (HG.out _ ho), cell_of_row _ _ 4 _ _ (0, 0) (HG.out _ ho)⟩
    obtain ⟨d0, d1, d2, d3, d4⟩ := HGc.out _ (Old.refl _)
    cases hb : batB P Q m C with
    | false =>
      rw [hb] at HBa
      clear hb hno
      go_wp2_with (go_at_call 54; refine (HBa.out _ HW0.out).mono ?_; rintro e w1 ⟨rfl, o1⟩)
      go_ret2
      exact givR_no HN.out (HW0.out.trans o1)
    | true =>
      rw [hb] at HBa hno
      cases hi : inI P Q y with
      | false =>
        rw [hi] at HIn
        clear hb hno hi
        go_wp2_with (first
          | (go_at_call 54; refine (HBa.out _ HW0.out).mono ?_; rintro e w1 ⟨rfl, o1⟩; obtain ⟨d0, d1, d2, d3, d4⟩ := HGc.out _ o1)
          | (go_at_call 55; refine (HIn.out _).mono ?_; rintro e w2 ⟨rfl, o2⟩))
        go_ret2
        exact givR_no HN.out ((HW0.out.trans o1).trans o2)
      | true =>
        rw [hi] at HIn hno
        cases ho : ordR no O with
        | false =>
          rw [ho] at HOr
          clear hb hno hi ho
          go_wp2_with (first
            | (go_at_call 54; refine (HBa.out _ HW0.out).mono ?_; rintro e w1 ⟨rfl, o1⟩; obtain ⟨d0, d1, d2, d3, d4⟩ := HGc.out _ o1)
            | (go_at_call 55; refine (HIn.out _).mono ?_; rintro e w2 ⟨rfl, o2⟩)
            | (go_at_call 56; refine (HOr.out _ ((HW0.out.trans o1).trans o2)).mono ?_; rintro e w3 ⟨rfl, o3⟩))
          go_ret2
          exact givR_no HN.out (((HW0.out.trans o1).trans o2).trans o3)
        | true =>
          rw [ho] at HOr hno
          by_cases h1 : no = m
          · have h2 : ¬ nρ = m := fun h => hno ⟨rfl, rfl, rfl, h1, h⟩
            have k0 : ((no : Int) != (m : Int)) = false := by simp; omega
            have k1 : ((nρ : Int) != (m : Int)) = true := by simp; omega
            have k2 : ¬ (nρ : Int) = (m : Int) := by omega
            have k3 : (no : Int) = (m : Int) := by omega
            clear hb hno hi ho h1 h2
            go_wp2_with (first
              | (go_at_call 54; refine (HBa.out _ HW0.out).mono ?_; rintro e w1 ⟨rfl, o1⟩; obtain ⟨d0, d1, d2, d3, d4⟩ := HGc.out _ o1)
              | (go_at_call 55; refine (HIn.out _).mono ?_; rintro e w2 ⟨rfl, o2⟩)
              | (go_at_call 56; refine (HOr.out _ ((HW0.out.trans o1).trans o2)).mono ?_; rintro e w3 ⟨rfl, o3⟩))
            go_ret2
            exact givR_no HN.out (((HW0.out.trans o1).trans o2).trans o3)
          · have k1 : ((no : Int) != (m : Int)) = true := by simp; omega
            have k2 : ¬ (no : Int) = (m : Int) := by omega
            clear hb hno hi ho h1
            go_wp2_with (first
              | (go_at_call 54; refine (HBa.out _ HW0.out).mono ?_; rintro e w1 ⟨rfl, o1⟩; obtain ⟨d0, d1, d2, d3, d4⟩ := HGc.out _ o1)
              | (go_at_call 55; refine (HIn.out _).mono ?_; rintro e w2 ⟨rfl, o2⟩)
              | (go_at_call 56; refine (HOr.out _ ((HW0.out.trans o1).trans o2)).mono ?_; rintro e w3 ⟨rfl, o3⟩))
            go_ret2
            exact givR_no HN.out (((HW0.out.trans o1).trans o2).trans o3)
  obtain ⟨hba, hin, hord, e1, e2⟩ := mixB_ref.1 hok
  rw [hba] at HBa
  rw [hin] at HIn
  rw [hord] at HOr
  rw [hok]
  have e1' : m = no := e1.symm
  subst e1'
  have e2' : m = nρ := e2.symm
  subst e2'
  clear e1 e2 hok
  have HX : Hid (IntsIn w bo m O) := hO
  have HCx : Hid (BoxsIn w bi m C) := hC
  have HRx : Hid (RhoIn w bρ m R) := hR
  have HPo : Hid (OrdP m O) := ordB_iff.1 (by have := hord; unfold ordR at this; exact (Bool.and_eq_true_iff.1 this).2)
  have h8 : m ≤ 8 := (batB_iff.1 hba).1.2
  have H4 : Hid (Four P Q G H) := h4
  have HRi : Hid (Righ P Q G) := hr
  obtain ⟨D, hD⟩ : ∃ D : Nat → Nat → Int, D = mixC P Q G y C O R := ⟨_, rfl⟩
  have HDe : Hid (D = mixC P Q G y C O R) := hD
  rw [← hD]
  clear hD hC hO hR h4 hr hba hin hord
  obtain ⟨i0, hi0, hz⟩ := Option.map_eq_some_iff.1 boxinfo9
  simp only [Prod.mk.injEq] at hz
  obtain ⟨hz0, hz1, hz2⟩ := hz
  have HI0 : Hid (Tryz.prog.info? 74 = some i0 ∧ i0.zero = some (.agg #[.int .u64 0, .int .u64 0, .int .u64 0, .int .u64 0, .int .u64 0, .int .u64 0]) ∧ i0.size = 6 ∧ i0.bytes = 48) := ⟨hi0, hz0, hz1, hz2⟩
  clear hi0 hz0 hz1 hz2
  go_enter Tryz.func16, Tryz.ntmps16
  go_upto_region 1 with fail
  generalize w.alloc (.cells (gc P Q G H a n cap) 25) = W at *
  obtain ⟨gb, hgb⟩ : ∃ gb, gb = w.heap.size := ⟨_, rfl⟩
  have HG : Hid (∀ wx, Old W wx → wx.heap[gb]? = some (.cells (gc P Q G H a n cap) 25 (0, 0))) := by rw [hgb]; exact HG0
  rw [← hgb]
  clear hgb HG0
  have HGc : Hid (∀ wx, Old W wx → wx.cell? ⟨gb, 0, none⟩ = some (.int .u64 P) ∧ wx.cell? ⟨gb, 1, none⟩ = some (.int .u64 Q) ∧ wx.cell? ⟨gb, 2, none⟩ = some (.int .u64 G) ∧ wx.cell? ⟨gb, 3, none⟩ = some (.int .u64 H) ∧ wx.cell? ⟨gb, 4, none⟩ = some (.slice a n cap)) := fun wx ho => ⟨cell_of_row _ _ 0 _ _ (0, 0) (HG.out _ ho), cell_of_row _ _ 1 _ _ (0, 0) (HG.out _ ho), cell_of_row _ _ 2 _ _ (0, 0) (HG.out _ ho), cell_of_row _ _ 3 _ _ (0, 0) (HG.out _ ho), cell_of_row _ _ 4 _ _ (0, 0) (HG.out _ ho)⟩
  obtain ⟨d0, d1, d2, d3, d4⟩ := HGc.out _ (Old.refl _)
  go_upto_region 5 with (first
    | (go_at_call 54; refine (HBa.out _ HW0.out).mono ?_; rintro e w1 ⟨rfl, o1⟩; obtain ⟨d0, d1, d2, d3, d4⟩ := HGc.out _ o1)
    | (go_at_call 55; refine (HIn.out _).mono ?_; rintro e w2 ⟨rfl, o2⟩)
    | (go_at_call 56; refine (HOr.out _ ((HW0.out.trans o1).trans o2)).mono ?_; rintro e w3 ⟨rfl, o3⟩))
  have HO3 : Hid (Old W w3) := (o1.trans o2).trans o3
  clear o1 o2 o3 d0 d1 d2 d3 d4 HBa HIn HOr HGc
  go_loopw [12, 13] (fun v iv wx => ∃ i : Nat, iv = .int .i64 (i : Int) ∧ i ≤ m ∧ Hid (RowsN wx W.heap.size 74 6 v i (bxL D)) ∧ Hid (Old W wx)) (fun _ iv _ => m - (intOf iv).toNat)
  case atStart => exact ⟨0, rfl, Nat.zero_le _, rowsN_nil _ _ _ _ _, HO3⟩
  case round =>
    obtain ⟨i, rfl, hi, HN, HO⟩ := hrel
    by_cases hlt : i < m
    · rcases HX.out with h0 | ⟨bx, ox, hqx, _, hrx⟩
      · omega
      have cx := (HW0.out.trans HO.out).cellOf (hrx i hlt).1
      have hp := HPo.out.2.1 i hlt
      obtain ⟨p, hpe⟩ : ∃ p : Nat, O i = (p : Int) := ⟨(O i).toNat, by omega⟩
      have HPe : Hid ((O i).toNat = p) := by unfold Hid; omega
      rw [hpe] at cx hp
      have hpn : p < m := by omega
      clear hpe hp hrx
      subst hqx
      rcases HCx.out with h0 | ⟨bc, oc, hqc, _, hrc⟩
      · omega
      have hcc : ∀ k, k < 6 → wr.cell? ⟨bc, oc + p * 6 + k, none⟩ = some (.int .u64 (C p k)) ∧ U64 (C p k) := fun k hk => ⟨(HW0.out.trans HO.out).cellOf (hrc p hpn k hk).1, (hrc p hpn k hk).2⟩
      have c0 : wr.cell? ⟨bc, oc + p * 6, none⟩ = some (.int .u64 (C p 0)) := (hcc 0 (by omega)).1
      have c1 := (hcc 1 (by omega)).1
      have c2 := (hcc 2 (by omega)).1
      have c3 := (hcc 3 (by omega)).1
      have c4 := (hcc 4 (by omega)).1
      have c5 := (hcc 5 (by omega)).1
      have HCu : Hid (∀ k, k < 6 → U64 (C p k)) := fun k hk => (hcc k hk).2
      clear hrc hcc
      subst hqc
      have HB0 : Hid (FulV (wr.alloc (.cells (bx6a (C p)) 74)) wr.heap.size 6 74 (mxV 0 (D i) (C p))) := mxV_row _ _ _
      have HO1 : Hid (Old wr (wr.alloc (.cells (bx6a (C p)) 74))) := (Old.refl _).alloc _
      have HSz : Hid (W.heap.size ≤ wr.heap.size) := HO.out.size
      go_upto_region 9 with fail
      clear c0 c1 c2 c3 c4 c5 cx
      obtain ⟨nb, hnb⟩ : ∃ nb, nb = wr.heap.size := ⟨_, rfl⟩
      rw [← hnb] at HB0
      rw [← hnb]
      have Hnb : Hid (wr.heap.size ≤ nb) := by unfold Hid; omega
      clear hnb
      obtain ⟨w5, hw5⟩ : ∃ w5, w5 = wr.alloc (.cells (bx6a (C p)) 74) := ⟨_, rfl⟩
      rw [← hw5] at HB0 HO1
      try rw [← hw5]
      clear hw5
      go_loopw [15] (fun kv wx => ∃ k : Nat, kv = .int .i64 (k : Int) ∧ k ≤ 3 ∧ Hid (FulV wx nb 6 74 (mxV (k * 2) (D i) (C p))) ∧ Hid (Old wr wx)) (fun kv _ => 3 - (intOf kv).toNat)
      case atStart => exact ⟨0, rfl, Nat.zero_le _, by rw [Nat.zero_mul]; exact HB0, HO1⟩
      case round =>
        obtain ⟨k, rfl, hk, HB, HO2⟩ := hrel
        by_cases hkl : k < 3
        · have k3 : (k : Int) < 3 := by omega
          rcases HRx.out with h0 | ⟨by_, oy, hqy, _, hry⟩
          · omega
          have HRu : Hid (U64 (R i k)) := (hry i hlt k hkl).2
          have HRc : Hid (∀ wx, Old wr wx → wx.cell? ⟨by_, oy + i * 3 + k, none⟩ = some (.int .u64 (R i k))) := fun wx hx => (((HW0.out.trans HO.out).trans HO2.out).trans hx).cellOf (hry i hlt k hkl).1
          clear hry
          subst hqy
          have HPl : Hid (∀ wx, Old wr wx → (loadVar 69 ⟨nb, k * 2, none⟩).run Tryz.prog wx = .ok (pv (C p (2 * k)) (C p (2 * k + 1))) wx) := fun wx ho => by
            have hb := HB.out.old ho
            refine pair_load8 wx nb _ _ _ ?_ ?_
            · rw [hb.cell (k * 2) (by omega)]; unfold mxV; rw [if_neg (by omega), show k * 2 = 2 * k by omega]
            · rw [hb.cell (k * 2 + 1) (by omega)]; unfold mxV; rw [if_neg (by omega), show k * 2 + 1 = 2 * k + 1 by omega]
          have HDu : Hid (D i (2 * k) = mulI (C p (2 * k)) (expI P Q G (R i k)) P) := by
            unfold Hid; rw [HDe.out]; unfold mixC; rw [if_pos (by omega), HPe.out, show 2 * k / 2 = k by omega]
          have HDv : Hid (D i (2 * k + 1) = mulI (C p (2 * k + 1)) (expI P Q y (R i k)) P) := by
            unfold Hid; rw [HDe.out]; unfold mixC; rw [if_neg (by omega), HPe.out, show (2 * k + 1) / 2 = k by omega]
          have HCv : Hid (U64 (C p (2 * k)) ∧ U64 (C p (2 * k + 1))) := ⟨HCu.out _ (by omega), HCu.out _ (by omega)⟩
          have HAg : Hid (∀ wx, Calls Tryz.prog 57 #[gv P Q G H a n cap, .int .u64 y, pv (C p (2 * k)) (C p (2 * k + 1)), .int .u64 (R i k)] wx (Ret wx (pv (D i (2 * k)) (D i (2 * k + 1))))) := fun wx => by rw [HDu.out, HDv.out]; exact ragain_any P Q G H a n cap y _ _ _ wx H4.out HRi.out hy HCv.out.1 HCv.out.2 HRu.out
          have HGr : Hid (∀ wx, Old wr wx → wx.heap[gb]? = some (.cells (gc P Q G H a n cap) 25 (0, 0))) := fun wx ho => HG.out wx ((HO.out.trans HO2.out).trans ho)
          go_upto_region 11 with fail
          refine wp_region_tab 14 [.k (.int .i64 (k : Int)), .k (gv P Q G H a n cap), .k (.int .u64 y), .k (.int .i64 (k : Int)), .k (.pointer (some ⟨nb, k * 2, none⟩)), .k (pv (C p (2 * k)) (C p (2 * k + 1))), .k (.slice (some ⟨by_, oy, none⟩) m cρ), .k (.int .i64 (i : Int)), .k (.int .i64 (k : Int)), .k (.pointer (some ⟨by_, oy + i * 3, none⟩)), .k (.pointer (some ⟨by_, oy + i * 3 + k, none⟩)), .k (.int .u64 (R i k)), .k (pv (D i (2 * k)) (D i (2 * k + 1))), .k (.pointer (some ⟨nb, k * 2, none⟩))] (Old wr) (by kernel_rfl) (by kernel_rfl) rfl ((Old.refl _).drew) ?st ?_
          case st =>
            refine .c stp <|
              .c (sts Tryz.underlying25 HGr.out) <|
              .c stp <|
              .c stp <|
              .c (saj0 2 hkl Tryz.underlying74) <|
              .c (stlv HPl.out) <|
              .c stp <|
              .c stp <|
              .c stp <|
              .c (stj (n := m) (c := cρ) 3 hlt Tryz.underlying28) <|
              .c (sai hkl Tryz.underlying63) <|
              .c (stl Tryz.underlying22 HRc.out) <|
              .c (stK old_R Tryz.func57 (fun wy _ => HAg.out wy)) <|
              .c (saj0 2 hkl Tryz.underlying74) .n
          intro t wz hR2 hk2
          simp only [fill, Ent.val, List.set_cons_zero, List.set_cons_succ, List.drop_succ_cons, List.drop_zero, List.drop_nil]
          have HBz := HB.out.old hR2
          have HB3 : Hid (FulV ((wz.setCell ⟨nb, k * 2, none⟩ (.int .u64 (D i (2 * k)))).setCell ⟨nb, k * 2 + 1, none⟩ (.int .u64 (D i (2 * k + 1)))) nb 6 74 (mxV ((k + 1) * 2) (D i) (C p))) := by
            have h := mxV_next HBz (x := D i (2 * k)) (z := D i (2 * k + 1)) (by rw [show k * 2 = 2 * k by omega]) (by rw [show k * 2 + 1 = 2 * k + 1 by omega])
            rwa [show k * 2 + 2 = (k + 1) * 2 by omega] at h
          have HO3' : Hid (Old _ ((wz.setCell ⟨nb, k * 2, none⟩ (.int .u64 (D i (2 * k)))).setCell ⟨nb, k * 2 + 1, none⟩ (.int .u64 (D i (2 * k + 1))))) := ((HO2.out.trans hR2).setCell (p := ⟨nb, k * 2, none⟩) Hnb.out _).setCell (p := ⟨nb, k * 2 + 1, none⟩) Hnb.out _
          have q0 := HBz.cell (k * 2) (by omega)
          have q1 := HBz.cell (k * 2 + 1) (by omega)
          have f0 := HBz.free (k * 2)
          have f1 := HBz.free (k * 2 + 1)
          unfold mxV at q0 q1
          clear hR2 hk2 HBz HRc HPl HAg HGr
          generalize D i (2 * k) = du at *
          generalize D i (2 * k + 1) = dv8 at *
          go_wp2_with fail
          go_roundw
          case rel => exact ⟨k + 1, idx_next k, by omega, HB3, HO3'⟩
          case measure => simp [intOf]; omega
        · have hk3 : k = 3 := by omega
          subst hk3
          have HB6 : Hid (wr.heap[nb]? = some (.cells (bx6a (D i)) 74 (0, 0))) := HB.out
          have m0 : wr.cell? ⟨nb, 0, none⟩ = some (.int .u64 (D i 0)) := cell_of_row _ _ 0 _ _ (0, 0) HB6.out
          have m1 : wr.cell? ⟨nb, 1, none⟩ = some (.int .u64 (D i 1)) := cell_of_row _ _ 1 _ _ (0, 0) HB6.out
          have m2 : wr.cell? ⟨nb, 2, none⟩ = some (.int .u64 (D i 2)) := cell_of_row _ _ 2 _ _ (0, 0) HB6.out
          have m3 : wr.cell? ⟨nb, 3, none⟩ = some (.int .u64 (D i 3)) := cell_of_row _ _ 3 _ _ (0, 0) HB6.out
          have m4 : wr.cell? ⟨nb, 4, none⟩ = some (.int .u64 (D i 4)) := cell_of_row _ _ 4 _ _ (0, 0) HB6.out
          have m5 : wr.cell? ⟨nb, 5, none⟩ = some (.int .u64 (D i 5)) := cell_of_row _ _ 5 _ _ (0, 0) HB6.out
          have hwv : W.heap.size ≤ wr.heap.size := (HO.out.trans HO2.out).size
          have HNv := HN.out.old HO2.out
          have HOv : Hid (Old W wr) := HO.out.trans HO2.out
          have HNews : Hid ([Value.int .u64 (D i 0), .int .u64 (D i 1), .int .u64 (D i 2), .int .u64 (D i 3), .int .u64 (D i 4), .int .u64 (D i 5)] = (List.range 6).map fun q => bxL D (i * 6 + q)) := box_news D i
          obtain ⟨hi0, hz0, hz1, hz2⟩ := HI0.out
          clear HB HO2 HB0 HO1 HB6
          generalize D i 0 = x0 at *
          generalize D i 1 = x1 at *
          generalize D i 2 = x2 at *
          generalize D i 3 = x3 at *
          generalize D i 4 = x4 at *
          generalize D i 5 = x5 at *
          go_wp2_with (at_builtin; refine wpList_append_lies _ rfl _ _ 26 rfl W.heap.size 74 i0 (.agg #[.int .u64 0, .int .u64 0, .int .u64 0, .int .u64 0, .int .u64 0, .int .u64 0]) 6 48 Tryz.underlying26 hi0 hz0 hz1 hz2 rfl (by decide) _ _ _ rfl (World.ownsRow.alloc HNv _) ⟨wr.heap.size, 0, none⟩ 1 1 [.int .u64 x0, .int .u64 x1, .int .u64 x2, .int .u64 x3, .int .u64 x4, .int .u64 x5] rfl rfl ?c1 ?c2 (by decide) ?c3 ?c4 ?c5 _ rfl ?_)
          case c1 => exact cells_new8 wr _ _
          case c2 => intro u hu; simp at hu; rcases hu with rfl | rfl | rfl | rfl | rfl | rfl <;> rfl
          case c3 => unfold maxLen; omega
          case c4 => omega
          case c5 => simp; omega
          intro g5 cap5 w9 hown9 hgrow9 hat9 _
          have HN9 : Hid (RowsN w9 W.heap.size 74 6 (.slice (some ⟨g5, 0, none⟩) (i + 1) cap5) (i + 1) (bxL D)) := RowsN.app hown9 HNews.out
          have HO9 : Hid (Old W w9) := (HOv.out.alloc _).grown hgrow9 fun q hq => (World.ownsRow.lt HNv q hq).1
          clear hown9 hgrow9 hat9 HNews HNv m0 m1 m2 m3 m4 m5
          go_wp2
          go_roundw
          case rel => exact ⟨i + 1, idx_next i, by omega, HN9, HO9⟩
          case measure => simp [intOf]; omega
    · have he : m = i := by omega
      subst he
      obtain ⟨b, c, e12, hbf⟩ := HN.out.boxF fun j k _ _ => by rw [HDe.out]; exact mixC_u64 _ _ _ _ _ _ _ j k
      have HF : Hid (BoxF wr b m D) := hbf
      rw [e12]
      clear e12 hbf
      go_wp2_with fail
      go_ret2
      exact ⟨HW0.out.trans HO.out, b, c, rfl, HF.out⟩

end Go.Proofs.YtlnmjbbpenhdbaaGreat

namespace Go.Proofs.YtlnmjbbpenhdbaaGreat
open Go.RowKit
set_option linter.unusedSimpArgs false
set_option linter.unusedVariables false

/-- The same boxes? -/
def samB (n m : Nat) (C D : Nat → Nat → Int) : Bool := decide (n = m) && (List.range n).all fun j => eqb6 (C j) (D j)
theorem samB_iff {n m : Nat} {C D : Nat → Nat → Int} : samB n m C D = true ↔ n = m ∧ ∀ j, j < n → ∀ k, k < 6 → C j k = D j k := by
  unfold samB
  simp only [Bool.and_eq_true_iff, decide_eq_true_eq, List.all_eq_true, List.mem_range, eqb6_iff]
set_option maxRecDepth 100000 in
set_option maxHeartbeats 4000000 in
theorem rsame8_any (b1 : Option Addr) (n1 c1 : Nat) (C : Nat → Nat → Int) (b2 : Option Addr) (n2 c2 : Nat) (D : Nat → Nat → Int) (w : World) (m1 : n1 ≤ 9223372036854775807) (h1 : BoxsIn w b1 n1 C) (h2 : BoxsIn w b2 n2 D) :
    Calls Tryz.prog 17 #[.slice b1 n1 c1, .slice b2 n2 c2] w (Ret w (.bool (samB n1 n2 C D))) := by
  have HX : Hid (BoxsIn w b1 n1 C) := h1
  have HY : Hid (BoxsIn w b2 n2 D) := h2
  clear h1 h2
  by_cases hn : n1 = n2
  · subst hn
    go_enter Tryz.func17, Tryz.ntmps17
    go_wp2_with fail
    go_loopw [5] (fun iv wx => ∃ i : Nat, iv = .int .i64 (i : Int) ∧ i ≤ n1 ∧ Hid (Old w wx) ∧ Hid (∀ j, j < i → ∀ k, k < 6 → C j k = D j k)) (fun iv _ => n1 - (intOf iv).toNat)
    case atStart => exact ⟨0, rfl, Nat.zero_le _, Old.refl _, fun j hj => by omega⟩
    case round =>
      obtain ⟨i, rfl, hi, HO, HJ⟩ := hrel
      by_cases hlt : i < n1
      · rcases HX.out with h0 | ⟨bx, ox, hqx, _, hrx⟩
        · omega
        rcases HY.out with h0 | ⟨by_, oy, hqy, _, hry⟩
        · omega
        have HLx : Hid (∀ wx, Old wr wx → (loadVar 74 ⟨bx, ox + i * 6, none⟩).run Tryz.prog wx = .ok (bx6 (C i)) wx) := fun wx ho => box_load8 wx bx _ _ fun k hk => (HO.out.trans ho).cellOf (hrx i hlt k hk).1
        have HLy : Hid (∀ wx, Old wr wx → (loadVar 74 ⟨by_, oy + i * 6, none⟩).run Tryz.prog wx = .ok (bx6 (D i)) wx) := fun wx ho => box_load8 wx by_ _ _ fun k hk => (HO.out.trans ho).cellOf (hry i hlt k hk).1
        clear hrx hry
        subst hqx hqy
        cases he : eqb6 (C i) (D i) with
        | true =>
          have HM : Hid (∀ k, k < 6 → C i k = D i k) := eqb6_iff.1 he
          have HE : Hid ((!(eqb6 (C i) (D i))) = false) := by unfold Hid; rw [he]; rfl
          clear he
          go_upto_region 6 with fail
          refine wp_region_tab 9 [.k (.slice (some ⟨bx, ox, none⟩) n1 c1), .k (.int .i64 (i : Int)), .k (.pointer (some ⟨bx, ox + i * 6, none⟩)), .k (bx6 (C i)), .k (.slice (some ⟨by_, oy, none⟩) n1 c2), .k (.int .i64 (i : Int)), .k (.pointer (some ⟨by_, oy + i * 6, none⟩)), .k (bx6 (D i)), .k (.bool false)] (Old wr) (by kernel_rfl) (by kernel_rfl) rfl ((Old.refl _).drew) ?st ?_
          case st =>
            refine .c stp <|
              .c stp <|
              .c (stj (n := n1) (c := c1) 6 hlt Tryz.underlying26) <|
              .c (stlv HLx.out) <|
              .c stp <|
              .c stp <|
              .c (stj (n := n1) (c := c2) 6 hlt Tryz.underlying26) <|
              .c (stlv HLy.out) <|
              .c (stnb (C i) (D i) HE.out) .n
          intro t wz hR hk
          simp only [fill, Ent.val, List.set_cons_zero, List.set_cons_succ, List.drop_succ_cons, List.drop_zero, List.drop_nil]
          have HO2 : Hid (Old w wz) := HO.out.trans hR
          clear hR hk
          go_wp2_with fail
          go_roundw
          case rel => exact ⟨i + 1, idx_next i, by omega, HO2, upto_succ HJ.out HM.out⟩
          case measure => simp [intOf]; omega
        | false =>
          have HN : Hid (samB n1 n1 C D = false) := no_of fun hc => by have := eqb6_iff.2 ((samB_iff.1 hc).2 i hlt); rw [he] at this; cases this
          have HE : Hid ((!(eqb6 (C i) (D i))) = true) := by unfold Hid; rw [he]; rfl
          clear he
          go_upto_region 6 with fail
          refine wp_region_tab 9 [.k (.slice (some ⟨bx, ox, none⟩) n1 c1), .k (.int .i64 (i : Int)), .k (.pointer (some ⟨bx, ox + i * 6, none⟩)), .k (bx6 (C i)), .k (.slice (some ⟨by_, oy, none⟩) n1 c2), .k (.int .i64 (i : Int)), .k (.pointer (some ⟨by_, oy + i * 6, none⟩)), .k (bx6 (D i)), .k (.bool true)] (Old wr) (by kernel_rfl) (by kernel_rfl) rfl ((Old.refl _).drew) ?st ?_
          case st =>
            refine .c stp <|
              .c stp <|
              .c (stj (n := n1) (c := c1) 6 hlt Tryz.underlying26) <|
              .c (stlv HLx.out) <|
              .c stp <|
              .c stp <|
              .c (stj (n := n1) (c := c2) 6 hlt Tryz.underlying26) <|
              .c (stlv HLy.out) <|
              .c (stnb (C i) (D i) HE.out) .n
          intro t wz hR hk
          simp only [fill, Ent.val, List.set_cons_zero, List.set_cons_succ, List.drop_succ_cons, List.drop_zero, List.drop_nil]
          have HO2 : Hid (Old w wz) := HO.out.trans hR
          clear hR hk
          go_wp2_with fail
          go_ret
          exact ⟨ret_bool HN.out.symm, HO2.out⟩
      · have he : n1 = i := by omega
        subst he
        have HN : Hid (samB n1 n1 C D = true) := samB_iff.2 ⟨rfl, HJ.out⟩
        go_wp2_with fail
        go_ret
        exact ⟨ret_bool HN.out.symm, HO.out⟩
  · have HN : Hid (samB n1 n2 C D = false) := no_of fun hc => hn (samB_iff.1 hc).1
    have k1 : ¬ (n1 : Int) = (n2 : Int) := by omega
    go_enter Tryz.func17, Tryz.ntmps17
    go_wp2_with fail
    go_ret
    exact ⟨ret_bool HN.out.symm, Old.refl _⟩

end Go.Proofs.YtlnmjbbpenhdbaaGreat

namespace Go.Proofs.YtlnmjbbpenhdbaaGreat
open Go.RowKit
set_option linter.unusedSimpArgs false
set_option linter.unusedVariables false

set_option maxRecDepth 100000 in
set_option maxHeartbeats 16000000 in
theorem law8_mixes (P Q G H : Int) (a : Option Addr) (m cap : Nat) (N A : Nat → Int) (FA : Nat → Option Addr) (RL RC : Nat → Nat) (RF : Nat → Nat → Int) (label : List Int) (y : Int) (bi : Option Addr) (l ci : Nat) (C : Nat → Nat → Int) (bo : Option Addr) (no co : Nat) (O : Nat → Int) (bρ : Option Addr) (nρ cρ : Nat) (Rh : Nat → Nat → Int) (bR : Option Addr) (nR cR : Nat) (R : Nat → Int) (bS : Option Addr) (nS cS : Nat) (S : Nat → Int) (bT : Option Addr) (nT cT : Nat) (T : Nat → Int) (bD : Option Addr) (nD cD : Nat) (D : Nat → Int) (w : World) (h4 : Four P Q G H) (_hcap : m ≤ cap) (hin : RowsIn w a m N A FA RL RC RF) (hlb : Bts label) (hy : U64 y) (hC : BoxsIn w bi l C) (hO : IntsIn w bo no O) (hρ : RhoIn w bρ nρ Rh) (hR : FacsIn w bR nR R) (hS : FacsIn w bS nS S) (hcT : nT ≤ cT ∧ cT ≤ 9223372036854775807) (hT : FacsIn w bT nT T) (hcD : nD ≤ cD ∧ cD ≤ 9223372036854775807) (hD : FacsIn w bD nD D) :
    Calls Tryz.prog 3 #[gv P Q G H a m cap, jv label y bi l ci bo no co bρ nρ cρ bR nR cR bS nS cS bT nT cT bD nD cD] w (Ret w (.bool true)) := by
  have HA : Hid (∀ wx, Calls Tryz.prog 12 #[] wx (Ret wx (.bool true))) := fun wx => awake8_any wx
  have HU : Hid (∀ wx, Old w wx → Calls Tryz.prog 13 #[gv P Q G H a m cap] wx fun e w' => e = .returned (.bool (fewB RL m && rightI P Q G H N A RF RL m)) ∧ Old wx w') := fun wx ho => group5_any P Q G H a m cap N A FA RL RC RF wx h4 (hin.old ho)
  have HL : Hid (∀ wx, Calls Tryz.prog 14 #[jv label y bi l ci bo no co bρ nρ cρ bR nR cR bS nS cS bT nT cT bD nD cD] wx (Ret wx (.bool (fewJ label.length l no nρ nR nS nT nD)))) := fun wx => few8_any label y bi l ci bo no co bρ nρ cρ bR nR cR bS nS cS bT nT cT bD nD cD wx
  have ha := hin.a0
  have HZ := lain2 w (gc P Q G H a m cap) (jvc label y bi l ci bo no co bρ nρ cρ bR nR cR bS nS cS bT nT cT bD nD cD) 25 33
  have HG0 := fun w' ho => (HZ.then (W' := w') ho).row 0 (by simp)
  have HJ0 := fun w' ho => (HZ.then (W' := w') ho).row 1 (by simp)
  have HW0 : Hid (Old w ((w.alloc (.cells (gc P Q G H a m cap) 25)).alloc (.cells (jvc label y bi l ci bo no co bρ nρ cρ bR nR cR bS nS cS bT nT cT bD nD cD) 33))) := HZ.old
  clear HZ hin
  go_enter Tryz.func3, Tryz.ntmps3
  go_upto_region 1 with fail
  generalize ((w.alloc (.cells (gc P Q G H a m cap) 25)).alloc (.cells (jvc label y bi l ci bo no co bρ nρ cρ bR nR cR bS nS cS bT nT cT bD nD cD) 33)) = W at *
  have HG : Hid (∀ wx, Old W wx → wx.heap[w.heap.size]? = some (.cells (gc P Q G H a m cap) 25 (0, 0))) := HG0
  have HJ : Hid (∀ wx, Old W wx → wx.heap[w.heap.size + 1]? = some (.cells (jvc label y bi l ci bo no co bρ nρ cρ bR nR cR bS nS cS bT nT cT bD nD cD) 33 (0, 0))) := HJ0
  clear HG0 HJ0
  obtain ⟨gb, hgb⟩ : ∃ gb, gb = w.heap.size := ⟨_, rfl⟩
  rw [← hgb] at HG HJ
  rw [← hgb]
  clear hgb
  have HGc : Hid (∀ wx, Old W wx → wx.cell? ⟨gb, 0, none⟩ = some (.int .u64 P) ∧ wx.cell? ⟨gb, 1, none⟩ = some (.int .u64 Q) ∧ wx.cell? ⟨gb, 2, none⟩ = some (.int .u64 G) ∧ wx.cell? ⟨gb, 3, none⟩ = some (.int .u64 H) ∧ wx.cell? ⟨gb, 4, none⟩ = some (.slice a m cap)) := fun wx ho => ⟨cell_of_row _ _ 0 _ _ (0, 0) (HG.out _ ho), cell_of_row _ _ 1 _ _ (0, 0) (HG.out _ ho), cell_of_row _ _ 2 _ _ (0, 0) (HG.out _ ho), cell_of_row _ _ 3 _ _ (0, 0) (HG.out _ ho), cell_of_row _ _ 4 _ _ (0, 0) (HG.out _ ho)⟩
  have HJc : Hid (∀ wx, Old W wx → wx.cell? ⟨gb + 1, 0, none⟩ = some (.string (strOfNums label)) ∧ wx.cell? ⟨gb + 1, 1, none⟩ = some (.int .u64 y) ∧ wx.cell? ⟨gb + 1, 2, none⟩ = some (.slice bi l ci) ∧ wx.cell? ⟨gb + 1, 3, none⟩ = some (.slice bo no co) ∧ wx.cell? ⟨gb + 1, 4, none⟩ = some (.slice bρ nρ cρ) ∧ wx.cell? ⟨gb + 1, 5, none⟩ = some (.slice bR nR cR) ∧ wx.cell? ⟨gb + 1, 6, none⟩ = some (.slice bS nS cS) ∧ wx.cell? ⟨gb + 1, 7, none⟩ = some (.slice bT nT cT) ∧ wx.cell? ⟨gb + 1, 8, none⟩ = some (.slice bD nD cD)) := fun wx ho => ⟨cell_of_row _ _ 0 _ _ (0, 0) (HJ.out _ ho), cell_of_row _ _ 1 _ _ (0, 0) (HJ.out _ ho), cell_of_row _ _ 2 _ _ (0, 0) (HJ.out _ ho), cell_of_row _ _ 3 _ _ (0, 0) (HJ.out _ ho), cell_of_row _ _ 4 _ _ (0, 0) (HJ.out _ ho), cell_of_row _ _ 5 _ _ (0, 0) (HJ.out _ ho), cell_of_row _ _ 6 _ _ (0, 0) (HJ.out _ ho), cell_of_row _ _ 7 _ _ (0, 0) (HJ.out _ ho), cell_of_row _ _ 8 _ _ (0, 0) (HJ.out _ ho)⟩
  go_upto_region 3 with (go_at_call 12; refine (HA.out _).mono ?_; rintro e w1 ⟨rfl, h1⟩)
  have HO1 : Hid (Old W w1) := h1
  clear h1 HA
  obtain ⟨g0, g1, g2, g3, g4⟩ := HGc.out _ HO1.out
  cases hg : (fewB RL m && rightI P Q G H N A RF RL m)
  · rw [hg] at HU
    clear hg ha h4 hC hO hρ hR hS hT hD
    go_wp2_with (go_at_call 13; refine (HU.out _ (HW0.out.trans HO1.out)).mono ?_; rintro e w3 ⟨rfl, o3⟩)
    go_ret
    exact ⟨rfl, (HW0.out.trans HO1.out).trans o3⟩
  have hg' := (Bool.and_eq_true_iff.1 hg).2
  have hr := right_righ ha hg'
  have hh := right_h hg'
  rw [hg] at HU
  clear hg hg' ha
  cases hf : fewJ label.length l no nρ nR nS nT nD
  · rw [hf] at HL
    clear hf h4 hC hO hρ hR hS hT hD hr
    go_wp2_with (first
      | (go_at_call 13; refine (HU.out _ (HW0.out.trans HO1.out)).mono ?_; rintro e w3 ⟨rfl, o3⟩; obtain ⟨j0, j1, j2, j3, j4, j5, j6, j7, j8⟩ := HJc.out _ (HO1.out.trans o3))
      | (go_at_call 14; refine (HL.out _).mono ?_; rintro e w4 ⟨rfl, o4⟩))
    go_ret
    exact ⟨rfl, ((HW0.out.trans HO1.out).trans o3).trans o4⟩
  rw [hf] at HL
  obtain ⟨⟨hll, ml, mo⟩, mρ, mR, mS, mT, mD⟩ := fewJ_iff.1 hf
  clear hf
  cases hm : mixB P Q y l C no O nρ with
  | false =>
    have HMx : Hid (∀ wx, Old w wx → Calls Tryz.prog 15 #[gv P Q G H a m cap, .int .u64 y, .slice bi l ci, .slice bo no co, .slice bρ nρ cρ] wx fun e w' => Old wx w' ∧ ∃ b, e = .returned (.tuple #[.slice b 0 0, .bool false]) ∧ BoxF w' b 0 (mixC P Q G y C O Rh)) := fun wx ho => (smix_any P Q G H a m cap y bi l ci C bo no co O bρ nρ cρ Rh wx h4 hr hy (by omega) (by omega) (by omega) (hC.old ho) (hO.old ho) (hρ.old ho)).mono fun e w' h => by rw [hm] at h; exact h
    have HRm : Hid (∀ wx, Old w wx → Calls Tryz.prog 16 #[gv P Q G H a m cap, .int .u64 y, .slice bi l ci, .slice bo no co, .slice bρ nρ cρ] wx fun e w' => Old wx w' ∧ ∃ b c, e = .returned (.tuple #[.slice b 0 c, .bool false]) ∧ BoxF w' b 0 (mixC P Q G y C O Rh)) := fun wx ho => (rmix8_any P Q G H a m cap y bi l ci C bo no co O bρ nρ cρ Rh wx h4 hr hy (by omega) (by omega) (by omega) (hC.old ho) (hO.old ho) (hρ.old ho)).mono fun e w' h => by rw [hm] at h; exact h
    have HSa : Hid (∀ wx b c b' c', BoxF wx b 0 (mixC P Q G y C O Rh) → BoxF wx b' 0 (mixC P Q G y C O Rh) → Calls Tryz.prog 17 #[.slice b 0 c, .slice b' 0 c'] wx (Ret wx (.bool true))) := fun wx b c b' c' h1 h2 => by
      have h := rsame8_any b 0 c (mixC P Q G y C O Rh) b' 0 c' (mixC P Q G y C O Rh) wx (by omega) h1.boxs h2.boxs
      rw [samB_iff.2 ⟨rfl, fun _ _ _ _ => rfl⟩] at h
      exact h
    clear hm h4 hC hO hρ hR hS hT hD hr
    generalize (mixC P Q G y C O Rh) = M at *
    go_upto_region 5 with (first
      | (go_at_call 13; refine (HU.out _ (HW0.out.trans HO1.out)).mono ?_; rintro e w3 ⟨rfl, o3⟩; obtain ⟨j0, j1, j2, j3, j4, j5, j6, j7, j8⟩ := HJc.out _ (HO1.out.trans o3))
      | (go_at_call 14; refine (HL.out _).mono ?_; rintro e w4 ⟨rfl, o4⟩))
    have HO4 : Hid (Old W w4) := (HO1.out.trans o3).trans o4
    clear o3 o4 HU HL HO1 g0 g1 g2 g3 g4 j0 j1 j2 j3 j4 j5 j6 j7 j8
    obtain ⟨g0, g1, g2, g3, g4⟩ := HGc.out _ HO4.out
    obtain ⟨j0, j1, j2, j3, j4, j5, j6, j7, j8⟩ := HJc.out _ HO4.out
    go_upto_region 6 with (go_at_call 15; refine (HMx.out _ (HW0.out.trans HO4.out)).mono ?_; rintro e w5 ⟨o5, b1, rfl, hb1⟩)
    clear g0 g1 g2 g3 g4 j0 j1 j2 j3 j4 j5 j6 j7 j8
    have HO5 : Hid (Old W w5) := HO4.out.trans o5
    have HB1 : Hid (BoxF w5 b1 0 M) := hb1
    clear hb1 o5 HMx
    obtain ⟨g0, g1, g2, g3, g4⟩ := HGc.out _ HO5.out
    obtain ⟨j0, j1, j2, j3, j4, j5, j6, j7, j8⟩ := HJc.out _ HO5.out
    go_upto_region 7 with (go_at_call 16; refine (HRm.out _ (HW0.out.trans HO5.out)).mono ?_; rintro e w6 ⟨o6, b2, c2, rfl, hb2⟩)
    clear g0 g1 g2 g3 g4 j0 j1 j2 j3 j4 j5 j6 j7 j8
    have HO6 : Hid (Old W w6) := HO5.out.trans o6
    have HB1' : Hid (BoxF w6 b1 0 M) := HB1.out.old o6
    have HB2 : Hid (BoxF w6 b2 0 M) := hb2
    clear hb2 o6 HRm HB1
    go_wp2_with (go_at_call 17; refine (HSa.out _ _ _ _ _ HB1'.out HB2.out).mono ?_; rintro e w7 ⟨rfl, o7⟩)
    go_ret
    exact ⟨rfl, (HW0.out.trans HO6.out).trans o7⟩
  | true =>
    have HMx : Hid (∀ wx, Old w wx → Calls Tryz.prog 15 #[gv P Q G H a m cap, .int .u64 y, .slice bi l ci, .slice bo no co, .slice bρ nρ cρ] wx fun e w' => Old wx w' ∧ ∃ b, e = .returned (.tuple #[.slice b l l, .bool true]) ∧ BoxF w' b l (mixC P Q G y C O Rh)) := fun wx ho => (smix_any P Q G H a m cap y bi l ci C bo no co O bρ nρ cρ Rh wx h4 hr hy (by omega) (by omega) (by omega) (hC.old ho) (hO.old ho) (hρ.old ho)).mono fun e w' h => by rw [hm] at h; exact h
    have HRm : Hid (∀ wx, Old w wx → Calls Tryz.prog 16 #[gv P Q G H a m cap, .int .u64 y, .slice bi l ci, .slice bo no co, .slice bρ nρ cρ] wx fun e w' => Old wx w' ∧ ∃ b c, e = .returned (.tuple #[.slice b l c, .bool true]) ∧ BoxF w' b l (mixC P Q G y C O Rh)) := fun wx ho => (rmix8_any P Q G H a m cap y bi l ci C bo no co O bρ nρ cρ Rh wx h4 hr hy (by omega) (by omega) (by omega) (hC.old ho) (hO.old ho) (hρ.old ho)).mono fun e w' h => by rw [hm] at h; exact h
    have HSa : Hid (∀ wx b c b' c', BoxF wx b l (mixC P Q G y C O Rh) → BoxF wx b' l (mixC P Q G y C O Rh) → Calls Tryz.prog 17 #[.slice b l c, .slice b' l c'] wx (Ret wx (.bool true))) := fun wx b c b' c' h1 h2 => by
      have h := rsame8_any b l c (mixC P Q G y C O Rh) b' l c' (mixC P Q G y C O Rh) wx (by omega) h1.boxs h2.boxs
      rw [samB_iff.2 ⟨rfl, fun _ _ _ _ => rfl⟩] at h
      exact h
    clear hm h4 hC hO hρ hR hS hT hD hr
    generalize (mixC P Q G y C O Rh) = M at *
    go_upto_region 5 with (first
      | (go_at_call 13; refine (HU.out _ (HW0.out.trans HO1.out)).mono ?_; rintro e w3 ⟨rfl, o3⟩; obtain ⟨j0, j1, j2, j3, j4, j5, j6, j7, j8⟩ := HJc.out _ (HO1.out.trans o3))
      | (go_at_call 14; refine (HL.out _).mono ?_; rintro e w4 ⟨rfl, o4⟩))
    have HO4 : Hid (Old W w4) := (HO1.out.trans o3).trans o4
    clear o3 o4 HU HL HO1 g0 g1 g2 g3 g4 j0 j1 j2 j3 j4 j5 j6 j7 j8
    obtain ⟨g0, g1, g2, g3, g4⟩ := HGc.out _ HO4.out
    obtain ⟨j0, j1, j2, j3, j4, j5, j6, j7, j8⟩ := HJc.out _ HO4.out
    go_upto_region 6 with (go_at_call 15; refine (HMx.out _ (HW0.out.trans HO4.out)).mono ?_; rintro e w5 ⟨o5, b1, rfl, hb1⟩)
    clear g0 g1 g2 g3 g4 j0 j1 j2 j3 j4 j5 j6 j7 j8
    have HO5 : Hid (Old W w5) := HO4.out.trans o5
    have HB1 : Hid (BoxF w5 b1 l M) := hb1
    clear hb1 o5 HMx
    obtain ⟨g0, g1, g2, g3, g4⟩ := HGc.out _ HO5.out
    obtain ⟨j0, j1, j2, j3, j4, j5, j6, j7, j8⟩ := HJc.out _ HO5.out
    go_upto_region 7 with (go_at_call 16; refine (HRm.out _ (HW0.out.trans HO5.out)).mono ?_; rintro e w6 ⟨o6, b2, c2, rfl, hb2⟩)
    clear g0 g1 g2 g3 g4 j0 j1 j2 j3 j4 j5 j6 j7 j8
    have HO6 : Hid (Old W w6) := HO5.out.trans o6
    have HB1' : Hid (BoxF w6 b1 l M) := HB1.out.old o6
    have HB2 : Hid (BoxF w6 b2 l M) := hb2
    clear hb2 o6 HRm HB1
    go_wp2_with (go_at_call 17; refine (HSa.out _ _ _ _ _ HB1'.out HB2.out).mono ?_; rintro e w7 ⟨rfl, o7⟩)
    go_ret
    exact ⟨rfl, (HW0.out.trans HO6.out).trans o7⟩

end Go.Proofs.YtlnmjbbpenhdbaaGreat

namespace Go.Proofs.YtlnmjbbpenhdbaaGreat
open Go.RowKit Go.ChangeShapes Go.WideShapes Go.Deep

section
variable {H : Type} {enc : TypeId × Value → H} {P : Program} {w : World}

theorem cell_lt {b off : Nat} {v : Value} (h : w.cell? ⟨b, off, none⟩ = some v) : b < w.heap.size := by
  refine Classical.byContradiction fun hc => ?_
  have : w.heap[b]? = none := by simp; omega
  simp [World.cell?, this] at h

theorem open_facs {t e : TypeId} {fuel : Nat} {v : Value} {x : DataW H × List MemPlace} (ht : P.underlying t = some (.slice e)) (he : P.underlying e = some (.int .u64)) (hc : P.cellsOf e = 1)
    (h : DataW.trod enc P w 0 (fun _ => true) true fuel t [v] = some x) : ∃ (a : Option Addr) (L C : Nat) (F : Nat → Int), v = .slice a L C ∧ L ≤ C ∧ C ≤ maxLen ∧ FacsIn w a L F := by
  rcases open_ints ht he hc h with ⟨hcs, _⟩ | ⟨a, len, cap, zs, hcs, _, hl, hm, hz, _, hcell, hwz⟩
  · exact ⟨none, 0, 0, fun _ => 0, by simpa using hcs, Nat.le_refl _, Nat.zero_le _, Or.inl rfl⟩
  · simp only [if_true] at hz
    refine ⟨some a, len, cap, fun j => zs.getD j 0, by simpa using hcs, hl, hm, ?_⟩
    by_cases h0 : len = 0
    · exact Or.inl h0
    · obtain ⟨b, off, rfl, hc'⟩ := ints_at hcell (by omega)
      refine Or.inr ⟨b, off, rfl, cell_lt (hc' 0 (by omega)), fun j hj => ⟨hc' j (by omega), ?_⟩⟩
      have hj' : j < zs.length := by omega
      have e : zs.getD j 0 = zs[j] := by simp [List.getD, hj']
      show 0 ≤ zs.getD j 0 ∧ zs.getD j 0 ≤ 18446744073709551615
      rw [e]
      exact bounds_u64 (hwz _ (List.getElem_mem hj'))

theorem open_rows {t e u s : TypeId} {f0 f1 f2 : Field} (ht : P.underlying t = some (.slice e)) (he : P.underlying e = some (.struct #[f0, f1, f2])) (hu : P.underlying u = some (.int .u64)) (hs : P.underlying s = some (.slice u))
    (o0 : f0.offset = 0) (o1 : f1.offset = 1) (o2 : f2.offset = 2) (t0 : f0.type = u) (t1 : f1.type = u) (t2 : f2.type = s) (ce : P.cellsOf e = 3) (cu : P.cellsOf u = 1) (cs : P.cellsOf s = 1)
    {a : Option Addr} {n cap : Nat} {d : DataW H} {p : List MemPlace} (h : DataW.Trod enc P w 0 (fun _ => true) true t (.slice a n cap) d p) :
    n ≤ cap ∧ ∃ (N A : Nat → Int) (FA : Nat → Option Addr) (L C : Nat → Nat) (F : Nat → Nat → Int), RowsIn w a n N A FA L C F := by
  obtain ⟨fuel, hf⟩ := h
  rcases open_slice ht hf with ⟨hcs, _⟩ | ⟨a', len, cap', m, k, D, Pl, hcs, _, hl, hm, hmm, _, hx⟩
  · simp [Value.cells] at hcs
    obtain ⟨rfl, rfl, rfl⟩ := hcs
    exact ⟨Nat.le_refl _, fun _ => 0, fun _ => 0, fun _ => none, fun _ => 0, fun _ => 0, fun _ _ => 0, Or.inl rfl⟩
  simp [Value.cells] at hcs
  obtain ⟨rfl, rfl, rfl⟩ := hcs
  simp only [if_true] at hmm
  subst hmm
  refine ⟨hl, ?_⟩
  by_cases h0 : n = 0
  · exact ⟨fun _ => 0, fun _ => 0, fun _ => none, fun _ => 0, fun _ => 0, fun _ _ => 0, Or.inl h0⟩
  rw [ce] at hx
  -- the address is a plain one
  obtain ⟨b, off, spot⟩ := a'
  have hspot : spot = none := by
    obtain ⟨cs0, hc0, _⟩ := hx 0 (by omega)
    obtain ⟨_, hlen, hcell⟩ := World.cells?_some hc0
    have g := hcell 0 (by omega)
    have : ∃ v, cs0[0]? = some v := ⟨cs0[0], by simp⟩
    obtain ⟨v, hv⟩ := this
    rw [hv] at g
    simpa [Addr.add] using World.cell?_spot g
  subst hspot
  have each : ∀ i, i < m → ∃ y : Int × Int × Option Addr × Nat × Nat × (Nat → Int), RowAt w b (off + i * 3) y.1 y.2.1 y.2.2.1 y.2.2.2.1 y.2.2.2.2.1 y.2.2.2.2.2 := by
    intro i hi
    obtain ⟨cs', h1, h2⟩ := hx i hi
    obtain ⟨_, hlen, hcell⟩ := World.cells?_some h1
    obtain ⟨y0, y1, y2, k', _, _, g0, g1, g2⟩ := trod_struct3 he h2
    match cs', hlen with
    | [v0, v1, v2], _ =>
      simp [o0, o1, o2, t0, t1, t2, cu, cs] at g0 g1 g2
      obtain ⟨x0, e0, _, w0⟩ := DataW.trod_int hu g0
      obtain ⟨x1, e1, _, w1⟩ := DataW.trod_int hu g1
      obtain ⟨fa, L, C, F, e2, hL, hC, hF⟩ := open_facs hs hu cu g2
      simp at e0 e1
      subst e0 e1 e2
      have c0 := hcell 0 (by omega)
      have c1 := hcell 1 (by omega)
      have c2 := hcell 2 (by omega)
      simp only [add_plain] at c0 c1 c2
      have b0 := bounds_u64 w0
      have b1 := bounds_u64 w1
      exact ⟨(x0, x1, fa, L, C, F), by simpa using c0, by simpa using c1, by simpa using c2, b0.1, b0.2, b1.1, b1.2, hL, hC, hF⟩
  obtain ⟨y, hy⟩ := choose_lt each
  refine ⟨fun i => (y i).1, fun i => (y i).2.1, fun i => (y i).2.2.1, fun i => (y i).2.2.2.1, fun i => (y i).2.2.2.2.1, fun i => (y i).2.2.2.2.2, Or.inr ⟨b, off, rfl, cell_lt (hy 0 (by omega)).c0, fun i hi => hy i (by omega)⟩⟩

end
end Go.Proofs.YtlnmjbbpenhdbaaGreat

namespace Go.Proofs.YtlnmjbbpenhdbaaGreat
open Go.RowKit Go.ChangeShapes Go.WideShapes Go.Deep

section
variable {H : Type} {enc : TypeId × Value → H} {P : Program} {w : World}

theorem trod_struct5 {t : TypeId} {f0 f1 f2 f3 f4 : Field} {fuel : Nat} {cs : List Value} {x : DataW H × List MemPlace} (ht : P.underlying t = some (.struct #[f0, f1, f2, f3, f4])) (h : DataW.trod enc P w 0 (fun _ => true) true fuel t cs = some x) :
    ∃ y0 y1 y2 y3 y4 n, cs.length = P.cellsOf t ∧ DataW.trod enc P w 0 (fun _ => true) true n f0.type ((cs.drop f0.offset).take (P.cellsOf f0.type)) = some y0 ∧
      DataW.trod enc P w 0 (fun _ => true) true n f1.type ((cs.drop f1.offset).take (P.cellsOf f1.type)) = some y1 ∧ DataW.trod enc P w 0 (fun _ => true) true n f2.type ((cs.drop f2.offset).take (P.cellsOf f2.type)) = some y2 ∧
      DataW.trod enc P w 0 (fun _ => true) true n f3.type ((cs.drop f3.offset).take (P.cellsOf f3.type)) = some y3 ∧ DataW.trod enc P w 0 (fun _ => true) true n f4.type ((cs.drop f4.offset).take (P.cellsOf f4.type)) = some y4 := by
  obtain ⟨xs, n, _, rfl, hl, hlen, hf⟩ := DataW.trod_struct ht h
  match xs, hlen with
  | [y0, y1, y2, y3, y4], _ => exact ⟨y0, y1, y2, y3, y4, n, hl, by simpa using hf 0 f0 rfl, by simpa using hf 1 f1 rfl, by simpa using hf 2 f2 rfl, by simpa using hf 3 f3 rfl, by simpa using hf 4 f4 rfl⟩

theorem open_params {t u r e s : TypeId} {f0 f1 f2 f3 f4 g0 g1 g2 : Field} (ht : P.underlying t = some (.struct #[f0, f1, f2, f3, f4])) (hu : P.underlying u = some (.int .u64)) (hr : P.underlying r = some (.slice e))
    (he : P.underlying e = some (.struct #[g0, g1, g2])) (hs : P.underlying s = some (.slice u)) (o0 : f0.offset = 0) (o1 : f1.offset = 1) (o2 : f2.offset = 2) (o3 : f3.offset = 3) (o4 : f4.offset = 4)
    (t0 : f0.type = u) (t1 : f1.type = u) (t2 : f2.type = u) (t3 : f3.type = u) (t4 : f4.type = r) (p0 : g0.offset = 0) (p1 : g1.offset = 1) (p2 : g2.offset = 2) (s0 : g0.type = u) (s1 : g1.type = u) (s2 : g2.type = s)
    (ct : P.cellsOf t = 5) (ce : P.cellsOf e = 3) (cu : P.cellsOf u = 1) (cr : P.cellsOf r = 1) (cs : P.cellsOf s = 1) {v : Value} {d : DataW H} {p : List MemPlace} (h : DataW.Trod enc P w 0 (fun _ => true) true t v d p) :
    ∃ (p q g k : Int) (a : Option Addr) (n cap : Nat), v = gv p q g k a n cap ∧ Four p q g k ∧ n ≤ cap ∧ ∃ (N A : Nat → Int) (FA : Nat → Option Addr) (L C : Nat → Nat) (F : Nat → Nat → Int), RowsIn w a n N A FA L C F := by
  obtain ⟨fuel, hf⟩ := h
  obtain ⟨y0, y1, y2, y3, y4, m, hl, k0, k1, k2, k3, k4⟩ := trod_struct5 ht hf
  rw [ct] at hl
  cases v with
  | agg c =>
    obtain ⟨l⟩ := c
    match l, hl with
    | [v0, v1, v2, v3, v4], _ =>
      simp [Value.cells, o0, o1, o2, o3, o4, t0, t1, t2, t3, t4, cu, cr] at k0 k1 k2 k3 k4
      obtain ⟨x0, e0, _, w0⟩ := DataW.trod_int hu k0
      obtain ⟨x1, e1, _, w1⟩ := DataW.trod_int hu k1
      obtain ⟨x2, e2, _, w2⟩ := DataW.trod_int hu k2
      obtain ⟨x3, e3, _, w3⟩ := DataW.trod_int hu k3
      simp at e0 e1 e2 e3
      subst e0 e1 e2 e3
      have hv4 : ∃ a n cap, v4 = .slice a n cap := by
        rcases open_slice hr k4 with ⟨hcs, _⟩ | ⟨a', len, cap', _, _, _, _, hcs, _⟩
        · exact ⟨none, 0, 0, by simpa using hcs⟩
        · exact ⟨some a', len, cap', by simpa using hcs⟩
      obtain ⟨a, n, cap, rfl⟩ := hv4
      have ko : DataW.Trod enc P w 0 (fun _ => true) true r (.slice a n cap) y4.1 y4.2 := ⟨m, by simpa [Value.cells] using k4⟩
      obtain ⟨hcap, N, A, FA, L, C, F, hin⟩ := open_rows hr he hu hs p0 p1 p2 s0 s1 s2 ce cu cs ko
      have b0 := bounds_u64 w0
      have b1 := bounds_u64 w1
      have b2 := bounds_u64 w2
      have b3 := bounds_u64 w3
      exact ⟨x0, x1, x2, x3, a, n, cap, rfl, ⟨b0.1, b0.2, b1.1, b1.2, b2.1, b2.2, b3.1, b3.2⟩, hcap, N, A, FA, L, C, F, hin⟩
  | _ => simp [Value.cells] at hl

end
end Go.Proofs.YtlnmjbbpenhdbaaGreat

namespace Go.Proofs.YtlnmjbbpenhdbaaGreat
open Go.RowKit Go.ChangeShapes Go.WideShapes Go.Deep

section
variable {H : Type} {enc : TypeId × Value → H} {P : Program} {w : World}

theorem open_u64 {e : TypeId} (he : P.underlying e = some (.int .u64)) {m : Nat} {c : Value} {y : DataW H × List MemPlace} (h : DataW.trod enc P w 0 (fun _ => true) true m e [c] = some y) : ∃ x : Int, c = .int .u64 x ∧ U64 x := by
  obtain ⟨x, hx, _, hw⟩ := DataW.trod_int he h
  simp at hx
  exact ⟨x, hx, (bounds_u64 hw).1, (bounds_u64 hw).2⟩

/-- A pair's cells. -/
theorem pair_cells {t u : TypeId} {f0 f1 : Field} (ht : P.underlying t = some (.struct #[f0, f1])) (hu : P.underlying u = some (.int .u64)) (o0 : f0.offset = 0) (o1 : f1.offset = 1) (t0 : f0.type = u) (t1 : f1.type = u) (ct : P.cellsOf t = 2) (cu : P.cellsOf u = 1) {fuel : Nat} {cs : List Value} {x : DataW H × List MemPlace} (h : DataW.trod enc P w 0 (fun _ => true) true fuel t cs = some x) :
    ∃ x y : Int, cs = [.int .u64 x, .int .u64 y] ∧ U64 x ∧ U64 y := by
  obtain ⟨xs, n, _, rfl, hl, hlen, hf⟩ := DataW.trod_struct ht h
  rw [ct] at hl
  have g0 := hf 0 f0 rfl
  have g1 := hf 1 f1 rfl
  have hlen : xs.length = 2 := hlen
  rw [List.getElem?_eq_getElem (by omega)] at g0 g1
  match cs, hl with
  | [a, b], _ =>
    simp [o0, o1, t0, t1, cu] at g0 g1
    obtain ⟨x, rfl, bx⟩ := open_u64 hu g0
    obtain ⟨y, rfl, by_⟩ := open_u64 hu g1
    exact ⟨x, y, rfl, bx, by_⟩
end
end Go.Proofs.YtlnmjbbpenhdbaaGreat

namespace Go.Proofs.YtlnmjbbpenhdbaaGreat
open Go.RowKit Go.ChangeShapes Go.WideShapes Go.Deep

section
variable {H : Type} {enc : TypeId × Value → H} {P : Program} {w : World}

theorem open_str {st : TypeId} (hst : P.underlying st = some .string) {m : Nat} {c : Value} {y : DataW H × List MemPlace} (h : DataW.trod enc P w 0 (fun _ => true) true m st [c] = some y) : ∃ lab : List Int, c = .string (strOfNums lab) ∧ Bts lab := by
  obtain ⟨s, hs, _, _⟩ := DataW.trod_string hst h
  simp at hs
  subst hs
  exact ⟨numsOf s, by rw [numsOf_str], numsOf_bd s⟩

theorem arr3_cells {t e : TypeId} (ht : P.underlying t = some (.array 3 e)) (he : P.underlying e = some (.int .u64)) (hc : P.cellsOf e = 1) (hk : P.cellsOf t = 3) {fuel : Nat} {cs : List Value} {x : DataW H × List MemPlace} (h : DataW.trod enc P w 0 (fun _ => true) true fuel t cs = some x) :
    ∃ x y z : Int, cs = [.int .u64 x, .int .u64 y, .int .u64 z] ∧ U64 x ∧ U64 y ∧ U64 z := by
  obtain ⟨xs, m, _, _, hl, hlx, hi⟩ := DataW.trod_array ht h
  rw [hk] at hl
  have g0 := hi 0 (by omega)
  have g1 := hi 1 (by omega)
  have g2 := hi 2 (by omega)
  rw [hc, List.getElem?_eq_getElem (by omega)] at g0 g1 g2
  match cs, hl with
  | [a, b, c], _ =>
    simp at g0 g1 g2
    obtain ⟨x, rfl, bx⟩ := open_u64 he g0
    obtain ⟨y, rfl, by_⟩ := open_u64 he g1
    obtain ⟨z, rfl, bz⟩ := open_u64 he g2
    exact ⟨x, y, z, rfl, bx, by_, bz⟩
end
end Go.Proofs.YtlnmjbbpenhdbaaGreat

namespace Go.Proofs.YtlnmjbbpenhdbaaGreat
set_option linter.unusedVariables false
open Go.RowKit Go.ChangeShapes Go.WideShapes Go.Deep

section
variable {H : Type} {enc : TypeId × Value → H} {P : Program} {w : World}

/-- A list of elements of sz whole numbers each. -/
theorem open_nums8 {t e : TypeId} {sz : Nat} (mk : Int → Value) (Bd : Int → Prop) (hsz : 0 < sz) (ht : P.underlying t = some (.slice e)) (ce : P.cellsOf e = sz)
    (dec : ∀ (fuel : Nat) (cs : List Value) (x : DataW H × List MemPlace), DataW.trod enc P w 0 (fun _ => true) true fuel e cs = some x → ∃ F : Nat → Int, ∀ k, k < sz → cs[k]? = some (mk (F k)) ∧ Bd (F k))
    {fuel : Nat} {v : Value} {x : DataW H × List MemPlace} (h : DataW.trod enc P w 0 (fun _ => true) true fuel t [v] = some x) :
    ∃ (a : Option Addr) (n cap : Nat) (F : Nat → Nat → Int), v = .slice a n cap ∧ n ≤ cap ∧ cap ≤ 9223372036854775807 ∧ (n = 0 ∨ ∃ b off, a = some ⟨b, off, none⟩ ∧ b < w.heap.size ∧ ∀ j, j < n → ∀ k, k < sz → w.cell? ⟨b, off + j * sz + k, none⟩ = some (mk (F j k)) ∧ Bd (F j k)) := by
  rcases open_slice ht h with ⟨hcs, _⟩ | ⟨a', len, cap', m, k, D, Pl, hcs, _, hl, hm, hmm, _, hx⟩
  · exact ⟨none, 0, 0, fun _ _ => 0, by simpa using hcs, Nat.le_refl _, Nat.zero_le _, Or.inl rfl⟩
  simp only [if_true] at hmm
  subst hmm
  unfold maxLen at hm
  have hv : v = .slice (some a') len m := by simpa using hcs
  by_cases h0 : len = 0
  · exact ⟨some a', len, m, fun _ _ => 0, hv, hl, by omega, Or.inl h0⟩
  rw [ce] at hx
  obtain ⟨b, off, spot⟩ := a'
  have hspot : spot = none := by
    obtain ⟨cs0, hc0, _⟩ := hx 0 (by omega)
    obtain ⟨_, hlen, hcell⟩ := World.cells?_some hc0
    have g := hcell 0 (by omega)
    have : ∃ v, cs0[0]? = some v := ⟨cs0[0], by simp⟩
    obtain ⟨v, hv⟩ := this
    rw [hv] at g
    simpa [Addr.add] using World.cell?_spot g
  subst hspot
  have each : ∀ i, i < m → ∃ y : Nat → Int, ∀ k, k < sz → w.cell? ⟨b, off + i * sz + k, none⟩ = some (mk (y k)) ∧ Bd (y k) := by
    intro i hi
    obtain ⟨cs', h1, h2⟩ := hx i hi
    obtain ⟨_, hlen, hcell⟩ := World.cells?_some h1
    obtain ⟨F, hF⟩ := dec _ _ _ h2
    refine ⟨F, fun k hk => ⟨?_, (hF k hk).2⟩⟩
    have c0 := hcell k (by omega)
    simp only [add_plain] at c0
    rw [c0]
    exact (hF k hk).1
  obtain ⟨y, hy⟩ := choose_lt each
  exact ⟨some ⟨b, off, none⟩, len, m, y, hv, hl, by omega, Or.inr ⟨b, off, rfl, cell_lt (hy 0 (by omega) 0 hsz).1, fun i hi => hy i (by omega)⟩⟩

theorem open_boxes8 {t e p u : TypeId} {f0 f1 : Field} (ht : P.underlying t = some (.slice e)) (he : P.underlying e = some (.array 3 p)) (hp : P.underlying p = some (.struct #[f0, f1])) (hu : P.underlying u = some (.int .u64)) (o0 : f0.offset = 0) (o1 : f1.offset = 1) (t0 : f0.type = u) (t1 : f1.type = u) (ce : P.cellsOf e = 6) (cp : P.cellsOf p = 2) (cu : P.cellsOf u = 1)
    {fuel : Nat} {v : Value} {x : DataW H × List MemPlace} (h : DataW.trod enc P w 0 (fun _ => true) true fuel t [v] = some x) :
    ∃ (a : Option Addr) (n cap : Nat) (C : Nat → Nat → Int), v = .slice a n cap ∧ n ≤ cap ∧ cap ≤ 9223372036854775807 ∧ BoxsIn w a n C :=
  open_nums8 (.int .u64) U64 (by omega) ht ce (fun fuel cs x h => by
    obtain ⟨xs, n, _, _, hl, hlx, hi⟩ := DataW.trod_array he h
    rw [ce] at hl
    have g0 := hi 0 (by omega)
    have g1 := hi 1 (by omega)
    have g2 := hi 2 (by omega)
    rw [cp, List.getElem?_eq_getElem (by omega)] at g0 g1 g2
    match cs, hl with
    | [a, b, c, d', e', f'], _ =>
      simp at g0 g1 g2
      obtain ⟨x0, y0, e0, a0, b0⟩ := pair_cells hp hu o0 o1 t0 t1 cp cu g0
      obtain ⟨x1, y1, e1, a1, b1⟩ := pair_cells hp hu o0 o1 t0 t1 cp cu g1
      obtain ⟨x2, y2, e2, a2, b2⟩ := pair_cells hp hu o0 o1 t0 t1 cp cu g2
      simp at e0 e1 e2
      obtain ⟨rfl, rfl⟩ := e0
      obtain ⟨rfl, rfl⟩ := e1
      obtain ⟨rfl, rfl⟩ := e2
      refine ⟨fun k => [x0, y0, x1, y1, x2, y2].getD k 0, fun k hk => ?_⟩
      match k, hk with
      | 0, _ => exact ⟨rfl, a0⟩
      | 1, _ => exact ⟨rfl, b0⟩
      | 2, _ => exact ⟨rfl, a1⟩
      | 3, _ => exact ⟨rfl, b1⟩
      | 4, _ => exact ⟨rfl, a2⟩
      | 5, _ => exact ⟨rfl, b2⟩) h
theorem open_rhos8 {t e u : TypeId} (ht : P.underlying t = some (.slice e)) (he : P.underlying e = some (.array 3 u)) (hu : P.underlying u = some (.int .u64)) (ce : P.cellsOf e = 3) (cu : P.cellsOf u = 1)
    {fuel : Nat} {v : Value} {x : DataW H × List MemPlace} (h : DataW.trod enc P w 0 (fun _ => true) true fuel t [v] = some x) :
    ∃ (a : Option Addr) (n cap : Nat) (R : Nat → Nat → Int), v = .slice a n cap ∧ n ≤ cap ∧ cap ≤ 9223372036854775807 ∧ RhoIn w a n R :=
  open_nums8 (.int .u64) U64 (by omega) ht ce (fun fuel cs x h => by
    obtain ⟨a, b, c, rfl, h0, h1, h2⟩ := arr3_cells he hu cu ce h
    refine ⟨fun k => [a, b, c].getD k 0, fun k hk => ?_⟩
    match k, hk with
    | 0, _ => exact ⟨rfl, h0⟩
    | 1, _ => exact ⟨rfl, h1⟩
    | 2, _ => exact ⟨rfl, h2⟩) h
theorem open_order8 {t e : TypeId} (ht : P.underlying t = some (.slice e)) (he : P.underlying e = some (.int .i64)) (ce : P.cellsOf e = 1)
    {fuel : Nat} {v : Value} {x : DataW H × List MemPlace} (h : DataW.trod enc P w 0 (fun _ => true) true fuel t [v] = some x) :
    ∃ (a : Option Addr) (n cap : Nat) (O : Nat → Int), v = .slice a n cap ∧ n ≤ cap ∧ cap ≤ 9223372036854775807 ∧ IntsIn w a n O := by
  obtain ⟨a, n, cap, F, e1, q1, q2, hF⟩ := open_nums8 (.int .i64) (fun x => -9223372036854775808 ≤ x ∧ x ≤ 9223372036854775807) (by omega) ht ce (fun fuel cs x h => by
    obtain ⟨x, hx, _, hw⟩ := DataW.trod_int he h
    subst hx
    refine ⟨fun _ => x, fun k hk => ?_⟩
    have : k = 0 := by omega
    subst this
    exact ⟨rfl, (bounds_i64 hw).1, (bounds_i64 hw).2⟩) h
  refine ⟨a, n, cap, fun j => F j 0, e1, q1, q2, ?_⟩
  rcases hF with h0 | ⟨b, off, ha, hb, hc⟩
  · exact Or.inl h0
  · exact Or.inr ⟨b, off, ha, hb, fun j hj => by have := hc j hj 0 (by omega); rwa [Nat.mul_one, Nat.add_zero] at this⟩
theorem open_nats8 {t u : TypeId} (ht : P.underlying t = some (.slice u)) (hu : P.underlying u = some (.int .u64)) (cu : P.cellsOf u = 1) {fuel : Nat} {v : Value} {x : DataW H × List MemPlace} (h : DataW.trod enc P w 0 (fun _ => true) true fuel t [v] = some x) :
    ∃ (a : Option Addr) (n cap : Nat) (F : Nat → Int), v = .slice a n cap ∧ n ≤ cap ∧ cap ≤ 9223372036854775807 ∧ FacsIn w a n F := by
  obtain ⟨a, n, cap, F, e, q1, q2, hF⟩ := open_facs ht hu cu h
  unfold maxLen at q2
  exact ⟨a, n, cap, F, e, q1, by omega, hF⟩
/-- What is known of draws that came in. -/
def DrawsIn (w : World) (bρ : Option Addr) (nρ cρ : Nat) (Rh : Nat → Nat → Int) (bR : Option Addr) (nR cR : Nat) (R : Nat → Int) (bS : Option Addr) (nS cS : Nat) (S : Nat → Int) (bT : Option Addr) (nT cT : Nat) (T : Nat → Int) (bD : Option Addr) (nD cD : Nat) (D : Nat → Int) : Prop :=
  RhoIn w bρ nρ Rh ∧ FacsIn w bR nR R ∧ FacsIn w bS nS S ∧ (nT ≤ cT ∧ cT ≤ 9223372036854775807) ∧ FacsIn w bT nT T ∧ (nD ≤ cD ∧ cD ≤ 9223372036854775807) ∧ FacsIn w bD nD D
theorem draws_cells {t r ar s u : TypeId} {f0 f1 f2 f3 f4 : Field} (ht : P.underlying t = some (.struct #[f0, f1, f2, f3, f4])) (hr : P.underlying r = some (.slice ar)) (har : P.underlying ar = some (.array 3 u)) (hs : P.underlying s = some (.slice u)) (hu : P.underlying u = some (.int .u64)) (o0 : f0.offset = 0) (o1 : f1.offset = 1) (o2 : f2.offset = 2) (o3 : f3.offset = 3) (o4 : f4.offset = 4) (t0 : f0.type = r) (t1 : f1.type = s) (t2 : f2.type = s) (t3 : f3.type = s) (t4 : f4.type = s) (ct : P.cellsOf t = 5) (cr : P.cellsOf r = 1) (car : P.cellsOf ar = 3) (cs1 : P.cellsOf s = 1) (cu : P.cellsOf u = 1) {fuel : Nat} {cs : List Value} {x : DataW H × List MemPlace} (h : DataW.trod enc P w 0 (fun _ => true) true fuel t cs = some x) :
    ∃ bρ nρ cρ Rh bR nR cR R bS nS cS S bT nT cT T bD nD cD D, cs = [.slice bρ nρ cρ, .slice bR nR cR, .slice bS nS cS, .slice bT nT cT, .slice bD nD cD] ∧ DrawsIn w bρ nρ cρ Rh bR nR cR R bS nS cS S bT nT cT T bD nD cD D := by
  obtain ⟨xs, n, _, _, hl, hlen, hf⟩ := DataW.trod_struct ht h
  rw [ct] at hl
  have g0 := hf 0 f0 rfl
  have g1 := hf 1 f1 rfl
  have g2 := hf 2 f2 rfl
  have g3 := hf 3 f3 rfl
  have g4 := hf 4 f4 rfl
  have hlen : xs.length = 5 := hlen
  rw [List.getElem?_eq_getElem (by omega)] at g0 g1 g2 g3 g4
  match cs, hl with
  | [a, b, c, d, e], _ =>
    simp [o0, o1, o2, o3, o4, t0, t1, t2, t3, t4, cr, cs1] at g0 g1 g2 g3 g4
    obtain ⟨bρ, nρ, cρ, Rh, rfl, _, _, h0⟩ := open_rhos8 hr har hu car cu g0
    obtain ⟨bR, nR, cR, R, rfl, _, _, h1⟩ := open_nats8 hs hu cu g1
    obtain ⟨bS, nS, cS, S, rfl, _, _, h2⟩ := open_nats8 hs hu cu g2
    obtain ⟨bT, nT, cT, T, rfl, p3, q3, h3⟩ := open_nats8 hs hu cu g3
    obtain ⟨bD, nD, cD, D, rfl, p4, q4, h4⟩ := open_nats8 hs hu cu g4
    exact ⟨bρ, nρ, cρ, Rh, bR, nR, cR, R, bS, nS, cS, S, bT, nT, cT, T, bD, nD, cD, D, rfl, h0, h1, h2, ⟨p3, q3⟩, h3, ⟨p4, q4⟩, h4⟩
theorem open_job8 {t st bx e p o ii dt r ar s u : TypeId} {f0 f1 f2 f3 f4 g0 g1 d0 d1 d2 d3 d4 : Field} (ht : P.underlying t = some (.struct #[f0, f1, f2, f3, f4])) (hst : P.underlying st = some .string) (hbx : P.underlying bx = some (.slice e)) (he : P.underlying e = some (.array 3 p)) (hp : P.underlying p = some (.struct #[g0, g1])) (ho : P.underlying o = some (.slice ii)) (hi : P.underlying ii = some (.int .i64)) (hd : P.underlying dt = some (.struct #[d0, d1, d2, d3, d4])) (hr : P.underlying r = some (.slice ar)) (har : P.underlying ar = some (.array 3 u)) (hs : P.underlying s = some (.slice u)) (hu : P.underlying u = some (.int .u64))
    (fo : f0.offset = 0 ∧ f1.offset = 1 ∧ f2.offset = 2 ∧ f3.offset = 3 ∧ f4.offset = 4) (ft : f0.type = st ∧ f1.type = u ∧ f2.type = bx ∧ f3.type = o ∧ f4.type = dt) (go : g0.offset = 0 ∧ g1.offset = 1 ∧ g0.type = u ∧ g1.type = u) (dof : d0.offset = 0 ∧ d1.offset = 1 ∧ d2.offset = 2 ∧ d3.offset = 3 ∧ d4.offset = 4) (dty : d0.type = r ∧ d1.type = s ∧ d2.type = s ∧ d3.type = s ∧ d4.type = s)
    (cc : P.cellsOf t = 9 ∧ P.cellsOf st = 1 ∧ P.cellsOf bx = 1 ∧ P.cellsOf e = 6 ∧ P.cellsOf p = 2 ∧ P.cellsOf o = 1 ∧ P.cellsOf ii = 1 ∧ P.cellsOf dt = 5 ∧ P.cellsOf r = 1 ∧ P.cellsOf ar = 3 ∧ P.cellsOf s = 1 ∧ P.cellsOf u = 1) {v : Value} {d : DataW H} {pl : List MemPlace} (h : DataW.Trod enc P w 0 (fun _ => true) true t v d pl) :
    ∃ (label : List Int) (y : Int) (bi : Option Addr) (l ci : Nat) (C : Nat → Nat → Int) (bo : Option Addr) (no co : Nat) (O : Nat → Int) (bρ : Option Addr) (nρ cρ : Nat) (Rh : Nat → Nat → Int) (bR : Option Addr) (nR cR : Nat) (R : Nat → Int) (bS : Option Addr) (nS cS : Nat) (S : Nat → Int) (bT : Option Addr) (nT cT : Nat) (T : Nat → Int) (bD : Option Addr) (nD cD : Nat) (D : Nat → Int),
      v = jv label y bi l ci bo no co bρ nρ cρ bR nR cR bS nS cS bT nT cT bD nD cD ∧ Bts label ∧ U64 y ∧ BoxsIn w bi l C ∧ IntsIn w bo no O ∧ DrawsIn w bρ nρ cρ Rh bR nR cR R bS nS cS S bT nT cT T bD nD cD D ∧ (l ≤ ci ∧ ci ≤ 9223372036854775807) ∧ (no ≤ co ∧ co ≤ 9223372036854775807) := by
  obtain ⟨m, hm⟩ := h
  obtain ⟨xs, n, _, _, hl, hlen, hf⟩ := DataW.trod_struct ht hm
  rw [cc.1] at hl
  have k0 := hf 0 f0 rfl
  have k1 := hf 1 f1 rfl
  have k2 := hf 2 f2 rfl
  have k3 := hf 3 f3 rfl
  have k4 := hf 4 f4 rfl
  have hlen : xs.length = 5 := hlen
  rw [List.getElem?_eq_getElem (by omega)] at k0 k1 k2 k3 k4
  obtain ⟨o0, o1, o2, o3, o4⟩ := fo
  obtain ⟨t0, t1, t2, t3, t4⟩ := ft
  obtain ⟨_, cst, cbx, ce, cp, co, ci, cdt, cr, car, cs, cu⟩ := cc
  cases v with
  | agg c =>
    obtain ⟨lst⟩ := c
    match lst, hl with
    | [a, b, c, d, e1, e2, e3, e4, e5], _ =>
      simp [Value.cells, o0, o1, o2, o3, o4, t0, t1, t2, t3, t4, cst, cbx, co, cdt, cu] at k0 k1 k2 k3 k4
      obtain ⟨lab, rfl, hb⟩ := open_str hst k0
      obtain ⟨y, rfl, by_⟩ := open_u64 hu k1
      obtain ⟨bi, l, ci2, C, rfl, p2, q2, h2⟩ := open_boxes8 hbx he hp hu go.1 go.2.1 go.2.2.1 go.2.2.2 ce cp cu k2
      obtain ⟨bo, no, co2, O, rfl, p3, q3, h3⟩ := open_order8 ho hi ci k3
      obtain ⟨bρ, nρ, cρ, Rh, bR, nR, cR, R, bS, nS, cS, S, bT, nT, cT, T, bD, nD, cD, D, ecs, hdr⟩ := draws_cells hd hr har hs hu dof.1 dof.2.1 dof.2.2.1 dof.2.2.2.1 dof.2.2.2.2 dty.1 dty.2.1 dty.2.2.1 dty.2.2.2.1 dty.2.2.2.2 cdt cr car cs cu k4
      simp at ecs
      obtain ⟨rfl, rfl, rfl, rfl, rfl⟩ := ecs
      exact ⟨lab, y, bi, l, ci2, C, bo, no, co2, O, bρ, nρ, cρ, Rh, bR, nR, cR, R, bS, nS, cS, S, bT, nT, cT, T, bD, nD, cD, D, rfl, hb, by_, h2, h3, hdr, ⟨p2, q2⟩, ⟨p3, q3⟩⟩
  | _ => simp [Value.cells] at hl
end
end Go.Proofs.YtlnmjbbpenhdbaaGreat
