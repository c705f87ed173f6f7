/-
  What the proof needs, part 9.
-/
import Derived.Test.YtlnmjbbpenhdbaaGreatKp08
import Derived.Lib.AppendZerosOnto
namespace Go.Proofs.YtlnmjbbpenhdbaaGreat
open Tryz
open Tryz renaming underlying3 → U3, underlying29 → U29, underlying127 → U127
set_option linter.unusedSimpArgs false
set_option linter.unusedVariables false
set_option maxRecDepth 100000
set_option maxHeartbeats 32000000
section
open Go.RowKit
def GivF (w : World) (n : Nat) (F : NI) (r : Ending) (w' : World) : Prop := Old w w' /\ ∃ b, w.heap.size <= b /\ r = .returned (.slice (some ⟨b, 0, none⟩) n n) /\ Full w' b n F
def GivL (w : World) (n : Nat) (F : NI) (r : Ending) (w' : World) : Prop := Old w w' /\ ∃ v, r = .returned v /\ Nums w' w.heap.size v n F
theorem GivF.list {w w' : World} {n : Nat} {F : NI} {r : Ending} (h : GivF w n F r w') (hn : n <= 9223372036854775807) : GivL w n F r w' := by
 obtain ⟨ho, b, hb, rfl, hF⟩ := h
 exact ⟨ho, _, rfl, hF.nums hb hn⟩
theorem zfo {w w' : World} (F : NI) (ho : Old w w') : GivL w 0 F (.returned (.slice none 0 0)) w' := ⟨ho, _, rfl, zaD _ _ _⟩
theorem zfy (b : OA) (n cap : Nat) (O : NI) (w : World) (hn : n <= 80) (h : IntsIn w b n O) (h0 : ∀ i, i < n -> 0 <= O i /\ O i < 1000) :
  Calls prog 58 #[.slice b n cap] w (GivF w n (fun i => O i + 1)) := by
 have HX := hid h
 have HB := hid h0
 clear h h0
 obtain ⟨F, hF⟩ : ∃ F : Nat -> Int, F = fun i => O i + 1 := ⟨_, rfl⟩
 rw [<- hF]
 have HF : Hid (∀ i, F i = O i + 1) := fun i => by rw [hF]
 clear hF
 have hmk := zaP n hn
 have HFu := zaC w n F
 have HW0 : Hid (Old w (w.alloc (.cells (madeCells #[Value.int .u64 0] n) 22))) := (Old.refl _).alloc _
 go_enter func58, ntmps58
 go_upto_region 2 with fail
 generalize w.alloc (.cells (madeCells #[Value.int .u64 0] n) 22) = W1 at *
 go_upto_region 3 with fail
 go_loopw [11] (fun iv wx => ∃ i : Nat, iv = .int .i64 (i : Int) /\ i <= n /\ Hid (Full wx w.heap.size n (upTo i F)) /\ Hid (Old w wx)) (fun iv _ => n - (intOf iv).toNat)
 case atStart => exact ⟨0, rfl, Nat.zero_le _, HFu, HW0⟩
 case round =>
  obtain ⟨i, rfl, hi1, HN, HO⟩ := hrel
  by_cases hlt : i < n
  ·rcases HX.out.old HO.out with h0 | ⟨bx, ox, hqx, _, hrx⟩
   ·omega
   have cx := (hrx i hlt).1
   have hb1 := (HB.out i hlt).1
   have hb2 := (HB.out i hlt).2
   clear hrx
   subst hqx
   have HFi := hid (HF.out i)
   have HG0 := hid HN.out.next
   have HG : Hid (Full (wr.setCell ⟨w.heap.size, i, none⟩ (.int .u64 (O i + 1))) w.heap.size n (upTo (i + 1) F)) := by rw [<- HFi.out]; exact HG0
   have HG2 : Hid (Old w (wr.setCell ⟨w.heap.size, i, none⟩ (.int .u64 (O i + 1)))) := HO.out.setCell (p := ⟨w.heap.size, i, none⟩) (Nat.le_refl _) _
   have q0 := HN.out.cell i hlt
   have f0 := HN.out.free i
   clear HG0 HFi
   generalize O i = x at *
   have k1 : IntKind.u64.wrap x = x := by rw [IntKind.wrap_u64]; omega
   have k2 : IntKind.u64.wrap (x + 1) = x + 1 := by rw [IntKind.wrap_u64]; omega
   go_wp2_with fail
   go_roundw
   case rel => exact ⟨i + 1, zab i, by omega, HG, HG2⟩
   case measure => simp [intOf]; omega
  ·have he : n = i := by omega
   subst he
   have HD : Hid (Full wr w.heap.size n F) := HN.out.done
   go_wp2_with fail
   go_ret
   exact ⟨HO.out, w.heap.size, Nat.le_refl _, rfl, HD.out⟩
theorem zbK (P Q G H : Int) (a : OA) (n cap : Nat) (b1 : OA) (n1 c1 : Nat) (X : NI) (w : World) (m1 : n1 <= 80) (h1 : FacsIn w b1 n1 X) :
  Calls prog 74 #[gv P Q G H a n cap, .slice b1 n1 c1] w (GivF w n1 (fun i => addI (X i) 0 Q)) := by
 have HX : Hid (FacsIn w b1 n1 X) := h1
 have HZ := lain1 w (gc P Q G H a n cap) 25
 obtain ⟨F, hF⟩ : ∃ F : Nat -> Int, F = fun k => addI (X k) 0 Q := ⟨_, rfl⟩
 have H1 : Hid (∀ i wx, i < n1 -> Calls prog 71 #[.int .u64 (X i), .int .u64 0, .int .u64 Q] wx fun r w' => r = .returned (.int .u64 (F i)) /\ Old wx w') := fun i wx hi => (zeg (X i) 0 Q wx (h1.u64 i hi).1 (h1.u64 i hi).2 (by decide) (by decide)).mono fun r w' ⟨h, k⟩ => ⟨by rw [h, hF], (Old.refl _).draws k⟩
 rw [<- hF]
 clear hF h1
 have hmk := zaP n1 m1
 go_enter func74, ntmps74
 go_upto_region 1 with fail
 generalize hW : w.alloc (.cells (gc P Q G H a n cap) 25) = W at *
 clear hW
 go_upto_region 2 with fail
 have HFu := zaC W n1 F
 have HWx : Hid (Old W (W.alloc (.cells (madeCells #[Value.int .u64 0] n1) 22))) := (Old.refl W).alloc _
 have hlt0 : W.heap.size < (W.alloc (.cells (madeCells #[Value.int .u64 0] n1) 22)).heap.size := HFu.lt
 generalize W.alloc (.cells (madeCells #[Value.int .u64 0] n1) 22) = W1 at *
 go_upto_region 3 with fail
 go_loopw [13] (fun iv wx => ∃ i : Nat, iv = .int .i64 (i : Int) /\ i <= n1 /\ Hid (Full wx W.heap.size n1 (upTo i F)) /\ Hid (Old W wx)) (fun iv _ => n1 - (intOf iv).toNat)
 case atStart => exact ⟨0, rfl, Nat.zero_le _, HFu, HWx⟩
 case round =>
  obtain ⟨i, rfl, hi1, HN, HW⟩ := hrel
  by_cases hlt : i < n1
  ·rcases HX.out with h0 | ⟨bx, ox, hqx, _, hrx⟩
   ·omega
   have cx := (HZ.old.trans HW.out).cellOf (hrx i hlt).1
   clear hrx
   subst hqx
   have d1 := (HZ.then HW.out).cell 0 1 (by simp) rfl
   simp only [Nat.add_zero] at d1
   have HM : Hid (∀ wx, Calls prog 71 #[.int .u64 (X i), .int .u64 0, .int .u64 Q] wx fun r w' => r = .returned (.int .u64 (F i)) /\ Old wx w') := fun wx => H1.out i wx hlt
   go_wp2_with (go_at_call 71; refine (HM.out _).mono ?_; rintro e w4 ⟨rfl, o4⟩; have h4 : Old W w4 := HW.out.trans o4; have hful := HN.out.old o4; have q0 := hful.cell i hlt; have f0 := hful.free i)
   have HG := hid hful.next
   have HG2 : Hid (Old W (w4.setCell ⟨W.heap.size, i, none⟩ (.int .u64 (F i)))) := h4.setCell (Nat.le_refl _) _
   go_roundw
   case rel => exact ⟨i + 1, zab i, by omega, HG, HG2⟩
   case measure => simp [intOf]; omega
  ·have he : n1 = i := by omega
   subst he
   have HD := hid HN.out.done
   go_wp2_with fail
   go_ret
   exact ⟨HZ.old.trans HW.out, W.heap.size, HZ.old.size, rfl, HD.out⟩
def FulV (w : World) (b n : Nat) (t : TypeId) (V : Nat -> Value) : Prop := w.heap[b]? = some (.cells ((List.range n).map V).toArray t (0, 0))
theorem fulV_made (z : Value) (n : Nat) : madeCells #[z] n = ((List.range n).map fun _ => z).toArray := by
 unfold madeCells
 apply Array.ext
 ·simp
 ·intro i h1 h2
  simp [Nat.mod_one]
theorem fulV_made6 (z : Value) (n : Nat) : madeCells #[z, z, z, z, z, z] n = ((List.range n).map fun _ => z).toArray := by
 unfold madeCells
 apply Array.ext
 ·simp
 ·intro i h1 h2
  simp
  have : i % 6 < 6 := Nat.mod_lt _ (by omega)
  generalize i % 6 = k at this
  match k, this with
  | 0, _ => rfl
  | 1, _ => rfl
  | 2, _ => rfl
  | 3, _ => rfl
  | 4, _ => rfl
  | 5, _ => rfl
theorem FulV.lt {w : World} {b n : Nat} {t : TypeId} {V : Nat -> Value} (h : FulV w b n t V) : b < w.heap.size := (Array.getElem?_eq_some_iff.1 h).1
theorem FulV.old {w w' : World} {b n : Nat} {t : TypeId} {V : Nat -> Value} (h : FulV w b n t V) (ho : Old w w') : FulV w' b n t V := (ho.block b h.lt).trans h
theorem FulV.cell {w : World} {b n : Nat} {t : TypeId} {V : Nat -> Value} (h : FulV w b n t V) (i : Nat) (hi : i < n) : w.cell? ⟨b, i, none⟩ = some (V i) := by
 rw [cell_of_row _ _ i _ _ (0, 0) h]
 simp [hi]
theorem FulV.free {w : World} {b n : Nat} {t : TypeId} {V : Nat -> Value} (h : FulV w b n t V) (i : Nat) : w.frozen? ⟨b, i, none⟩ = false := zac h i
theorem FulV.congr {w : World} {b n : Nat} {t : TypeId} {V U : Nat -> Value} (h : FulV w b n t V) (he : ∀ k, k < n -> V k = U k) : FulV w b n t U := by
 unfold FulV at h ⊢
 rw [h]
 congr 3
 apply List.map_congr_left
 intro k hk
 rw [he k (List.mem_range.1 hk)]
theorem FulV.set {w : World} {b n : Nat} {t : TypeId} {V : Nat -> Value} (h : FulV w b n t V) (i : Nat) (x : Value) : FulV (w.setCell ⟨b, i, none⟩ x) b n t (fun k => if k = i then x else V k) := by
 unfold FulV
 rw [zaq h, List.setIfInBounds_toArray]
 congr 3
 apply List.ext_getElem
 ·simp
 ·intro k h1 h2
  simp only [List.getElem_set, List.getElem_map, List.getElem_range]
  by_cases hk : i = k
  ·subst hk; simp
  ·rw [if_neg hk, if_neg (fun e => hk e.symm)]
theorem fulV_new (w : World) (n : Nat) (t : TypeId) (z : Value) (V : Nat -> Value) (h : ∀ k, k < n -> V k = z) : FulV (w.alloc (.cells (madeCells #[z] n) t)) w.heap.size n t V := by
 unfold FulV
 rw [fulV_made, heap_alloc_last]
 congr 3
 apply List.map_congr_left
 intro k hk
 rw [h k (List.mem_range.1 hk)]
theorem fulV_new6 (w : World) (n : Nat) (t : TypeId) (z : Value) (V : Nat -> Value) (h : ∀ k, k < n -> V k = z) : FulV (w.alloc (.cells (madeCells #[z, z, z, z, z, z] n) t)) w.heap.size n t V := by
 unfold FulV
 rw [fulV_made6, heap_alloc_last]
 congr 3
 apply List.map_congr_left
 intro k hk
 rw [h k (List.mem_range.1 hk)]
def cnt8 (n : Nat) : Bool := decide (1 <= n) && decide (n <= 8)
theorem cnt8_iff {n : Nat} : cnt8 n = true ↔ 1 <= n /\ n <= 8 := by simp [cnt8]
theorem zgn (n : Nat) (w : World) (hn : n <= 9223372036854775807) :
  Calls prog 102 #[.int .i64 (n : Int)] w fun e w' => e = .returned (.bool (cnt8 n)) /\ w' = w := by
 by_cases h1 : 1 <= n
 ·have HE : Hid (cnt8 n = decide (n <= 8)) := by unfold Hid cnt8; simp [h1]
  by_cases h2 : n <= 8
  ·have HE2 : Hid (cnt8 n = true) := HE.out.trans (by simp [h2])
   clear HE
   have k1 : (1 : Int) <= (n : Int) := by omega
   have k2 : (n : Int) <= 8 := by omega
   go_enter func102, ntmps102
   go_wp2_with fail
   go_ret
   exact ⟨zad HE2.out.symm, by first | trivial | rfl⟩
  ·have HE2 : Hid (cnt8 n = false) := HE.out.trans (by simp [h2])
   clear HE
   have k1 : (1 : Int) <= (n : Int) := by omega
   have k2 : ¬ (n : Int) <= 8 := by omega
   go_enter func102, ntmps102
   go_wp2_with fail
   go_ret
   exact ⟨zad HE2.out.symm, by first | trivial | rfl⟩
 ·have HE : Hid (cnt8 n = false) := by unfold Hid cnt8; simp [h1]
  have k1 : ¬ (1 : Int) <= (n : Int) := by omega
  go_enter func102, ntmps102
  go_wp2_with fail
  go_ret
  exact ⟨zad HE.out.symm, by first | trivial | rfl⟩
theorem boolinfo : (prog.info? 4).map (fun i => (i.zero, i.size, i.bytes)) = some (some (.bool false), 1, 1) := by kernel_rfl
def seenB (O : NI) (i k : Nat) : Bool := (List.range i).any fun j => O j == (k : Int)
theorem seenB_iff {O : NI} {i k : Nat} : seenB O i k = true ↔ ∃ j, j < i /\ O j = (k : Int) := by
 simp [seenB]
theorem seenB_succ (O : NI) (i k : Nat) : seenB O (i + 1) k = (seenB O i k || O i == (k : Int)) := by
 unfold seenB
 rw [List.range_succ, List.any_append]
 simp
theorem zfA (b : OA) (n cap : Nat) (O : NI) (w : World) (hn : n <= 1000) (h : IntsIn w b n O) :
  Calls prog 50 #[.slice b n cap] w fun e w' => e = .returned (.bool (ordB n O)) /\ Old w w' := by
 have HX : Hid (IntsIn w b n O) := h
 clear h
 have hmk : ∀ wx, (Instr.makeSlice 127 (.int .i64 (n : Int)) (.int .i64 (n : Int))).run prog wx = .ok (.slice (some ⟨wx.heap.size, 0, none⟩) n n) (wx.alloc (.cells (madeCells #[Value.bool false] n) 4)) := fun wx => run_make_row' (P := prog) 127 4 (.bool false) 1 U127 boolinfo rfl .i64 .i64 n (by omega) (by omega) wx
 have HFu : Hid (FulV (w.alloc (.cells (madeCells #[Value.bool false] n) 4)) w.heap.size n 4 (fun k => .bool (seenB O 0 k))) := fulV_new w n _ (.bool false) _ (fun k _ => rfl)
 have HW0 : Hid (Old w (w.alloc (.cells (madeCells #[Value.bool false] n) 4))) := (Old.refl _).alloc _
 go_enter func50, ntmps50
 go_upto_region 2 with fail
 generalize w.alloc (.cells (madeCells #[Value.bool false] n) 4) = W1 at *
 go_upto_region 3 with fail
 go_loopw [11] (fun iv wx => ∃ i : Nat, iv = .int .i64 (i : Int) /\ i <= n /\ Hid (∀ j, j < i -> 0 <= O j /\ O j < (n : Int)) /\ Hid (∀ c d, c < d -> d < i -> O c ≠ O d) /\ Hid (FulV wx w.heap.size n 4 (fun k => .bool (seenB O i k))) /\ Hid (Old w wx)) (fun iv _ => n - (intOf iv).toNat)
 case atStart => exact ⟨0, rfl, Nat.zero_le _, fun j hj => by omega, fun c d h1 h2 => by omega, HFu, HW0⟩
 case round =>
  obtain ⟨i, rfl, hi1, HB, HD, HF, HO⟩ := hrel
  by_cases hlt : i < n
  ·rcases HX.out.old HO.out with h0 | ⟨bx, ox, hqx, _, hrx⟩
   ·omega
   have cx := (hrx i hlt).1
   have hb1 := (hrx i hlt).2.1
   have hb2 := (hrx i hlt).2.2
   clear hrx
   subst hqx
   obtain ⟨x, hx⟩ : ∃ x, O i = x := ⟨_, rfl⟩
   have HOi : Hid (O i = x) := hx
   rw [hx] at cx hb1 hb2
   clear hx
   by_cases h1 : x < 0
   ·have HN : Hid (ordB n O = false) := no_of fun hc => by
     have := (zaA.1 hc).2.1 i hlt
     rw [HOi.out] at this
     omega
    have k1 : decide (x < 0) = true := by simp [h1]
    go_wp2_with fail
    go_ret
    exact ⟨zad HN.out.symm, HO.out⟩
   by_cases h2 : (n : Int) <= x
   ·have HN : Hid (ordB n O = false) := no_of fun hc => by
     have := (zaA.1 hc).2.1 i hlt
     rw [HOi.out] at this
     omega
    have k1 : decide (x < 0) = false := by simp; omega
    have k2 : decide (x ≥ (n : Int)) = true := by simp; omega
    go_wp2_with fail
    go_ret
    exact ⟨zad HN.out.symm, HO.out⟩
   obtain ⟨k, rfl⟩ : ∃ k : Nat, x = (k : Int) := ⟨x.toNat, by omega⟩
   have hk : k < n := by omega
   have k1 : decide ((k : Int) < 0) = false := by simp
   have k2 : decide ((k : Int) ≥ (n : Int)) = false := by simp; omega
   have k3 : ¬ (n : Int) <= (k : Int) := by omega
   have k4 : (k : Int) < (n : Int) := by omega
   cases hs : seenB O i k with
   | true =>
    have HN : Hid (ordB n O = false) := no_of fun hc => by
     obtain ⟨j, hj, he⟩ := seenB_iff.1 hs
     exact (zaA.1 hc).2.2 j i hj hlt (by rw [he, HOi.out])
    have cs : wr.cell? ⟨w.heap.size, k, none⟩ = some (.bool true) := by rw [<- hs]; exact HF.out.cell k hk
    clear hs
    go_wp2_with fail
    go_ret
    exact ⟨zad HN.out.symm, HO.out⟩
   | false =>
    have HB2 : Hid (∀ j, j < i + 1 -> 0 <= O j /\ O j < (n : Int)) := zav HB.out (by rw [HOi.out]; omega)
    have HD2 : Hid (∀ c d, c < d -> d < i + 1 -> O c ≠ O d) := fun c d hcd hd => by
     by_cases hdi : d = i
     ·subst hdi
      intro he
      rw [HOi.out] at he
      have := seenB_iff.2 ⟨c, hcd, he⟩
      rw [hs] at this
      cases this
     ·exact HD.out c d hcd (by omega)
    have cs : wr.cell? ⟨w.heap.size, k, none⟩ = some (.bool false) := by rw [<- hs]; exact HF.out.cell k hk
    have fs : wr.frozen? ⟨w.heap.size, k, none⟩ = false := HF.out.free k
    have HF2 : Hid (FulV (wr.setCell ⟨w.heap.size, k, none⟩ (.bool true)) w.heap.size n 4 (fun k => .bool (seenB O (i + 1) k))) := (HF.out.set k (.bool true)).congr fun j hj => by
     rw [seenB_succ, HOi.out]
     by_cases hjk : j = k
     ·subst hjk; simp
     ·rw [if_neg hjk]
      have : ((k : Int) == (j : Int)) = false := by simp; omega
      rw [this, Bool.or_false]
    have HO2 : Hid (Old w (wr.setCell ⟨w.heap.size, k, none⟩ (.bool true))) := HO.out.setCell (p := ⟨w.heap.size, k, none⟩) (Nat.le_refl _) _
    clear hs
    go_wp2_with fail
    go_roundw
    case rel => exact ⟨i + 1, zab i, by omega, HB2, HD2, HF2, HO2⟩
    case measure => simp [intOf]; omega
  ·have he : n = i := by omega
   subst he
   by_cases h0 : 0 < n
   ·have HN : Hid (ordB n O = true) := zaA.2 ⟨h0, HB.out, HD.out⟩
    have k1 : (0 : Int) < (n : Int) := by omega
    have k2 : decide ((n : Int) > 0) = true := by simp; omega
    go_wp2_with fail
    go_ret
    exact ⟨zad HN.out.symm, HO.out⟩
   ·have HN : Hid (ordB n O = false) := no_of fun hc => h0 (zaA.1 hc).1
    have k1 : ¬ (0 : Int) < (n : Int) := by omega
    have k2 : decide ((n : Int) > 0) = false := by simp; omega
    go_wp2_with fail
    go_ret
    exact ⟨zad HN.out.symm, HO.out⟩
theorem lanswer_any : Lanswer := by
 intro P Q G H a n cap b1 n1 c1 X b2 n2 c2 Y e w h4 hr he m1 m2 mc1 mc2 h1 h2
 have HX : Hid (FacsIn w b1 n1 X) := h1
 have HY : Hid (FacsIn w b2 n2 Y) := h2
 have HZ := lain1 w (gc P Q G H a n cap) 25
 by_cases hn : n1 = n2
 ·subst hn
  obtain ⟨M, hM⟩ : ∃ M : Nat -> Int, M = fun k => mulI e (X k) Q := ⟨_, rfl⟩
  obtain ⟨F, hF⟩ : ∃ F : Nat -> Int, F = fun k => ansI Q e (X k) (Y k) := ⟨_, rfl⟩
  have H1 : Hid (∀ i wx, i < n1 -> Calls prog 72 #[.int .u64 e, .int .u64 (X i), .int .u64 Q] wx fun r w' => r = .returned (.int .u64 (M i)) /\ Old wx w') := fun i wx hi => (zcU e (X i) Q wx he.1 he.2 (h1.u64 i hi).1 (h1.u64 i hi).2).mono fun r w' ⟨h, k⟩ => ⟨by rw [h, hM], (Old.refl _).draws k⟩
  have H2 : Hid (∀ i wx, i < n1 -> Calls prog 71 #[.int .u64 (Y i), .int .u64 (M i), .int .u64 Q] wx fun r w' => r = .returned (.int .u64 (F i)) /\ Old wx w') := fun i wx hi => (zeg (Y i) (M i) Q wx (h2.u64 i hi).1 (h2.u64 i hi).2 (by rw [hM]; exact (zaI _ _ _).1) (by rw [hM]; exact (zaI _ _ _).2)).mono fun r w' ⟨h, k⟩ => ⟨by rw [h, hF, hM]; rfl, (Old.refl _).draws k⟩
  rw [<- hF]
  clear hF hM he h1 h2 h4 hr
  have hmk := zaP n1 m1
  go_enter func43, ntmps43
  go_upto_region 1 with fail
  generalize hW : w.alloc (.cells (gc P Q G H a n cap) 25) = W at *
  clear hW
  go_upto_region 4 with fail
  have HFu := zaC W n1 F
  have HWx : Hid (Old W (W.alloc (.cells (madeCells #[Value.int .u64 0] n1) 22))) := (Old.refl W).alloc _
  have hlt0 : W.heap.size < (W.alloc (.cells (madeCells #[Value.int .u64 0] n1) 22)).heap.size := HFu.lt
  generalize W.alloc (.cells (madeCells #[Value.int .u64 0] n1) 22) = W1 at *
  go_upto_region 5 with fail
  go_loopw [22] (fun iv wx => ∃ i : Nat, iv = .int .i64 (i : Int) /\ i <= n1 /\ Hid (Full wx W.heap.size n1 (upTo i F)) /\ Hid (Old W wx)) (fun iv _ => n1 - (intOf iv).toNat)
  case atStart => exact ⟨0, rfl, Nat.zero_le _, HFu, HWx⟩
  case round =>
   obtain ⟨i, rfl, hi1, HN, HW⟩ := hrel
   by_cases hlt : i < n1
   ·rcases HX.out with h0 | ⟨bx, ox, hqx, _, hrx⟩
    ·omega
    rcases HY.out with h0 | ⟨by_, oy, hqy, _, hry⟩
    ·omega
    have HT : Hid (∀ w', Old W w' -> w'.cell? ⟨w.heap.size, 1, none⟩ = some (.int .u64 Q) /\ w'.cell? ⟨bx, ox + i, none⟩ = some (.int .u64 (X i)) /\ w'.cell? ⟨by_, oy + i, none⟩ = some (.int .u64 (Y i))) := fun w' ho => ⟨(HZ.then ho).cell 0 1 (by simp) rfl, (HZ.old.trans ho).cellOf (hrx i hlt).1, (HZ.old.trans ho).cellOf (hry i hlt).1⟩
    clear hrx hry
    subst hqx hqy
    obtain ⟨dq, cx, cy⟩ := HT.out _ HW.out
    have HM : Hid (∀ wx, Calls prog 72 #[.int .u64 e, .int .u64 (X i), .int .u64 Q] wx fun r w' => r = .returned (.int .u64 (M i)) /\ Old wx w') := fun wx => H1.out i wx hlt
    have HA : Hid (∀ wx, Calls prog 71 #[.int .u64 (Y i), .int .u64 (M i), .int .u64 Q] wx fun r w' => r = .returned (.int .u64 (F i)) /\ Old wx w') := fun wx => H2.out i wx hlt
    go_upto_region 7 with fail
    go_region_held3 (fun w' => w'.cell? ⟨w.heap.size, 1, none⟩ = some (.int .u64 Q) /\ w'.cell? ⟨bx, ox + i, none⟩ = some (.int .u64 (X i)) /\ w'.cell? ⟨by_, oy + i, none⟩ = some (.int .u64 (Y i))) (first | exact HT.out _ (h5.setCell (Nat.le_refl _) _) | exact HT.out _ h5 | exact HT.out _ h4 | exact HT.out _ HW.out.drew) (first
     | (go_at_call 72; refine (HM.out _).mono ?_; rintro e w4 ⟨rfl, o4⟩; have h4 : Old W w4 := HW.out.drew.trans o4)
     | (go_at_call 71; refine (HA.out _).mono ?_; rintro e w5 ⟨rfl, o5⟩; have h5 : Old W w5 := h4.trans o5; have hful := HN.out.old (((Old.refl wr).drew.trans o4).trans o5); have q0 := hful.cell i hlt; have f0 := hful.free i))
    have HG : Hid (Full (w5.setCell ⟨W.heap.size, i, none⟩ (.int .u64 (F i))) W.heap.size n1 (upTo (i + 1) F)) := hful.next
    have HG2 : Hid (Old W (w5.setCell ⟨W.heap.size, i, none⟩ (.int .u64 (F i)))) := h5.setCell (Nat.le_refl _) _
    go_wp2_with fail
    go_roundw
    case rel => exact ⟨i + 1, zab i, by omega, HG, HG2⟩
    case measure => simp [intOf]; omega
   ·have he : n1 = i := by omega
    subst he
    go_wp2_with fail
    go_ret2
    exact zdg (by simp) (HN.out.done.nums HZ.old.size (by omega)) (HZ.old.trans HW.out)
 ·have k1 : ¬ (n1 : Int) = (n2 : Int) := by omega
  clear he h1 h2 h4 hr
  go_enter func43, ntmps43
  go_wp2_with fail
  go_ret2
  exact zdh (by simp [hn]) ((Old.refl _).alloc _)
def elB (P Q : Int) (n : Nat) (F : NI) : Bool := (List.range n).all fun i => inI P Q (F i)
theorem zaZ {P Q : Int} {n : Nat} {F : NI} : elB P Q n F = true ↔ ∀ i, i < n -> inI P Q (F i) = true := by simp [elB]
def cntB (n : Nat) : Bool := decide (1 <= n) && decide (n <= 64)
theorem cntB_iff {n : Nat} : cntB n = true ↔ 1 <= n /\ n <= 64 := by simp [cntB]
def lensB (nt nb : Nat) (L : Nat -> Nat) : Bool := cntB nt && (decide (nb = nt) && ((List.range nb).all (fun j => decide (L j = L 0)) && cntB (L 0)))
theorem zek {nt nb : Nat} {L : Nat -> Nat} : lensB nt nb L = true ↔ (1 <= nt /\ nt <= 64) /\ nb = nt /\ (∀ j, j < nb -> L j = L 0) /\ 1 <= L 0 /\ L 0 <= 64 := by
 simp [lensB, cntB_iff]
theorem lels_any (P Q G H : Int) (a : OA) (n cap : Nat) (b : OA) (l c : Nat) (F : NI) (w : World) (h4 : Four P Q G H) (hl : l <= 9223372036854775807) (h1 : FacsIn w b l F) :
  Calls prog 97 #[gv P Q G H a n cap, .slice b l c] w fun e w' => e = .returned (.bool (elB P Q l F)) /\ Old w w' := by
 have HX : Hid (FacsIn w b l F) := h1
 have HZ := lain1 w (gc P Q G H a n cap) 25
 have HI : Hid (∀ i wx, i < l -> Calls prog 52 #[gv P Q G H a n cap, .int .u64 (F i)] wx fun e w' => e = .returned (.bool (inI P Q (F i))) /\ Old wx w') := fun i wx hi => gin0 P Q G H (F i) a n cap wx h4.q0 h4.q1 (h1.u64 i hi).2
 clear h4 h1
 go_enter func97, ntmps97
 go_upto_region 1 with fail
 generalize hW : w.alloc (.cells (gc P Q G H a n cap) 25) = W at *
 clear hW
 go_upto_region 2 with fail
 go_loopw [9] (fun iv wx => ∃ i : Nat, iv = .int .i64 (i : Int) /\ i <= l /\ Hid (∀ j, j < i -> inI P Q (F j) = true) /\ Hid (Old W wx)) (fun iv _ => l - (intOf iv).toNat)
 case atStart => exact ⟨0, rfl, Nat.zero_le _, fun j hj => by omega, Old.refl _⟩
 case round =>
  obtain ⟨i, rfl, hi1, HJ, HW⟩ := hrel
  by_cases hlt : i < l
  ·rcases HX.out with h0 | ⟨bx, ox, hqx, _, hrx⟩
   ·omega
   have cx := (HZ.old.trans HW.out).cellOf (hrx i hlt).1
   clear hrx
   subst hqx
   have d0 := (HZ.then HW.out).cell 0 0 (by simp) rfl
   have d1 := (HZ.then HW.out).cell 0 1 (by simp) rfl
   have d2 := (HZ.then HW.out).cell 0 2 (by simp) rfl
   have d3 := (HZ.then HW.out).cell 0 3 (by simp) rfl
   have d4 := (HZ.then HW.out).cell 0 4 (by simp) rfl
   simp only [Nat.add_zero] at d0 d1 d2 d3 d4
   cases hin : inI P Q (F i) with
   | true =>
    have HM : Hid (inI P Q (F i) = true) := hin
    have HC : Hid (∀ wx, Calls prog 52 #[gv P Q G H a n cap, .int .u64 (F i)] wx fun e w' => e = .returned (.bool true) /\ Old wx w') := fun wx => by have := HI.out i wx hlt; rwa [hin] at this
    clear hin
    go_wp2_with (go_at_call 52; refine (HC.out _).mono ?_; rintro e w1 ⟨rfl, o1⟩)
    go_roundw
    case rel => exact ⟨i + 1, zab i, by omega, zav HJ.out HM.out, HW.out.trans o1⟩
    case measure => simp [intOf]; omega
   | false =>
    have HN : Hid (elB P Q l F = false) := no_of fun hc => by have := zaZ.1 hc i hlt; rw [hin] at this; cases this
    have HC : Hid (∀ wx, Calls prog 52 #[gv P Q G H a n cap, .int .u64 (F i)] wx fun e w' => e = .returned (.bool false) /\ Old wx w') := fun wx => by have := HI.out i wx hlt; rwa [hin] at this
    clear hin
    go_wp2_with (go_at_call 52; refine (HC.out _).mono ?_; rintro e w1 ⟨rfl, o1⟩)
    go_ret
    exact ⟨zad HN.out.symm, (HZ.old.trans HW.out).trans o1⟩
  ·have he : l = i := by omega
   subst he
   have HN : Hid (elB P Q l F = true) := zaZ.2 HJ.out
   go_wp2_with fail
   go_ret
   exact ⟨zad HN.out.symm, HZ.old.trans HW.out⟩
theorem zf6 (n : Nat) (w : World) (hn : n <= 9223372036854775807) :
  Calls prog 137 #[.int .i64 (n : Int)] w fun e w' => e = .returned (.bool (cntB n)) /\ w' = w := by
 by_cases h1 : 1 <= n
 ·have HE : Hid (cntB n = decide (n <= 64)) := by unfold Hid cntB; simp [h1]
  by_cases h2 : n <= 64
  ·have HE2 : Hid (cntB n = true) := HE.out.trans (by simp [h2])
   clear HE
   have k1 : (1 : Int) <= (n : Int) := by omega
   have k2 : (n : Int) <= 64 := by omega
   go_enter func137, ntmps137
   go_wp2_with fail
   go_ret
   exact ⟨zad HE2.out.symm, by first | trivial | rfl⟩
  ·have HE2 : Hid (cntB n = false) := HE.out.trans (by simp [h2])
   clear HE
   have k1 : (1 : Int) <= (n : Int) := by omega
   have k2 : ¬ (n : Int) <= 64 := by omega
   go_enter func137, ntmps137
   go_wp2_with fail
   go_ret
   exact ⟨zad HE2.out.symm, by first | trivial | rfl⟩
 ·have HE : Hid (cntB n = false) := by unfold Hid cntB; simp [h1]
  have k1 : ¬ (1 : Int) <= (n : Int) := by omega
  go_enter func137, ntmps137
  go_wp2_with fail
  go_ret
  exact ⟨zad HE.out.symm, by first | trivial | rfl⟩
theorem llens_any (bt : OA) (nt ct : Nat) (T : NI) (bb : OA) (nb cb : Nat) (BA : Nat -> Option Addr) (L C : Nat -> Nat) (B : NN) (w : World) (hcl : ClaimIn w bt nt ct T bb nb cb BA L C B) :
  Calls prog 96 #[cv bt nt ct bb nb cb] w fun e w' => e = .returned (.bool (lensB nt nb L)) /\ Old w w' := by
 have HB : Hid (ListsIn w bb nb BA L C B) := hcl.bas
 have HZ := lain1 w (cc bt nt ct bb nb cb) 50
 have mt : nt <= 9223372036854775807 := Nat.le_trans hcl.tc hcl.tm
 have mb : nb <= 9223372036854775807 := Nat.le_trans hcl.bc hcl.bm
 clear hcl
 have z0 := HZ.cell 0 0 (by simp) rfl
 have z1 := HZ.cell 0 1 (by simp) rfl
 simp only [Nat.add_zero] at z0 z1
 cases ht : cntB nt with
 | false =>
  have HN : Hid (lensB nt nb L = false) := by unfold Hid lensB; simp [ht]
  have HC : Hid (∀ wx, Calls prog 137 #[.int .i64 (nt : Int)] wx fun e w' => e = .returned (.bool false) /\ w' = wx) := fun wx => by have := zf6 nt wx mt; rwa [ht] at this
  clear ht
  go_enter func96, ntmps96
  go_wp2_with (go_at_call 137; refine (HC.out _).mono ?_; rintro e w1 ⟨rfl, rfl⟩)
  go_ret
  exact ⟨zad HN.out.symm, HZ.old⟩
 | true =>
  have HC : Hid (∀ wx, Calls prog 137 #[.int .i64 (nt : Int)] wx fun e w' => e = .returned (.bool true) /\ w' = wx) := fun wx => by have := zf6 nt wx mt; rwa [ht] at this
  have t1 := (cntB_iff.1 ht).1
  by_cases hn : nb = nt
  ·subst hn
   have HE : Hid (lensB nb nb L = ((List.range nb).all (fun j => decide (L j = L 0)) && cntB (L 0))) := by unfold Hid lensB; simp [ht]
   clear ht
   have hB := HB.out
   rcases hB with h0 | ⟨bx, ox, hqx, _, hrx⟩
   ·omega
   have HR : Hid (∀ w' j, Old w w' -> j < nb -> w'.cell? ⟨bx, ox + j, none⟩ = some (.slice (BA j) (L j) (C j)) /\ L j <= 9223372036854775807) := fun w' j ho hj => ⟨ho.cellOf (hrx j hj).1, Nat.le_trans (hrx j hj).2.1 (hrx j hj).2.2.1⟩
   clear hrx
   subst hqx
   have c0 := HR.out _ 0 HZ.old t1
   simp only [Nat.add_zero] at c0
   have m0 := c0.2
   have e0 := c0.1
   clear c0
   have HC2 : Hid (∀ wx, Calls prog 137 #[.int .i64 (L 0 : Int)] wx fun e w' => e = .returned (.bool (cntB (L 0))) /\ w' = wx) := fun wx => zf6 (L 0) wx m0
   generalize hl0 : L 0 = l0 at *
   have HL0 : Hid (L 0 = l0) := hl0
   clear hl0
   generalize hcb : cntB l0 = cl at *
   clear hcb
   have hpos : (0 : Int) < (nb : Int) := by omega
   go_enter func96, ntmps96
   go_upto_region 1 with fail
   generalize hW : w.alloc (.cells (cc bt nb ct (some ⟨bx, ox, none⟩) nb cb) 50) = W at *
   clear hW
   go_upto_region 5 with (go_at_call 137; refine (HC.out _).mono ?_; rintro e w1 ⟨rfl, rfl⟩)
   go_loopw [28] (fun iv wx => ∃ i : Nat, iv = .int .i64 (i : Int) /\ i <= nb /\ Hid (∀ j, j < i -> L j = l0) /\ Hid (Old w wx)) (fun iv _ => nb - (intOf iv).toNat)
   case atStart => exact ⟨0, rfl, Nat.zero_le _, fun j hj => by omega, HZ.old⟩
   case round =>
    obtain ⟨i, rfl, hi1, HJ, HW⟩ := hrel
    by_cases hlt : i < nb
    ·obtain ⟨cx, mx⟩ := HR.out _ i HW.out hlt
     by_cases he : L i = l0
     ·have HM : Hid (L i = l0) := he
      rw [he] at cx
      clear he mx
      go_wp2_with fail
      go_roundw
      case rel => exact ⟨i + 1, zab i, by omega, zav HJ.out HM.out, HW.out⟩
      case measure => simp [intOf]; omega
     ·have k1 : ¬ (L i : Int) = (l0 : Int) := by omega
      have HN : Hid (((List.range nb).all (fun j => decide (L j = l0)) && cl) = false) := no_of fun hc => by
       rw [Bool.and_eq_true] at hc
       have := List.all_eq_true.1 hc.1 i (List.mem_range.2 hlt)
       simp at this
       exact he this
      go_wp2_with fail
      go_ret
      exact ⟨by rw [HE.out]; exact zad HN.out.symm, HW.out⟩
    ·have he : nb = i := by omega
     have HN : Hid (((List.range nb).all (fun j => decide (L j = l0)) && cl) = cl) := by
      have : (List.range nb).all (fun j => decide (L j = l0)) = true := List.all_eq_true.2 fun j hj => by simp [HJ.out j (he ▸ List.mem_range.1 hj)]
      unfold Hid
      rw [this, Bool.true_and]
     subst he
     go_wp2_with (go_at_call 137; refine (HC2.out _).mono ?_; rintro e w1 ⟨rfl, rfl⟩)
     go_ret
     exact ⟨by rw [HE.out, HN.out]; rfl, HW.out⟩
  ·have HN : Hid (lensB nt nb L = false) := by unfold Hid lensB; simp [hn]
   have k1 : ¬ (nb : Int) = (nt : Int) := by omega
   clear ht
   go_enter func96, ntmps96
   go_wp2_with (go_at_call 137; refine (HC.out _).mono ?_; rintro e w1 ⟨rfl, rfl⟩)
   go_ret
   exact ⟨zad HN.out.symm, HZ.old⟩
theorem zdY (P Q G H : Int) (a : OA) (n cap : Nat) (b : OA) (l c : Nat) (F : NI) (w : World) (h4 : Four P Q G H) (hl : l <= 9223372036854775807) (h1 : FacsIn w b l F) :
  Calls prog 103 #[gv P Q G H a n cap, .slice b l c] w fun e w' => e = .returned (.bool (elB P Q l F)) /\ Old w w' := by
 have HX : Hid (FacsIn w b l F) := h1
 have HZ := lain1 w (gc P Q G H a n cap) 25
 have HI : Hid (∀ i wx, i < l -> Calls prog 52 #[gv P Q G H a n cap, .int .u64 (F i)] wx fun e w' => e = .returned (.bool (inI P Q (F i))) /\ Old wx w') := fun i wx hi => gin0 P Q G H (F i) a n cap wx h4.q0 h4.q1 (h1.u64 i hi).2
 clear h4 h1
 go_enter func103, ntmps103
 go_upto_region 1 with fail
 generalize hW : w.alloc (.cells (gc P Q G H a n cap) 25) = W at *
 clear hW
 go_upto_region 2 with fail
 go_loopw [9] (fun iv wx => ∃ i : Nat, iv = .int .i64 (i : Int) /\ i <= l /\ Hid (∀ j, j < i -> inI P Q (F j) = true) /\ Hid (Old W wx)) (fun iv _ => l - (intOf iv).toNat)
 case atStart => exact ⟨0, rfl, Nat.zero_le _, fun j hj => by omega, Old.refl _⟩
 case round =>
  obtain ⟨i, rfl, hi1, HJ, HW⟩ := hrel
  by_cases hlt : i < l
  ·rcases HX.out with h0 | ⟨bx, ox, hqx, _, hrx⟩
   ·omega
   have cx := (HZ.old.trans HW.out).cellOf (hrx i hlt).1
   clear hrx
   subst hqx
   have d0 := (HZ.then HW.out).cell 0 0 (by simp) rfl
   have d1 := (HZ.then HW.out).cell 0 1 (by simp) rfl
   have d2 := (HZ.then HW.out).cell 0 2 (by simp) rfl
   have d3 := (HZ.then HW.out).cell 0 3 (by simp) rfl
   have d4 := (HZ.then HW.out).cell 0 4 (by simp) rfl
   simp only [Nat.add_zero] at d0 d1 d2 d3 d4
   cases hin : inI P Q (F i) with
   | true =>
    have HM : Hid (inI P Q (F i) = true) := hin
    have HC : Hid (∀ wx, Calls prog 52 #[gv P Q G H a n cap, .int .u64 (F i)] wx fun e w' => e = .returned (.bool true) /\ Old wx w') := fun wx => by have := HI.out i wx hlt; rwa [hin] at this
    clear hin
    go_wp2_with (go_at_call 52; refine (HC.out _).mono ?_; rintro e w1 ⟨rfl, o1⟩)
    go_roundw
    case rel => exact ⟨i + 1, zab i, by omega, zav HJ.out HM.out, HW.out.trans o1⟩
    case measure => simp [intOf]; omega
   | false =>
    have HN : Hid (elB P Q l F = false) := no_of fun hc => by have := zaZ.1 hc i hlt; rw [hin] at this; cases this
    have HC : Hid (∀ wx, Calls prog 52 #[gv P Q G H a n cap, .int .u64 (F i)] wx fun e w' => e = .returned (.bool false) /\ Old wx w') := fun wx => by have := HI.out i wx hlt; rwa [hin] at this
    clear hin
    go_wp2_with (go_at_call 52; refine (HC.out _).mono ?_; rintro e w1 ⟨rfl, o1⟩)
    go_ret
    exact ⟨zad HN.out.symm, (HZ.old.trans HW.out).trans o1⟩
  ·have he : l = i := by omega
   subst he
   have HN : Hid (elB P Q l F = true) := zaZ.2 HJ.out
   go_wp2_with fail
   go_ret
   exact ⟨zad HN.out.symm, HZ.old.trans HW.out⟩
theorem cgrow_any (n : Nat) (w : World) (h0 : 0 < n) (hn : n <= 1000) :
  Calls prog 112 #[.slice none 0 0, .int .i64 (n : Int)] w fun e w' => Old w w' /\ ∃ v, e = .returned v /\ Nums w' w.heap.size v 0 (fun _ => 0) := by
 obtain ⟨i0, hi0, hz0, hz1, hz2⟩ := info_parts zbj
 have hrz : ∀ ty, (Builtin.append_ #[29, 3] ty #[.slice none 0 0, .int .i64 (n : Int)]).run prog w = .ok (.slice (some ⟨w.heap.size, 0, none⟩) n (grownCap w n 0 22)) (w.drew.alloc (.cells (#[] ++ Builtin.zeroCells #[.int .u64 0] n ++ Builtin.zeroCells #[.int .u64 0] (grownCap w n 0 22 - n)) 22)) := fun ty => by
  have h := Lib.run_append_grow_zeros (P := prog) w 29 3 ty 22 i0 (.int .u64 0) .i64 .i64 U29 U3 hi0 hz0 none 0 0 [] (run_firstCells_none w.drew _ 0 0 0) n h0 (by rw [hz1]; omega) (by omega) (by omega) (by rw [hz2]; omega) (growslice_fits (by omega) (by rw [hz2]; omega))
  rw [Nat.zero_add] at h
  exact h
 have hGn : n <= grownCap w n 0 22 := by have := grownCap_ge w n 0 22; exact this
 have hGm := grownCap_le_maxLen w n 0 22 (by unfold maxLen; omega)
 obtain ⟨G, hG⟩ : ∃ G, G = grownCap w n 0 22 := ⟨_, rfl⟩
 rw [<- hG] at hrz hGn hGm
 clear hG
 have hnum : Nums (w.drew.alloc (.cells (#[] ++ Builtin.zeroCells #[.int .u64 0] n ++ Builtin.zeroCells #[.int .u64 0] (G - n)) 22)) w.heap.size (.slice (some ⟨w.heap.size, 0, none⟩) 0 G) 0 (fun _ => 0) := World.ownsRow_made w.drew _ G (Nat.le_refl _) hGm (by simp [Builtin.zeroCells]; omega)
 have hold : Old w (w.drew.alloc (.cells (#[] ++ Builtin.zeroCells #[.int .u64 0] n ++ Builtin.zeroCells #[.int .u64 0] (G - n)) 22)) := (Old.refl w).drew.alloc _
 have hG63 : G <= 9223372036854775807 := by unfold maxLen at hGm; omega
 obtain ⟨W1, hW1⟩ : ∃ W1, W1 = w.drew.alloc (.cells (#[] ++ Builtin.zeroCells #[.int .u64 0] n ++ Builtin.zeroCells #[.int .u64 0] (G - n)) 22) := ⟨_, rfl⟩
 rw [<- hW1] at hrz hold hnum
 have HN : Hid (Old w W1 /\ Nums W1 w.heap.size (.slice (some ⟨w.heap.size, 0, none⟩) 0 G) 0 (fun _ => 0)) := ⟨hold, hnum⟩
 clear hold hnum hW1
 go_enter func112, ntmps112
 go_wp2_with (at_builtin; refine Lib.wpList_append_run _ rfl _ _ _ _ rfl _ _ rfl rfl _ _ (hrz _) ?_)
 go_ret
 exact ⟨HN.out.1, _, rfl, HN.out.2⟩
def lenS (L : Nat -> Nat) : Nat -> Nat
 | 0 => 0
 | i + 1 => lenS L i + L i
def catF (L : Nat -> Nat) (B : NN) : Nat -> Nat -> Int
 | 0 => fun _ => 0
 | i + 1 => fun k => if k < lenS L i then catF L B i k else B i (k - lenS L i)
theorem cat_low {L : Nat -> Nat} {B : NN} {i k : Nat} (h : k < lenS L i) : catF L B (i + 1) k = catF L B i k := if_pos h
theorem lenS_le {L : Nat -> Nat} {n : Nat} (h : ∀ j, j < n -> L j <= 100) : ∀ i, i <= n -> lenS L i <= 100 * i
 | 0, _ => Nat.le_refl _
 | i + 1, hi => by
  show lenS L i + L i <= _
  have := lenS_le h i (by omega)
  have := h i (by omega)
  omega
theorem nums_cat {w : World} {base k m : Nat} {v : Value} {F : NI} {G D : NI} (h : w.ownsRow base 22 1 v (k + m) ((List.range k).map (fun i => Value.int .u64 (F i)) ++ (List.range m).map (fun i => Value.int .u64 (D i)))) (h1 : ∀ i, i < k -> G i = F i) (h2 : ∀ i, i < m -> G (k + i) = D i) : Nums w base v (k + m) G := by
 unfold Nums
 have e : (List.range (k + m)).map (fun i => Value.int .u64 (G i)) = (List.range k).map (fun i => Value.int .u64 (F i)) ++ (List.range m).map (fun i => Value.int .u64 (D i)) := by
  rw [List.range_add, List.map_append, List.map_map]
  congr 1
  ·exact List.map_congr_left fun i hi => by rw [h1 i (List.mem_range.1 hi)]
  ·exact List.map_congr_left fun i hi => by show Value.int .u64 (G (k + i)) = _; rw [h2 i (List.mem_range.1 hi)]
 rw [e]
 exact h
theorem concat_any (bb : OA) (nb cb : Nat) (BA : Nat -> Option Addr) (L C : Nat -> Nat) (B : NN) (w : World) (hnb : nb <= 9) (hL : ∀ j, j < nb -> L j <= 100) (hpos : 0 < lenS L nb) (hA : ∀ j, j < nb -> ∃ b o, BA j = some ⟨b, o, none⟩) (hB : ListsIn w bb nb BA L C B) :
  Calls prog 73 #[.slice bb nb cb] w (GivL w (lenS L nb) (catF L B nb)) := by
 have HB := hid hB
 have HL := hid hL
 have HP := hid hpos
 have HA := hid hA
 obtain ⟨i0, hi0, hz0, hz1, hz2⟩ := info_parts zbj
 clear hB hL hpos hA
 go_enter func73, ntmps73
 go_upto_region 3 with fail
 go_loopw [3, 11] (fun sv iv wx => ∃ i : Nat, iv = .int .i64 (i : Int) /\ i <= nb /\ sv = .int .i64 (lenS L i : Nat) /\ Hid (Old w wx)) (fun _ iv _ => nb - (intOf iv).toNat)
 case atStart => exact ⟨0, rfl, Nat.zero_le _, rfl, Old.refl _⟩
 case round =>
  obtain ⟨i, rfl, hi, rfl, HO⟩ := hrel
  by_cases hlt : i < nb
  ·rcases HB.out with h0 | ⟨bx, ox, hqx, _, hrx⟩
   ·omega
   have cx := HO.out.cellOf (hrx i hlt).1
   have l1 := HL.out i hlt
   have l2 := lenS_le HL.out i hi
   have HE : Hid (lenS L (i + 1) = lenS L i + L i) := rfl
   clear hrx
   subst hqx
   generalize L i = Li at *
   generalize hs : lenS L i = Si at *
   have HS := hid HE.out
   clear hs HE
   have k1 : IntKind.i64.wrap ((Si : Int) + (Li : Int)) = ((Si + Li : Nat) : Int) := by rw [IntKind.wrap_i64]; omega
   have k2 : ¬ ((Si + Li : Nat) : Int) < 0 := by omega
   have k3 : wrap64 ((Si : Int) + (Li : Int)) = ((Si + Li : Nat) : Int) := by unfold wrap64; omega
   go_wp2_with fail
   go_roundw
   case rel => exact ⟨i + 1, zab i, by omega, by rw [HS.out]; first | rfl | simp, HO⟩
   case measure => simp [intOf]; omega
  ·have he : nb = i := by omega
   subst he
   have l2 := lenS_le HL.out nb (Nat.le_refl _)
   have HG : Hid (∀ wx, Calls prog 112 #[.slice none 0 0, .int .i64 (lenS L nb : Nat)] wx fun e w' => Old wx w' /\ ∃ v, e = .returned v /\ Nums w' wx.heap.size v 0 (fun _ => 0)) := fun wx => cgrow_any (lenS L nb) wx HP.out (by omega)
   go_upto_region 10 with (go_at_call 112; refine (HG.out _).mono ?_; rintro e w1 ⟨o1, v, rfl, hN⟩; have HN1 : Hid (Nums w1 w.heap.size v 0 (catF L B 0)) := hN.mono HO.out.size; have HO1 : Hid (Old w w1) := HO.out.trans o1; clear hN o1)
   go_upto_region 11 with fail
   go_loopw [6, 27] (fun v iv wx => ∃ i : Nat, iv = .int .i64 (i : Int) /\ i <= nb /\ Hid (Nums wx w.heap.size v (lenS L i) (catF L B i)) /\ Hid (Old w wx)) (fun _ iv _ => nb - (intOf iv).toNat)
   case atStart => exact ⟨0, rfl, Nat.zero_le _, HN1, HO1⟩
   case round =>
    obtain ⟨i, rfl, hi, HN, HO2⟩ := hrel
    by_cases hlt : i < nb
    ·rcases HB.out with h0 | ⟨bx, ox, hqx, _, hrx⟩
     ·omega
     have cx := HO2.out.cellOf (hrx i hlt).1
     have HFi := hid ((hrx i hlt).2.2.2.old HO2.out)
     have l1 := HL.out i hlt
     have l2 := lenS_le HL.out i hi
     clear hrx
     subst hqx
     obtain ⟨ba, oa, hba⟩ := HA.out i hlt
     rw [hba] at cx HFi
     have hnews : ∀ j u, ((List.range (L i)).map (fun k => Value.int .u64 (B i k)))[j]? = some u -> wr.cell? ((⟨ba, oa, none⟩ : Addr).add j) = some u := fun j u hj => by
      have hadd : (⟨ba, oa, none⟩ : Addr).add j = ⟨ba, oa + j, none⟩ := by unfold Addr.add; split <;> simp_all
      rw [hadd]
      rw [List.getElem?_map] at hj
      by_cases hjl : j < L i
      ·rw [List.getElem?_range hjl] at hj
       rcases HFi.out with h0 | ⟨b2, o2, e2, _, h2⟩
       ·omega
       ·cases e2
        simp only [Option.map_some, Option.some.injEq] at hj
        rw [(h2 j hjl).1, hj]
      ·rw [List.getElem?_eq_none (by simpa using hjl)] at hj
       cases hj
     have HNe : Hid (lenS L (i + 1) = lenS L i + L i) := rfl
     have HCe : Hid (∀ k, k < lenS L i -> catF L B (i + 1) k = catF L B i k) := fun k hk => cat_low hk
     have HCf : Hid (∀ k, k < L i -> catF L B (i + 1) (lenS L i + k) = B i k) := fun k hk => by
      show (if lenS L i + k < lenS L i then _ else B i (lenS L i + k - lenS L i)) = _
      rw [if_neg (by omega), Nat.add_sub_cancel_left]
     have HNw := hid hnews
     clear hnews hba HFi
     generalize hG1 : catF L B (i + 1) = G1 at *
     have HG1 := hid hG1
     clear hG1
     generalize catF L B i = G0 at *
     generalize hS1 : lenS L (i + 1) = S1 at *
     generalize lenS L i = S0 at *
     generalize L i = Li at *
     have HN1 := hid hS1
     clear hS1
     go_wp2_with (at_builtin; refine wpList_append_own _ rfl _ _ 29 rfl w.heap.size 22 i0 (.int .u64 0) 1 8 U29 hi0 hz0 hz1 hz2 rfl (by decide) _ _ _ rfl HN.out ⟨ba, oa, none⟩ Li _ ((List.range Li).map (fun k => Value.int .u64 (B i k))) rfl ?c1 HNw.out ?c2 ?c3 ?c4 ?c5 ?_)
     case c1 => simp
     case c2 => intro u hu; simp at hu; obtain ⟨_, _, rfl⟩ := hu; rfl
     case c3 => unfold maxLen; omega
     case c4 => omega
     case c5 => exact HO2.out.size
     intro v' w1 hown' hgrow hne
     have HN3 : Hid (Nums w1 w.heap.size v' S1 G1) := by
      have := nums_cat hown' HCe.out HCf.out
      unfold Hid
      rw [HNe.out]
      exact this
     have HO3 : Hid (Old w w1) := by
      refine HO2.out.grown hgrow fun k hk => (World.ownsRow.lt HN.out k hk).1
     clear hown' hgrow hne
     go_wp2_with fail
     go_roundw
     case rel => exact ⟨i + 1, zab i, by omega, by rw [HN1.out, HG1.out]; exact HN3, HO3⟩
     case measure => simp [intOf]; omega
    ·have he : nb = i := by omega
     subst he
     go_wp2_with fail
     go_ret
     exact ⟨HO2.out, _, rfl, HN.out⟩
theorem size_no_lens {P Q : Int} {nt : Nat} {T : NI} {nb : Nat} {L : Nat -> Nat} {B : NN} (h : lensB nt nb L = false) : sizeN P Q nt T nb L B = 0 :=
 zcb fun hc => by
  obtain ⟨h1, h2, h3, h4, h5, h6⟩ := hc
  have := zek.2 ⟨⟨h1, h2⟩, h3, fun j hj => (zbg.1 h6 j (h3 ▸ hj)).2.1, h4, h5⟩
  rw [h] at this
  cases this
theorem size_no_tar {P Q : Int} {nt : Nat} {T : NI} {nb : Nat} {L : Nat -> Nat} {B : NN} (h : elB P Q nt T = false) : sizeN P Q nt T nb L B = 0 :=
 zcb fun hc => by
  have := zaZ.2 fun j hj => (zbg.1 hc.2.2.2.2.2 j hj).1
  rw [h] at this
  cases this
theorem size_no_row {P Q : Int} {nt : Nat} {T : NI} {nb : Nat} {L : Nat -> Nat} {B : NN} {i : Nat} (hi : i < nb) (h : elB P Q (L i) (B i) = false) : sizeN P Q nt T nb L B = 0 :=
 zcb fun hc => by
  have hr := zbg.1 hc.2.2.2.2.2 i (hc.2.2.1 ▸ hi)
  have : elB P Q (L i) (B i) = true := zaZ.2 fun j hj => hr.2.2 j (hr.2.1 ▸ hj)
  rw [h] at this
  cases this
theorem size_yes {P Q : Int} {nt : Nat} {T : NI} {nb : Nat} {L : Nat -> Nat} {B : NN} (hl : lensB nt nb L = true) (ht : elB P Q nt T = true) (hr : ∀ j, j < nb -> elB P Q (L j) (B j) = true) : sizeN P Q nt T nb L B = L 0 := by
 obtain ⟨⟨h1, h2⟩, h3, h4, h5, h6⟩ := zek.1 hl
 unfold sizeN
 rw [if_pos ⟨h1, h2, h3, h5, h6, zbg.2 fun j hj => ⟨zaZ.1 ht j hj, h4 j (h3 ▸ hj), fun i hi => zaZ.1 (hr j (h3 ▸ hj)) i (by rw [h4 j (h3 ▸ hj)]; exact hi)⟩⟩]
theorem lsize_gen (P Q G H : Int) (a : OA) (n cap : Nat) (bt : OA) (nt ct : Nat) (T : NI) (bb : OA) (nb cb : Nat) (BA : Nat -> Option Addr) (L C : Nat -> Nat) (B : NN) (w : World) (h4 : Four P Q G H) (hcl : ClaimIn w bt nt ct T bb nb cb BA L C B) :
  Calls prog 36 #[gv P Q G H a n cap, cv bt nt ct bb nb cb] w fun e w' => e = .returned (.int .i64 (sizeN P Q nt T nb L B : Nat)) /\ Old w w' := by
 have HZ := lain2 w (gc P Q G H a n cap) (cc bt nt ct bb nb cb) 25 50
 have HT : Hid (∀ w', Old ((w.alloc (.cells (gc P Q G H a n cap) 25)).alloc (.cells (cc bt nt ct bb nb cb) 50)) w' -> G6 w' (w.heap.size) P Q G H (.slice a n cap) (w'.cell? ⟨w.heap.size + 1, 0, none⟩ = some (.slice bt nt ct) /\ w'.cell? ⟨w.heap.size + 1, 1, none⟩ = some (.slice bb nb cb))) := fun w' ho => by
  have h := HZ.then ho
  exact ⟨h.cell 0 0 (by simp) rfl, h.cell 0 1 (by simp) rfl, h.cell 0 2 (by simp) rfl, h.cell 0 3 (by simp) rfl, h.cell 0 4 (by simp) rfl, h.cell 1 0 (by simp) rfl, h.cell 1 1 (by simp) rfl⟩
 have HLn := hid fun wx (ho : Old w wx) => llens_any bt nt ct T bb nb cb BA L C B wx (hcl.old ho)
 have HTa := hid fun wx (ho : Old w wx) => lels_any P Q G H a n cap bt nt ct T wx h4 (Nat.le_trans hcl.tc hcl.tm) (hcl.tar.old ho)
 have HB := hid hcl.bas
 have HRo : Hid (∀ i wx, Old w wx -> i < nb -> Calls prog 97 #[gv P Q G H a n cap, .slice (BA i) (L i) (C i)] wx fun e w' => e = .returned (.bool (elB P Q (L i) (B i))) /\ Old wx w') := fun i wx ho hi => by
  rcases HB.out with h0 | ⟨bx, ox, hqx, _, hrx⟩
  ·omega
  exact lels_any P Q G H a n cap (BA i) (L i) (C i) (B i) wx h4 (Nat.le_trans (hrx i hi).2.1 (hrx i hi).2.2.1) ((hrx i hi).2.2.2.old ho)
 have mb : nb <= 9223372036854775807 := Nat.le_trans hcl.bc hcl.bm
 clear h4 hcl
 cases hl : lensB nt nb L with
 | false =>
  have HN : Hid (sizeN P Q nt T nb L B = 0) := size_no_lens hl
  rw [hl] at HLn
  clear hl
  go_enter func36, ntmps36
  go_upto_region 1 with fail
  have HW0 := hid HZ.old
  generalize hW : (w.alloc (.cells (gc P Q G H a n cap) 25)).alloc (.cells (cc bt nt ct bb nb cb) 50) = W at *
  clear hW
  obtain ⟨d0, d1, d2, d3, d4, z0, z1⟩ := HT.out _ (Old.refl _)
  go_wp2_with (go_at_call 96; refine (HLn.out _ HW0.out).mono ?_; rintro e w1 ⟨rfl, o1⟩)
  go_ret
  exact ⟨by rw [HN.out]; rfl, HW0.out.trans o1⟩
 | true =>
  cases ht : elB P Q nt T with
  | false =>
   have HN : Hid (sizeN P Q nt T nb L B = 0) := size_no_tar ht
   rw [hl] at HLn
   rw [ht] at HTa
   clear hl ht
   go_enter func36, ntmps36
   go_upto_region 1 with fail
   have HW0 := hid HZ.old
   generalize hW : (w.alloc (.cells (gc P Q G H a n cap) 25)).alloc (.cells (cc bt nt ct bb nb cb) 50) = W at *
   clear hW
   obtain ⟨d0, d1, d2, d3, d4, z0, z1⟩ := HT.out _ (Old.refl _)
   go_wp2_with (first
    | (go_at_call 96; refine (HLn.out _ HW0.out).mono ?_; rintro e w1 ⟨rfl, o1⟩; obtain ⟨d0, d1, d2, d3, d4, z0, z1⟩ := HT.out _ o1)
    | (go_at_call 97; refine (HTa.out _ (HW0.out.trans o1)).mono ?_; rintro e w2 ⟨rfl, o2⟩))
   go_ret
   exact ⟨by rw [HN.out]; rfl, (HW0.out.trans o1).trans o2⟩
  | true =>
   have HY : Hid ((∀ j, j < nb -> elB P Q (L j) (B j) = true) -> sizeN P Q nt T nb L B = L 0) := fun hr => size_yes hl ht hr
   have hpos : 0 < nb := by have := zek.1 hl; omega
   have hposI : (0 : Int) < (nb : Int) := by omega
   rw [hl] at HLn
   rw [ht] at HTa
   clear hl ht
   have hB := HB.out
   rcases hB with h0 | ⟨bx, ox, hqx, _, hrx⟩
   ·omega
   have HR := hid fun w' j (ho : Old w w') (hj : j < nb) => ho.cellOf (hrx j hj).1
   clear hrx
   subst hqx
   go_enter func36, ntmps36
   go_upto_region 1 with fail
   have HW0 := hid HZ.old
   generalize hW : (w.alloc (.cells (gc P Q G H a n cap) 25)).alloc (.cells (cc bt nt ct (some ⟨bx, ox, none⟩) nb cb) 50) = W at *
   clear hW
   obtain ⟨d0, d1, d2, d3, d4, z0, z1⟩ := HT.out _ (Old.refl _)
   go_upto_region 4 with (first
    | (go_at_call 96; refine (HLn.out _ HW0.out).mono ?_; rintro e w1 ⟨rfl, o1⟩; obtain ⟨d0, d1, d2, d3, d4, z0, z1⟩ := HT.out _ o1)
    | (go_at_call 97; refine (HTa.out _ (HW0.out.trans o1)).mono ?_; rintro e w2 ⟨rfl, o2⟩; obtain ⟨d0, d1, d2, d3, d4, z0, z1⟩ := HT.out _ (o1.trans o2)))
   have HWx := hid (o1.trans o2)
   clear o1 o2
   go_loopw [20] (fun iv wx => ∃ i : Nat, iv = .int .i64 (i : Int) /\ i <= nb /\ Hid (∀ j, j < i -> elB P Q (L j) (B j) = true) /\ Hid (Old W wx)) (fun iv _ => nb - (intOf iv).toNat)
   case atStart => exact ⟨0, rfl, Nat.zero_le _, fun j hj => by omega, HWx⟩
   case round =>
    clear d0 d1 d2 d3 d4 z0 z1
    obtain ⟨i, rfl, hi1, HJ, HW⟩ := hrel
    obtain ⟨d0, d1, d2, d3, d4, z0, z1⟩ := HT.out _ HW.out
    by_cases hlt : i < nb
    ·have cx := HR.out _ i (HW0.out.trans HW.out) hlt
     have HC := hid fun wx (ho : Old W wx) => HRo.out i wx (HW0.out.trans ho) hlt
     cases hin : elB P Q (L i) (B i) with
     | true =>
      have HM := hid hin
      rw [hin] at HC
      clear hin
      go_wp2_with (go_at_call 97; refine (HC.out _ HW.out).mono ?_; rintro e w3 ⟨rfl, o3⟩)
      go_roundw
      case rel => exact ⟨i + 1, zab i, by omega, zav HJ.out HM.out, HW.out.trans o3⟩
      case measure => simp [intOf]; omega
     | false =>
      have HN : Hid (sizeN P Q nt T nb L B = 0) := size_no_row hlt hin
      rw [hin] at HC
      clear hin
      go_wp2_with (go_at_call 97; refine (HC.out _ HW.out).mono ?_; rintro e w3 ⟨rfl, o3⟩)
      go_ret
      exact ⟨by rw [HN.out]; rfl, (HW0.out.trans HW.out).trans o3⟩
    ·have he : nb = i := by omega
     subst he
     have HN := hid (HY.out HJ.out)
     have c0 := HR.out _ 0 (HW0.out.trans HW.out) hpos
     rw [Nat.add_zero] at c0
     go_wp2_with fail
     go_ret
     exact ⟨by rw [HN.out]; rfl, HW0.out.trans HW.out⟩
theorem lpow_any (P Q G H : Int) (a : OA) (n cap : Nat) (b1 : OA) (n1 c1 : Nat) (B1 : NI) (b2 : OA) (n2 c2 : Nat) (X : NI) (w : World) (h4 : Four P Q G H) (hr : Righ P Q G) (m1 : n1 <= 80) (hn : n1 = n2) (h1 : FacsIn w b1 n1 B1) (h2 : FacsIn w b2 n2 X) :
  Calls prog 100 #[gv P Q G H a n cap, .slice b1 n1 c1, .slice b2 n2 c2] w fun e w' => e = .returned (.int .u64 (imI P Q B1 X n1)) /\ Old w w' := by
 subst hn
 have HX : Hid (FacsIn w b1 n1 B1) := h1
 have HY : Hid (FacsIn w b2 n1 X) := h2
 have HZ := lain1 w (gc P Q G H a n cap) 25
 obtain ⟨F, hF⟩ : ∃ F : Nat -> Int, F = fun k => expI P Q (B1 k) (X k) := ⟨_, rfl⟩
 have H1 : Hid (∀ i wx, i < n1 -> Calls prog 65 #[gv P Q G H a n cap, .int .u64 (B1 i), .int .u64 (X i)] wx fun r w' => r = .returned (.int .u64 (F i)) /\ Old wx w') := fun i wx hi => (za8 P Q G H (B1 i) (X i) a n cap wx h4 hr (h1.u64 i hi).1 (h1.u64 i hi).2 (h2.u64 i hi).1 (h2.u64 i hi).2).mono fun r w' ⟨h, k⟩ => ⟨by rw [h, hF], k⟩
 have H2 : Hid (∀ b wx, FacsIn wx b n1 F -> Calls prog 64 #[gv P Q G H a n cap, .slice b n1 n1] wx fun r w' => r = .returned (.int .u64 (imI P Q B1 X n1)) /\ Old wx w') := fun b wx hf => (zcl P Q G H a n cap b n1 n1 F wx h4 hr (Nat.le_refl _) (by omega) hf).mono fun r w' ⟨h, k⟩ => ⟨by rw [h, hF]; rfl, k⟩
 have HU : Hid (∀ k, U64 (F k)) := fun k => by rw [hF]; exact zaz _ _ _ _
 generalize imI P Q B1 X n1 = im at *
 clear hF h1 h2 h4 hr
 have hmk := zaP n1 m1
 go_enter func100, ntmps100
 go_upto_region 1 with fail
 generalize hW : w.alloc (.cells (gc P Q G H a n cap) 25) = W at *
 clear hW
 go_upto_region 2 with fail
 have HFu := zaC W n1 F
 have HWx : Hid (Old W (W.alloc (.cells (madeCells #[Value.int .u64 0] n1) 22))) := (Old.refl W).alloc _
 have hlt0 : W.heap.size < (W.alloc (.cells (madeCells #[Value.int .u64 0] n1) 22)).heap.size := HFu.lt
 generalize W.alloc (.cells (madeCells #[Value.int .u64 0] n1) 22) = W1 at *
 go_upto_region 3 with fail
 go_loopw [15] (fun iv wx => ∃ i : Nat, iv = .int .i64 (i : Int) /\ i <= n1 /\ Hid (Full wx W.heap.size n1 (upTo i F)) /\ Hid (Old W wx)) (fun iv _ => n1 - (intOf iv).toNat)
 case atStart => exact ⟨0, rfl, Nat.zero_le _, HFu, HWx⟩
 case round =>
  obtain ⟨i, rfl, hi1, HN, HW⟩ := hrel
  by_cases hlt : i < n1
  ·rcases HX.out with h0 | ⟨bx, ox, hqx, _, hrx⟩
   ·omega
   rcases HY.out with h0 | ⟨by_, oy, hqy, _, hry⟩
   ·omega
   have HT : Hid (∀ w', Old W w' -> G6 w' (w.heap.size) P Q G H (.slice a n cap) (w'.cell? ⟨by_, oy + i, none⟩ = some (.int .u64 (X i)))) := fun w' ho => ⟨(HZ.then ho).cell 0 0 (by simp) rfl, (HZ.then ho).cell 0 1 (by simp) rfl, (HZ.then ho).cell 0 2 (by simp) rfl, (HZ.then ho).cell 0 3 (by simp) rfl, (HZ.then ho).cell 0 4 (by simp) rfl, (HZ.old.trans ho).cellOf (hry i hlt).1⟩
   have cx := (HZ.old.trans HW.out).cellOf (hrx i hlt).1
   clear hrx hry
   subst hqx hqy
   obtain ⟨d0, d1, d2, d3, d4, cy⟩ := HT.out _ HW.out
   have HM : Hid (∀ wx, Calls prog 65 #[gv P Q G H a n cap, .int .u64 (B1 i), .int .u64 (X i)] wx fun r w' => r = .returned (.int .u64 (F i)) /\ Old wx w') := fun wx => H1.out i wx hlt
   go_upto_region 5 with fail
   go_region_held3 (fun w' => w'.cell? ⟨w.heap.size, 0, none⟩ = some (.int .u64 P) /\ w'.cell? ⟨w.heap.size, 1, none⟩ = some (.int .u64 Q) /\ w'.cell? ⟨w.heap.size, 2, none⟩ = some (.int .u64 G) /\ w'.cell? ⟨w.heap.size, 3, none⟩ = some (.int .u64 H) /\ w'.cell? ⟨w.heap.size, 4, none⟩ = some (.slice a n cap) /\ w'.cell? ⟨by_, oy + i, none⟩ = some (.int .u64 (X i))) (first | exact HT.out _ (h4.setCell (Nat.le_refl _) _) | exact HT.out _ h4 | exact HT.out _ HW.out.drew) (first
    | (go_at_call 65; refine (HM.out _).mono ?_; rintro e w4 ⟨rfl, o4⟩; have h4 : Old W w4 := HW.out.drew.trans o4; have hful := HN.out.old ((Old.refl wr).drew.trans o4); have q0 := hful.cell i hlt; have f0 := hful.free i))
   have HG : Hid (Full (w4.setCell ⟨W.heap.size, i, none⟩ (.int .u64 (F i))) W.heap.size n1 (upTo (i + 1) F)) := hful.next
   have HG2 : Hid (Old W (w4.setCell ⟨W.heap.size, i, none⟩ (.int .u64 (F i)))) := h4.setCell (Nat.le_refl _) _
   go_wp2_with fail
   go_roundw
   case rel => exact ⟨i + 1, zab i, by omega, HG, HG2⟩
   case measure => simp [intOf]; omega
  ·have he : n1 = i := by omega
   subst he
   have d0 := (HZ.then HW.out).cell 0 0 (by simp) rfl
   have d1 := (HZ.then HW.out).cell 0 1 (by simp) rfl
   have d2 := (HZ.then HW.out).cell 0 2 (by simp) rfl
   have d3 := (HZ.then HW.out).cell 0 3 (by simp) rfl
   have d4 := (HZ.then HW.out).cell 0 4 (by simp) rfl
   simp only [Nat.add_zero] at d0 d1 d2 d3 d4
   have HP : Hid (Calls prog 64 #[gv P Q G H a n cap, .slice (some ⟨W.heap.size, 0, none⟩) n1 n1] wr fun r w' => r = .returned (.int .u64 im) /\ Old wr w') := H2.out _ _ (HN.out.done.facs fun k _ => HU.out k)
   go_wp2_with (go_at_call 64; refine HP.out.mono ?_; rintro e w5 ⟨rfl, o5⟩)
   go_ret
   exact ⟨rfl, (HZ.old.trans HW.out).trans o5⟩
def GivesF (w : World) (ok : Bool) (k : Nat) (F : NI) (r : Ending) (w' : World) : Prop :=
 Old w w' /\ ((ok = false /\ r = .returned (.tuple #[.slice none 0 0, .bool false])) ∨ (ok = true /\ ∃ b, w.heap.size <= b /\ r = .returned (.tuple #[.slice (some ⟨b, 0, none⟩) k k, .bool true]) /\ Full w' b k F))
theorem GivesF.gives {w w' : World} {ok : Bool} {k : Nat} {F : NI} {r : Ending} (h : GivesF w ok k F r w') (hk : k <= 9223372036854775807) : Gives w ok k F r w' := by
 obtain ⟨ho, ⟨h1, rfl⟩ | ⟨h1, b, hb, rfl, hF⟩⟩ := h
 ·exact zdh h1 ho
 ·exact zdg h1 (hF.nums hb hk) ho
set_option linter.unusedSimpArgs false in
theorem zeY (P Q G H : Int) (a : OA) (n cap : Nat) (bt : OA) (nt ct : Nat) (T : NI) (bb : OA) (nb cb : Nat) (BA : Nat -> Option Addr) (L C : Nat -> Nat) (B : NN) (bz : OA) (nz cz : Nat) (X : NI) (w : World) (h4 : Four P Q G H) (hr : Righ P Q G) (hC : ClaimIn w bt nt ct T bb nb cb BA L C B) (hX : FacsIn w bz nz X) :
  Calls prog 42 #[gv P Q G H a n cap, cv bt nt ct bb nb cb, .slice bz nz cz] w (GivesF w (fitsB (sizeN P Q nt T nb L B) nz) nt (fun j => imI P Q (B j) X (sizeN P Q nt T nb L B))) := by
 have HZ := lain2 w (gc P Q G H a n cap) (cc bt nt ct bb nb cb) 25 50
 have HT : Hid (∀ w', Old ((w.alloc (.cells (gc P Q G H a n cap) 25)).alloc (.cells (cc bt nt ct bb nb cb) 50)) w' -> G6 w' (w.heap.size) P Q G H (.slice a n cap) (w'.cell? ⟨w.heap.size + 1, 0, none⟩ = some (.slice bt nt ct) /\ w'.cell? ⟨w.heap.size + 1, 1, none⟩ = some (.slice bb nb cb))) := fun w' ho => by
  have h := HZ.then ho
  exact ⟨h.cell 0 0 (by simp) rfl, h.cell 0 1 (by simp) rfl, h.cell 0 2 (by simp) rfl, h.cell 0 3 (by simp) rfl, h.cell 0 4 (by simp) rfl, h.cell 1 0 (by simp) rfl, h.cell 1 1 (by simp) rfl⟩
 have HS := hid fun wx (ho : Old w wx) => lsize_gen P Q G H a n cap bt nt ct T bb nb cb BA L C B wx h4 (hC.old ho)
 have hcl := zcY (P := P) (Q := Q) (nt := nt) (T := T) (nb := nb) (L := L) (B := B)
 have HB := hid hC.bas
 generalize sizeN P Q nt T nb L B = sz at *
 obtain ⟨F, hF⟩ : ∃ F : Nat -> Int, F = fun j => imI P Q (B j) X sz := ⟨_, rfl⟩
 rw [<- hF]
 have HPw : Hid (∀ i wx, Old w wx -> i < nb -> L i = nz -> nz = sz -> nz <= 80 -> Calls prog 100 #[gv P Q G H a n cap, .slice (BA i) (L i) (C i), .slice bz nz cz] wx fun r w' => r = .returned (.int .u64 (F i)) /\ Old wx w') := fun i wx ho hi hL hz hm =>
  (lpow_any P Q G H a n cap (BA i) (L i) (C i) (B i) bz nz cz X wx h4 hr (by omega) hL ((HB.out.facs hi).old ho) (hX.old ho)).mono fun r w' ⟨h, k⟩ => ⟨by rw [h, hF, hL, hz], k⟩
 clear hF h4 hr hC hX
 by_cases hs0 : sz = 0
 ·have HN : Hid (fitsB sz nz = false) := no_of fun h => (za2.1 h).1 hs0
  have k1 : (sz : Int) = 0 := by omega
  clear hcl hs0
  go_enter func42, ntmps42
  go_upto_region 1 with fail
  have HW0 := hid HZ.old
  generalize hW : (w.alloc (.cells (gc P Q G H a n cap) 25)).alloc (.cells (cc bt nt ct bb nb cb) 50) = W at *
  clear hW
  obtain ⟨d0, d1, d2, d3, d4, z0, z1⟩ := HT.out _ (Old.refl _)
  go_wp2_with (go_at_call 36; refine (HS.out _ HW0.out).mono ?_; rintro e w2 ⟨rfl, h2⟩)
  go_ret2
  exact ⟨HW0.out.trans h2, Or.inl ⟨HN.out, rfl⟩⟩
 by_cases hnw : nz = sz
 ·have hcl := hcl hs0
  subst hnw
  have HN := hid (za2.2 ⟨hs0, rfl⟩)
  have HP := hid fun i wx (ho : Old w wx) (hi : i < nb) => HPw.out i wx ho hi (hcl.len i (hcl.nb ▸ hi)) rfl (by have := hcl.n64; omega)
  have HNB := hid hcl.nb
  have m1 : nb <= 80 := by have := hcl.nb; have := hcl.t64; omega
  have hpos : 0 < nb := by have := hcl.nb; have := hcl.t1; omega
  have k1 : ¬ (nz : Int) = 0 := by omega
  have k3 : ((nz : Int) == 0) = false := by simp; omega
  clear hcl HPw hs0
  rcases HB.out with h0 | ⟨bx, ox, hqx, _, hrx⟩
  ·omega
  have HR := hid fun w' j (ho : Old w w') (hj : j < nb) => ho.cellOf (hrx j hj).1
  clear hrx
  subst hqx
  have hmk := zaP nb m1
  go_enter func42, ntmps42
  go_upto_region 1 with fail
  have HW0 := hid HZ.old
  generalize hW : (w.alloc (.cells (gc P Q G H a n cap) 25)).alloc (.cells (cc bt nt ct (some ⟨bx, ox, none⟩) nb cb) 50) = W at *
  clear hW
  obtain ⟨d0, d1, d2, d3, d4, z0, z1⟩ := HT.out _ (Old.refl _)
  go_upto_region 4 with (go_at_call 36; refine (HS.out _ HW0.out).mono ?_; rintro e w2 ⟨rfl, h2⟩; obtain ⟨d0, d1, d2, d3, d4, z0, z1⟩ := HT.out _ h2)
  go_upto_region 5 with fail
  have HFu := zaC w2 nb F
  have HWx : Hid (Old W (w2.alloc (.cells (madeCells #[Value.int .u64 0] nb) 22))) := h2.alloc _
  have hlt0 : w2.heap.size < (w2.alloc (.cells (madeCells #[Value.int .u64 0] nb) 22)).heap.size := HFu.lt
  generalize w2.alloc (.cells (madeCells #[Value.int .u64 0] nb) 22) = W1 at *
  clear d0 d1 d2 d3 d4 z0 z1
  obtain ⟨d0, d1, d2, d3, d4, z0, z1⟩ := HT.out _ HWx.out
  have hsz := h2.size
  go_upto_region 6 with fail
  clear d0 d1 d2 d3 d4 z0 z1
  go_loopw [30] (fun iv wx => ∃ i : Nat, iv = .int .i64 (i : Int) /\ i <= nb /\ Hid (Full wx w2.heap.size nb (upTo i F)) /\ Hid (Old W wx)) (fun iv _ => nb - (intOf iv).toNat)
  case atStart => exact ⟨0, rfl, Nat.zero_le _, HFu, HWx⟩
  case round =>
   obtain ⟨i, rfl, hi1, HNu, HW⟩ := hrel
   by_cases hlt : i < nb
   ·obtain ⟨d0, d1, d2, d3, d4, z0, z1⟩ := HT.out _ HW.out
    have cx := HR.out _ i (HW0.out.trans HW.out) hlt
    have HC := hid (HP.out i wr (HW0.out.trans HW.out) hlt)
    go_wp2_with (go_at_call 100; refine HC.out.mono ?_; rintro e w4 ⟨rfl, o4⟩; have h4 : Old W w4 := HW.out.trans o4; have hful := HNu.out.old o4; have q0 := hful.cell i hlt; have f0 := hful.free i)
    have HG := hid hful.next
    have HG2 : Hid (Old W (w4.setCell ⟨w2.heap.size, i, none⟩ (.int .u64 (F i)))) := h4.setCell hsz _
    go_roundw
    case rel => exact ⟨i + 1, zab i, by omega, HG, HG2⟩
    case measure => simp [intOf]; omega
   ·have he : nb = i := by omega
    subst he
    have HD := hid HNu.out.done
    go_wp2_with fail
    go_ret2
    have hnb := HNB.out
    refine ⟨HW0.out.trans HW.out, Or.inr ⟨HN.out, w2.heap.size, Nat.le_trans HW0.out.size hsz, ?_, ?_⟩⟩
    ·rw [<- hnb]; rfl
    ·rw [<- hnb]; exact HD.out
 ·have HN : Hid (fitsB sz nz = false) := no_of fun h => hnw (za2.1 h).2
  have k1 : ¬ (sz : Int) = 0 := by omega
  have k2 : ¬ (nz : Int) = (sz : Int) := by omega
  have k3 : ((sz : Int) == 0) = false := by simp; omega
  have k4 : ((nz : Int) != (sz : Int)) = true := by simp; omega
  have k5 : ((nz : Int) == (sz : Int)) = false := by simp; omega
  clear hcl hs0
  go_enter func42, ntmps42
  go_upto_region 1 with fail
  have HW0 := hid HZ.old
  generalize hW : (w.alloc (.cells (gc P Q G H a n cap) 25)).alloc (.cells (cc bt nt ct bb nb cb) 50) = W at *
  clear hW
  obtain ⟨d0, d1, d2, d3, d4, z0, z1⟩ := HT.out _ (Old.refl _)
  go_wp2_with (go_at_call 36; refine (HS.out _ HW0.out).mono ?_; rintro e w2 ⟨rfl, h2⟩)
  go_ret2
  exact ⟨HW0.out.trans h2, Or.inl ⟨HN.out, rfl⟩⟩
end
section
def kN : List Nat := kList.map Int.toNat
def rotN (x n : Nat) : Nat := (x >>> n) ||| (x <<< (32 - n) % 4294967296)
def low0N (x : Nat) : Nat := (rotN x 7 ^^^ rotN x 18) ^^^ (x >>> 3)
def low1N (x : Nat) : Nat := (rotN x 17 ^^^ rotN x 19) ^^^ (x >>> 10)
def big1N (x : Nat) : Nat := (rotN x 6 ^^^ rotN x 11) ^^^ rotN x 25
def big0N (x : Nat) : Nat := (rotN x 2 ^^^ rotN x 13) ^^^ rotN x 22
def pickN (e f g : Nat) : Nat := (e &&& f) ||| ((4294967295 ^^^ e) &&& g)
def mostN (a b c : Nat) : Nat := ((a &&& b) ||| (a &&& c)) ||| (b &&& c)
def runN : List Nat -> (w0 w1 w2 w3 w4 w5 w6 w7 w8 w9 w10 w11 w12 w13 w14 w15 : Nat) -> (a b c d e f g h : Nat) -> List Nat
 | [], _, _, _, _, _, _, _, _, _, _, _, _, _, _, _, _, a, b, c, d, e, f, g, h => [a, b, c, d, e, f, g, h]
 | k :: ks, w0, w1, w2, w3, w4, w5, w6, w7, w8, w9, w10, w11, w12, w13, w14, w15, a, b, c, d, e, f, g, h =>
  runN ks w1 w2 w3 w4 w5 w6 w7 w8 w9 w10 w11 w12 w13 w14 w15 ((w0 + low0N w1 + w9 + low1N w14) % 4294967296)
   ((h + big1N e + pickN e f g + k + w0 + (big0N a + mostN a b c)) % 4294967296) a b c ((d + (h + big1N e + pickN e f g + k + w0)) % 4294967296) e f g
abbrev U32 (n : Nat) : Prop := n < 4294967296
theorem zer {a b : Nat} (ha : U32 a) (hb : U32 b) : or32 (a : Int) (b : Int) = ((a ||| b : Nat) : Int) := u32_or_nat a b ha hb
theorem zfR {a b : Nat} (ha : U32 a) (hb : U32 b) : xor32 (a : Int) (b : Int) = ((a ^^^ b : Nat) : Int) := u32_xor_nat a b ha hb
theorem zd2 {a b : Nat} (ha : U32 a) (hb : U32 b) : and32 (a : Int) (b : Int) = ((a &&& b : Nat) : Int) := u32_and_nat a b ha hb
theorem not_nat {a : Nat} (ha : U32 a) : not32 (a : Int) = ((4294967295 ^^^ a : Nat) : Int) := u32_xor_nat 4294967295 a (by omega) ha
theorem or_lt {a b : Nat} (ha : U32 a) (hb : U32 b) : U32 (a ||| b) := Nat.or_lt_two_pow (n := 32) ha hb
theorem zdl {a b : Nat} (ha : U32 a) (hb : U32 b) : U32 (a ^^^ b) := Nat.xor_lt_two_pow (n := 32) ha hb
theorem zd1 {a b : Nat} (ha : U32 a) : U32 (a &&& b) := Nat.lt_of_le_of_lt Nat.and_le_left ha
theorem zgo {a : Nat} (n : Nat) (ha : U32 a) : U32 (a >>> n) := by
 rw [Nat.shiftRight_eq_div_pow]
 exact Nat.lt_of_le_of_lt (Nat.div_le_self _ _) ha
theorem zaB {x n : Nat} (hx : U32 x) : U32 (rotN x n) := or_lt (zgo n hx) (Nat.mod_lt _ (by omega))
theorem zbO {x : Nat} (n : Nat) (hx : U32 x) : rot (x : Int) n = (rotN x n : Int) := by
 unfold rot rotN
 have e1 : (x : Int) / 2 ^ n = ((x >>> n : Nat) : Int) := by
  rw [Nat.shiftRight_eq_div_pow, Int.natCast_ediv, Int.natCast_pow]
  rfl
 have e2 : (x : Int) * 2 ^ (32 - n) % 4294967296 = ((x <<< (32 - n) % 4294967296 : Nat) : Int) := by
  rw [Nat.shiftLeft_eq, Int.natCast_emod, Int.natCast_mul, Int.natCast_pow]
  rfl
 rw [e1, e2]
 exact zer (zgo n hx) (Nat.mod_lt _ (by omega))
theorem low0_nat {x : Nat} (hx : U32 x) : low0 (x : Int) = (low0N x : Int) /\ U32 (low0N x) := by
 unfold low0 low0N
 have e : (x : Int) / (8 : Int) = ((x >>> 3 : Nat) : Int) := by
  rw [Nat.shiftRight_eq_div_pow]
  omega
 rw [zbO _ hx, zbO _ hx, e, zfR (zaB hx) (zaB hx), zfR (zdl (zaB hx) (zaB hx)) (zgo 3 hx)]
 exact ⟨rfl, zdl (zdl (zaB hx) (zaB hx)) (zgo 3 hx)⟩
theorem low1_nat {x : Nat} (hx : U32 x) : low1 (x : Int) = (low1N x : Int) /\ U32 (low1N x) := by
 unfold low1 low1N
 have e : (x : Int) / (1024 : Int) = ((x >>> 10 : Nat) : Int) := by
  rw [Nat.shiftRight_eq_div_pow]
  omega
 rw [zbO _ hx, zbO _ hx, e, zfR (zaB hx) (zaB hx), zfR (zdl (zaB hx) (zaB hx)) (zgo 10 hx)]
 exact ⟨rfl, zdl (zdl (zaB hx) (zaB hx)) (zgo 10 hx)⟩
theorem big1_nat {x : Nat} (hx : U32 x) : big1 (x : Int) = (big1N x : Int) := by
 unfold big1 big1N
 rw [zbO _ hx, zbO _ hx, zbO _ hx, zfR (zaB hx) (zaB hx), zfR (zdl (zaB hx) (zaB hx)) (zaB hx)]
theorem big0_nat {x : Nat} (hx : U32 x) : big0 (x : Int) = (big0N x : Int) := by
 unfold big0 big0N
 rw [zbO _ hx, zbO _ hx, zbO _ hx, zfR (zaB hx) (zaB hx), zfR (zdl (zaB hx) (zaB hx)) (zaB hx)]
theorem pick_nat {e f g : Nat} (he : U32 e) (hf : U32 f) (hg : U32 g) : pick (e : Int) f g = (pickN e f g : Int) := by
 unfold pick pickN
 have hn : U32 (4294967295 ^^^ e) := zdl (by show 4294967295 < 4294967296; omega) he
 rw [not_nat he, zd2 he hf, zd2 hn hg, zer (zd1 he) (zd1 hn)]
theorem most_nat {a b c : Nat} (ha : U32 a) (hb : U32 b) (hc : U32 c) : most (a : Int) b c = (mostN a b c : Int) := by
 unfold most mostN
 rw [zd2 ha hb, zd2 ha hc, zd2 hb hc, zer (zd1 ha) (zd1 ha), zer (or_lt (zd1 ha) (zd1 ha)) (zd1 hb)]
def wI (B : NI) (j : Nat) : Int := sched B (j + 1) j
theorem zfG (B : NI) {j : Nat} : ∀ T, j < T -> sched B T j = wI B j
 | 0, h => by omega
 | T + 1, h => by
  by_cases he : j = T
  ·subst he; rfl
  ·show (if j = T then word B (sched B T) T else sched B T j) = _
   rw [if_neg he]
   exact zfG B T (by omega)
theorem wI_low (B : NI) {t : Nat} (h : t < 16) : wI B t = four (B (4 * t)) (B (4 * t + 1)) (B (4 * t + 2)) (B (4 * t + 3)) := by
 show (if t = t then word B (sched B t) t else sched B t t) = _
 rw [if_pos rfl, word_low h]
theorem wI_high (B : NI) (t : Nat) : wI B (t + 16) = add32 (add32 (add32 (wI B t) (low0 (wI B (t + 1)))) (wI B (t + 9))) (low1 (wI B (t + 14))) := by
 show (if t + 16 = t + 16 then word B (sched B (t + 16)) (t + 16) else sched B (t + 16) (t + 16)) = _
 rw [if_pos rfl, zeD (by omega), show t + 16 - 16 = t by omega, show t + 16 - 15 = t + 1 by omega, show t + 16 - 7 = t + 9 by omega, show t + 16 - 2 = t + 14 by omega,
  zfG B (t + 16) (by omega), zfG B (t + 16) (by omega), zfG B (t + 16) (by omega), zfG B (t + 16) (by omega)]
theorem zfD (a b : Nat) : add32 (a : Int) (b : Int) = (((a + b) % 4294967296 : Nat) : Int) := by
 unfold add32
 omega
theorem m_lt (a : Nat) : U32 (a % 4294967296) := Nat.mod_lt _ (by omega)
theorem add_five (a b c d e : Nat) : add32 (add32 (add32 (add32 (a : Int) b) c) d) e = (((a + b + c + d + e) % 4294967296 : Nat) : Int) := by
 unfold add32
 omega
theorem run_is (B v : NI) (W : Nat -> Nat) (hW : ∀ j, wI B j = (W j : Int) /\ U32 (W j)) : ∀ (n t : Nat) (a b c d e f g h : Nat), t + n = 64 ->
  (zai (wI B) t v 0 = (a : Int) /\ U32 a) -> (zai (wI B) t v 1 = (b : Int) /\ U32 b) -> (zai (wI B) t v 2 = (c : Int) /\ U32 c) -> (zai (wI B) t v 3 = (d : Int) /\ U32 d) ->
  (zai (wI B) t v 4 = (e : Int) /\ U32 e) -> (zai (wI B) t v 5 = (f : Int) /\ U32 f) -> (zai (wI B) t v 6 = (g : Int) /\ U32 g) -> (zai (wI B) t v 7 = (h : Int) /\ U32 h) ->
  ∀ i, i < 8 -> zai (wI B) 64 v i = (((runN (kN.drop t) (W t) (W (t + 1)) (W (t + 2)) (W (t + 3)) (W (t + 4)) (W (t + 5)) (W (t + 6)) (W (t + 7)) (W (t + 8)) (W (t + 9)) (W (t + 10)) (W (t + 11)) (W (t + 12)) (W (t + 13)) (W (t + 14)) (W (t + 15)) a b c d e f g h).getD i 0 : Nat) : Int)
 | 0, t, a, b, c, d, e, f, g, h, ht, h0, h1, h2, h3, h4, h5, h6, h7, i, hi => by
  obtain rfl : t = 64 := by omega
  have hd : kN.drop 64 = [] := by decide
  rw [hd]
  match i, hi with
  | 0, _ => exact h0.1
  | 1, _ => exact h1.1
  | 2, _ => exact h2.1
  | 3, _ => exact h3.1
  | 4, _ => exact h4.1
  | 5, _ => exact h5.1
  | 6, _ => exact h6.1
  | 7, _ => exact h7.1
 | n + 1, t, a, b, c, d, e, f, g, h, ht, h0, h1, h2, h3, h4, h5, h6, h7, i, hi => by
  have hk : kN.drop t = kN.getD t 0 :: kN.drop (t + 1) := by
   have hl : t < kN.length := by
    have : kN.length = 64 := by decide
    omega
   rw [List.drop_eq_getElem_cons hl]
   simp [List.getD, hl]
  have hkS : kS t = (kN.getD t 0 : Int) := by
   have hall : ∀ t, t < 64 -> kS t = (kN.getD t 0 : Int) := by decide
   exact hall t (by omega)
  have hone : one32 (zai (wI B) t v) (kS t) (wI B t) = (((h + big1N e + pickN e f g + kN.getD t 0 + W t) % 4294967296 : Nat) : Int) := by
   unfold one32
   rw [h4.1, h5.1, h6.1, h7.1, big1_nat h4.2, pick_nat h4.2 h5.2 h6.2, hkS, (hW t).1]
   exact add_five _ _ _ _ _
  have htwo : two32 (zai (wI B) t v) = (((big0N a + mostN a b c) % 4294967296 : Nat) : Int) := by
   unfold two32
   rw [h0.1, h1.1, h2.1, big0_nat h0.2, most_nat h0.2 h1.2 h2.2]
   exact zfD _ _
  have r0 : zai (wI B) (t + 1) v 0 = (((h + big1N e + pickN e f g + kN.getD t 0 + W t + (big0N a + mostN a b c)) % 4294967296 : Nat) : Int) := by
   show add32 (one32 (zai (wI B) t v) (kS t) (wI B t)) (two32 (zai (wI B) t v)) = _
   rw [hone, htwo, zfD, <- Nat.add_mod]
  have r4 : zai (wI B) (t + 1) v 4 = (((d + (h + big1N e + pickN e f g + kN.getD t 0 + W t)) % 4294967296 : Nat) : Int) := by
   show add32 (zai (wI B) t v 3) (one32 (zai (wI B) t v) (kS t) (wI B t)) = _
   rw [hone, h3.1, zfD]
   omega
  have w16 : W (t + 16) = (W t + low0N (W (t + 1)) + W (t + 9) + low1N (W (t + 14))) % 4294967296 := by
   have e1 := wI_high B t
   rw [(hW (t + 16)).1, (hW t).1, (hW (t + 1)).1, (hW (t + 9)).1, (hW (t + 14)).1, (low0_nat (hW (t + 1)).2).1, (low1_nat (hW (t + 14)).2).1] at e1
   unfold add32 at e1
   omega
  rw [hk]
  have ih := run_is B v W hW n (t + 1) _ a b c _ e f g (by omega) ⟨r0, m_lt _⟩ ⟨h0.1, h0.2⟩ ⟨h1.1, h1.2⟩ ⟨h2.1, h2.2⟩ ⟨r4, m_lt _⟩ ⟨h4.1, h4.2⟩ ⟨h5.1, h5.2⟩ ⟨h6.1, h6.2⟩ i hi
  rw [ih]
  show _ = (((runN (kN.drop (t + 1)) (W (t + 1)) (W (t + 2)) (W (t + 3)) (W (t + 4)) (W (t + 5)) (W (t + 6)) (W (t + 7)) (W (t + 8)) (W (t + 9)) (W (t + 10)) (W (t + 11)) (W (t + 12)) (W (t + 13)) (W (t + 14)) (W (t + 15)) ((W t + low0N (W (t + 1)) + W (t + 9) + low1N (W (t + 14))) % 4294967296) _ a b c _ e f g).getD i 0 : Nat) : Int)
  rw [<- w16]
def fourN (a b c d : Nat) : Nat := ((a * 16777216 ||| b * 65536) ||| c * 256) ||| d
theorem four_nat {a b c d : Nat} (ha : a <= 255) (hb : b <= 255) (hc : c <= 255) (hd : d <= 255) : four (a : Int) b c d = (fourN a b c d : Int) /\ U32 (fourN a b c d) := by
 have h1 : a * 16777216 < 4294967296 := Nat.lt_of_le_of_lt (Nat.mul_le_mul_right _ ha) (by decide)
 have h2 : b * 65536 < 4294967296 := Nat.lt_of_le_of_lt (Nat.mul_le_mul_right _ hb) (by decide)
 have h3 : c * 256 < 4294967296 := Nat.lt_of_le_of_lt (Nat.mul_le_mul_right _ hc) (by decide)
 have h4 : d < 4294967296 := by omega
 have e1 : (a : Int) * 16777216 = ((a * 16777216 : Nat) : Int) := by omega
 have e2 : (b : Int) * 65536 = ((b * 65536 : Nat) : Int) := by omega
 have e3 : (c : Int) * 256 = ((c * 256 : Nat) : Int) := by omega
 unfold four fourN
 rw [e1, e2, e3, zer h1 h2, zer (or_lt h1 h2) h3, zer (or_lt (or_lt h1 h2) h3) h4]
 exact ⟨rfl, or_lt (or_lt (or_lt h1 h2) h3) h4⟩
theorem wI_bd (B : NI) (j : Nat) : 0 <= wI B j /\ wI B j < 4294967296 := by
 by_cases h : j < 16
 ·rw [wI_low B h]
  unfold four or32
  have h1 := bits_lo_u32 .or (bits .or .u32 (bits .or .u32 (B (4 * j) * 16777216) (B (4 * j + 1) * 65536)) (B (4 * j + 2) * 256)) (B (4 * j + 3))
  have h2 := bits_hi_u32 .or (bits .or .u32 (bits .or .u32 (B (4 * j) * 16777216) (B (4 * j + 1) * 65536)) (B (4 * j + 2) * 256)) (B (4 * j + 3))
  omega
 ·obtain ⟨t, rfl⟩ : ∃ t, j = t + 16 := ⟨j - 16, by omega⟩
  rw [wI_high]
  unfold add32
  omega
def wordN (bs : Nat -> Nat) (c j : Nat) : Nat := fourN (bs (64 * c + 4 * j)) (bs (64 * c + 4 * j + 1)) (bs (64 * c + 4 * j + 2)) (bs (64 * c + 4 * j + 3))
def pieceN (bs : Nat -> Nat) (c : Nat) : List Nat -> List Nat
 | [a, b, cc, d, e, f, g, h] => List.zipWith (fun x y => (x + y) % 4294967296) [a, b, cc, d, e, f, g, h]
   (runN kN (wordN bs c 0) (wordN bs c 1) (wordN bs c 2) (wordN bs c 3) (wordN bs c 4) (wordN bs c 5) (wordN bs c 6) (wordN bs c 7) (wordN bs c 8) (wordN bs c 9) (wordN bs c 10) (wordN bs c 11) (wordN bs c 12) (wordN bs c 13) (wordN bs c 14) (wordN bs c 15) a b cc d e f g h)
 | _ => []
def stN (bs : Nat -> Nat) : Nat -> List Nat
 | 0 => hList.map Int.toNat
 | c + 1 => pieceN bs c (stN bs c)
theorem runN_len : ∀ (ks : List Nat) (w0 w1 w2 w3 w4 w5 w6 w7 w8 w9 w10 w11 w12 w13 w14 w15 a b c d e f g h : Nat), (runN ks w0 w1 w2 w3 w4 w5 w6 w7 w8 w9 w10 w11 w12 w13 w14 w15 a b c d e f g h).length = 8
 | [], _, _, _, _, _, _, _, _, _, _, _, _, _, _, _, _, _, _, _, _, _, _, _, _ => rfl
 | _ :: ks, _, _, _, _, _, _, _, _, _, _, _, _, _, _, _, _, _, _, _, _, _, _, _, _ => runN_len ks _ _ _ _ _ _ _ _ _ _ _ _ _ _ _ _ _ _ _ _ _ _ _ _
theorem rounds_eq {W V : NI} : ∀ (T : Nat) (v : NI) (i : Nat), (∀ j, j < T -> W j = V j) -> zai W T v i = zai V T v i
 | 0, _, _, _ => rfl
 | T + 1, v, i, h => by
  have e : zai W T v = zai V T v := funext fun i => rounds_eq T v i fun j hj => h j (by omega)
  show zcW (zai W T v) (kS T) (W T) i = zcW (zai V T v) (kS T) (V T) i
  rw [e, h T (by omega)]
theorem start_is : ∀ i, i < 8 -> hS i = (((hList.map Int.toNat).getD i 0 : Nat) : Int) /\ (hList.map Int.toNat).getD i 0 < 4294967296 := by decide
theorem state_is (bs : Nat -> Nat) (hb : ∀ i, bs i <= 255) : ∀ c, ∃ a b cc d e f g h : Nat, stN bs c = [a, b, cc, d, e, f, g, h] /\ ∀ i, i < 8 -> state (fun i => (bs i : Int)) c i = (((stN bs c).getD i 0 : Nat) : Int) /\ U32 ((stN bs c).getD i 0)
 | 0 => ⟨_, _, _, _, _, _, _, _, rfl, start_is⟩
 | c + 1 => by
  obtain ⟨a, b, cc, d, e, f, g, h, hs, hst⟩ := state_is bs hb c
  have s0 := hst 0 (by omega)
  have s1 := hst 1 (by omega)
  have s2 := hst 2 (by omega)
  have s3 := hst 3 (by omega)
  have s4 := hst 4 (by omega)
  have s5 := hst 5 (by omega)
  have s6 := hst 6 (by omega)
  have s7 := hst 7 (by omega)
  rw [hs] at s0 s1 s2 s3 s4 s5 s6 s7
  have hW : ∀ j, wI (fun j => ((bs (64 * c + j) : Nat) : Int)) j = ((wI (fun j => ((bs (64 * c + j) : Nat) : Int)) j).toNat : Int) /\ U32 (wI (fun j => ((bs (64 * c + j) : Nat) : Int)) j).toNat := fun j => by
   have := wI_bd (fun j => ((bs (64 * c + j) : Nat) : Int)) j
   exact ⟨by omega, by show _ < _; omega⟩
  have hw : ∀ j, j < 16 -> (wI (fun j => ((bs (64 * c + j) : Nat) : Int)) j).toNat = wordN bs c j := fun j hj => by
   rw [wI_low _ hj, (four_nat (hb _) (hb _) (hb _) (hb _)).1, Int.toNat_natCast]
   rfl
  have run := run_is (fun j => ((bs (64 * c + j) : Nat) : Int)) (state (fun i => (bs i : Int)) c) _ hW 64 0 a b cc d e f g h rfl s0 s1 s2 s3 s4 s5 s6 s7
  rw [hw 0 (by omega), hw 1 (by omega), hw 2 (by omega), hw 3 (by omega), hw 4 (by omega), hw 5 (by omega), hw 6 (by omega), hw 7 (by omega), hw 8 (by omega), hw 9 (by omega), hw 10 (by omega), hw 11 (by omega), hw 12 (by omega), hw 13 (by omega), hw 14 (by omega), hw 15 (by omega)] at run
  have e1 : stN bs (c + 1) = List.zipWith (fun x y => (x + y) % 4294967296) [a, b, cc, d, e, f, g, h]
    (runN kN (wordN bs c 0) (wordN bs c 1) (wordN bs c 2) (wordN bs c 3) (wordN bs c 4) (wordN bs c 5) (wordN bs c 6) (wordN bs c 7) (wordN bs c 8) (wordN bs c 9) (wordN bs c 10) (wordN bs c 11) (wordN bs c 12) (wordN bs c 13) (wordN bs c 14) (wordN bs c 15) a b cc d e f g h) := by
   show pieceN bs c (stN bs c) = _
   rw [hs]
   rfl
  obtain ⟨r, hr⟩ : ∃ r, r = runN kN (wordN bs c 0) (wordN bs c 1) (wordN bs c 2) (wordN bs c 3) (wordN bs c 4) (wordN bs c 5) (wordN bs c 6) (wordN bs c 7) (wordN bs c 8) (wordN bs c 9) (wordN bs c 10) (wordN bs c 11) (wordN bs c 12) (wordN bs c 13) (wordN bs c 14) (wordN bs c 15) a b cc d e f g h := ⟨_, rfl⟩
  have hl : r.length = 8 := by rw [hr]; exact runN_len _ _ _ _ _ _ _ _ _ _ _ _ _ _ _ _ _ _ _ _ _ _ _ _ _
  rw [<- hr] at e1
  have hrun : ∀ i, i < 8 -> zai (sched (fun j => ((bs (64 * c + j) : Nat) : Int)) 64) 64 (state (fun i => (bs i : Int)) c) i = ((r.getD i 0 : Nat) : Int) := fun i hi => by
   rw [rounds_eq 64 _ i (fun j hj => zfG _ 64 hj), run i hi, hr]
   rfl
  match r, hl with
  | [r0, r1, r2, r3, r4, r5, r6, r7], _ =>
   refine ⟨_, _, _, _, _, _, _, _, e1, fun i hi => ?_⟩
   rw [e1]
   have key : ∀ i, i < 8 -> state (fun i => (bs i : Int)) (c + 1) i = add32 (state (fun i => (bs i : Int)) c i) ((([r0, r1, r2, r3, r4, r5, r6, r7] : List Nat).getD i 0 : Nat) : Int) := fun i hi => by
    rw [<- hrun i hi]
    rfl
   rw [key i hi]
   match i, hi with
   | 0, _ => exact ⟨by rw [s0.1]; exact zfD _ _, m_lt _⟩
   | 1, _ => exact ⟨by rw [s1.1]; exact zfD _ _, m_lt _⟩
   | 2, _ => exact ⟨by rw [s2.1]; exact zfD _ _, m_lt _⟩
   | 3, _ => exact ⟨by rw [s3.1]; exact zfD _ _, m_lt _⟩
   | 4, _ => exact ⟨by rw [s4.1]; exact zfD _ _, m_lt _⟩
   | 5, _ => exact ⟨by rw [s5.1]; exact zfD _ _, m_lt _⟩
   | 6, _ => exact ⟨by rw [s6.1]; exact zfD _ _, m_lt _⟩
   | 7, _ => exact ⟨by rw [s7.1]; exact zfD _ _, m_lt _⟩
def shaN (xs : List Int) : List Int := outL (fun i => (((stN (fun i => ((padL xs).getD i 0).toNat) (za3 xs.length)).getD i 0 : Nat) : Int)) 8
theorem outL_eq {h h' : NI} : ∀ n, (∀ i, i < n -> h i = h' i) -> outL h n = outL h' n
 | 0, _ => rfl
 | n + 1, e => by
  show outL h n ++ zap (h n) 4 = outL h' n ++ zap (h' n) 4
  rw [outL_eq n fun i hi => e i (by omega), e n (by omega)]
theorem sum_is (xs : List Int) (h : Bts xs) : sumL xs = shaN xs := by
 have hb := fun i => zco (pad_bd h) i
 have e : (fun i => (padL xs).getD i 0) = fun i => ((((padL xs).getD i 0).toNat : Nat) : Int) := funext fun i => by
  have := hb i
  omega
 unfold sumL shaN
 rw [e]
 refine outL_eq 8 fun i hi => ?_
 obtain ⟨_, _, _, _, _, _, _, _, _, hst⟩ := state_is (fun i => ((padL xs).getD i 0).toNat) (fun i => by have := hb i; omega) (za3 xs.length)
 exact (hst i hi).1
end
end Go.Proofs.YtlnmjbbpenhdbaaGreat
