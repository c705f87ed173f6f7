/-
  The statement's walk (layer 7): ProofTrue.
-/
import Derived.Test.YtokhpppealdfmafPl4a
namespace Go.Proofs.Ytokhpppealdfmaf
open Go.RowKit

/-- The box, as far as it is sealed. -/
def boxC (u0 v0 u1 v1 u2 v2 : Int) : Nat → Array Value
  | 0 => #[.int .u64 0, .int .u64 0, .int .u64 0, .int .u64 0, .int .u64 0, .int .u64 0]
  | 1 => #[.int .u64 u0, .int .u64 v0, .int .u64 0, .int .u64 0, .int .u64 0, .int .u64 0]
  | 2 => #[.int .u64 u0, .int .u64 v0, .int .u64 u1, .int .u64 v1, .int .u64 0, .int .u64 0]
  | _ => #[.int .u64 u0, .int .u64 v0, .int .u64 u1, .int .u64 v1, .int .u64 u2, .int .u64 v2]
theorem box_set {W : World} {b : Nat} {t : TypeId} {u0 v0 u1 v1 u2 v2 : Int} : ∀ i, i < 3 → W.heap[b]? = some (.cells (boxC u0 v0 u1 v1 u2 v2 i) t (0, 0)) → ((W.setCell ⟨b, i * 2, none⟩ (.int .u64 (tri7 u0 u1 u2 i))).setCell ⟨b, i * 2 + 1, none⟩ (.int .u64 (tri7 v0 v1 v2 i))).heap[b]? = some (.cells (boxC u0 v0 u1 v1 u2 v2 (i + 1)) t (0, 0))
  | 0, _, h => by have := set_row (set_row h 0 (.int .u64 u0)) 1 (.int .u64 v0); simpa [boxC, tri7] using this
  | 1, _, h => by have := set_row (set_row h 2 (.int .u64 u1)) 3 (.int .u64 v1); simpa [boxC, tri7] using this
  | 2, _, h => by have := set_row (set_row h 4 (.int .u64 u2)) 5 (.int .u64 v2); simpa [boxC, tri7] using this
theorem box_cell {W : World} {b : Nat} {t : TypeId} {u0 v0 u1 v1 u2 v2 : Int} : ∀ i, i < 3 → W.heap[b]? = some (.cells (boxC u0 v0 u1 v1 u2 v2 i) t (0, 0)) → W.cell? ⟨b, i * 2, none⟩ = some (.int .u64 0) ∧ W.cell? ⟨b, i * 2 + 1, none⟩ = some (.int .u64 0)
  | 0, _, h => ⟨cell_of_row _ _ 0 _ _ (0, 0) h, cell_of_row _ _ 1 _ _ (0, 0) h⟩
  | 1, _, h => ⟨cell_of_row _ _ 2 _ _ (0, 0) h, cell_of_row _ _ 3 _ _ (0, 0) h⟩
  | 2, _, h => ⟨cell_of_row _ _ 4 _ _ (0, 0) h, cell_of_row _ _ 5 _ _ (0, 0) h⟩
theorem Old.setCell2 {a w : World} (h : Old a w) {b i j : Nat} {u v : Value} (hb : a.heap.size ≤ b) : Old a ((w.setCell ⟨b, i, none⟩ u).setCell ⟨b, j, none⟩ v) := (h.setCell (p := ⟨b, i, none⟩) hb _).setCell (p := ⟨b, j, none⟩) hb _
theorem facs_take {w : World} {b : Option Addr} {n m : Nat} {F : Nat → Int} (h : FacsIn w b n F) (hm : m ≤ n) : FacsIn w b m F := by
  rcases h with h | ⟨c, o, e, hb, hr⟩
  · exact Or.inl (by omega)
  · exact Or.inr ⟨c, o, e, hb, fun j hj => hr j (by omega)⟩
theorem prf_early {we w5 : World} {B1 B2 : Nat} {bk : Option Addr} {nt ck : Nat} {bz : Option Addr} {nw cz : Nat} {F Z : Nat → Int} (hrow : w5.heap[we.heap.size]? = some (.cells NilP 51 (0, 0))) (h5 : Old we w5) (hF : ∀ j, U64 (F j)) (hZ : ∀ j, U64 (Z j)) (N : Nums w5 B1 (.slice bk nt ck) nt F) (M : Nums w5 B2 (.slice bz nw cz) nw Z) (h1 : we.heap.size < B1) (h2 : we.heap.size < B2) :
    ∃ (b : Nat) (bk' : Option Addr) (ck' : Nat) (bz' : Option Addr) (cz' : Nat), Value.pointer (some ⟨we.heap.size, 0, none⟩) = .pointer (some ⟨b, 0, none⟩) ∧ Value.bool true = .bool true ∧ Hid (Old we ((w5.setCell ⟨we.heap.size, 0, none⟩ (.slice bk nt ck)).setCell ⟨we.heap.size, 1, none⟩ (.slice bz nw cz))) ∧ Hid (((w5.setCell ⟨we.heap.size, 0, none⟩ (.slice bk nt ck)).setCell ⟨we.heap.size, 1, none⟩ (.slice bz nw cz)).cell? ⟨b, 0, none⟩ = some (.slice bk' nt ck') ∧ ((w5.setCell ⟨we.heap.size, 0, none⟩ (.slice bk nt ck)).setCell ⟨we.heap.size, 1, none⟩ (.slice bz nw cz)).cell? ⟨b, 1, none⟩ = some (.slice bz' nw cz')) ∧ Hid (FacsIn ((w5.setCell ⟨we.heap.size, 0, none⟩ (.slice bk nt ck)).setCell ⟨we.heap.size, 1, none⟩ (.slice bz nw cz)) bk' nt F ∧ FacsIn ((w5.setCell ⟨we.heap.size, 0, none⟩ (.slice bk nt ck)).setCell ⟨we.heap.size, 1, none⟩ (.slice bz nw cz)) bz' nw Z) := by
  have hr := set_row (set_row hrow 0 (.slice bk nt ck)) 1 (.slice bz nw cz)
  have n1 : (Value.slice bk nt ck).ownBlock ≠ some we.heap.size := fun he => by have := (World.ownsRow.lt N _ he).1; omega
  have n2 : (Value.slice bz nw cz).ownBlock ≠ some we.heap.size := fun he => by have := (World.ownsRow.lt M _ he).1; omega
  have N' : Nums ((w5.setCell ⟨we.heap.size, 0, none⟩ (.slice bk nt ck)).setCell ⟨we.heap.size, 1, none⟩ (.slice bz nw cz)) B1 (.slice bk nt ck) nt F := own_other (own_other N (p := ⟨we.heap.size, 0, none⟩) n1 _) (p := ⟨we.heap.size, 1, none⟩) n1 _
  have M' : Nums ((w5.setCell ⟨we.heap.size, 0, none⟩ (.slice bk nt ck)).setCell ⟨we.heap.size, 1, none⟩ (.slice bz nw cz)) B2 (.slice bz nw cz) nw Z := own_other (own_other M (p := ⟨we.heap.size, 0, none⟩) n2 _) (p := ⟨we.heap.size, 1, none⟩) n2 _
  obtain ⟨_, _, e1, _, f1⟩ := N'.facs (fun j _ => hF j)
  obtain ⟨_, _, e2, _, f2⟩ := M'.facs (fun j _ => hZ j)
  cases e1
  cases e2
  refine ⟨we.heap.size, bk, ck, bz, cz, rfl, rfl, h5.setCell2 (Nat.le_refl _), ⟨?_, ?_⟩, f1, f2⟩
  · rw [cell_of_row _ _ 0 _ _ (0, 0) hr]; simp
  · rw [cell_of_row _ _ 1 _ _ (0, 0) hr]; simp
theorem arr3_at (m0 m1 m2 : Int) : ∀ (i : Nat) (_ : i < 3) (w : World), (Instr.index 71 (.agg #[.int .u64 m0, .int .u64 m1, .int .u64 m2]) (.int .i64 (i : Int))).run Try.prog w = .ok (.int .u64 (tri7 m0 m1 m2 i)) w
  | 0, _, w => by
    obtain ⟨i, h1, h2⟩ := Option.map_eq_some_iff.1 u64info
    simp only [Prod.mk.injEq] at h2
    simp [Instr.index, run_underlying Try.underlying71, asIntOf, sizeOf, typeInfo, h1, h2.2.1, go_sem]
    rfl
  | 1, _, w => by
    obtain ⟨i, h1, h2⟩ := Option.map_eq_some_iff.1 u64info
    simp only [Prod.mk.injEq] at h2
    simp [Instr.index, run_underlying Try.underlying71, asIntOf, sizeOf, typeInfo, h1, h2.2.1, go_sem]
    rfl
  | 2, _, w => by
    obtain ⟨i, h1, h2⟩ := Option.map_eq_some_iff.1 u64info
    simp only [Prod.mk.injEq] at h2
    simp [Instr.index, run_underlying Try.underlying71, asIntOf, sizeOf, typeInfo, h1, h2.2.1, go_sem]
    rfl

set_option linter.unusedSimpArgs false in
set_option linter.unusedVariables false in
set_option maxRecDepth 100000 in
set_option maxHeartbeats 40000000 in
theorem law_true (P Q G H m0 m1 m2 x y r0 r1 r2 q0 q1 q2 : Int) (a : Option Addr) (n cap : Nat) (N A : Nat → Int) (FA : Nat → Option Addr) (RL RC : Nat → Nat) (RF : Nat → Nat → Int) (label : List Int) (w : World) (h4 : Four P Q G H) (_hcap : n ≤ cap) (hin : RowsIn w a n N A FA RL RC RF) (hm0 : U64 m0) (hm1 : U64 m1) (hm2 : U64 m2) (hlb : Bts label) (hx : U64 x) (hy : U64 y) (hr0 : U64 r0) (hr1 : U64 r1) (hr2 : U64 r2) (hq0 : U64 q0) (hq1 : U64 q1) (hq2 : U64 q2) :
    Calls Try.prog 8 #[gv P Q G H a n cap, .agg #[.int .u64 m0, .int .u64 m1, .int .u64 m2], .agg #[.string (strOfNums label), .int .u64 x, .int .u64 y, .int .u64 r0, .int .u64 r1, .int .u64 r2, .int .u64 q0, .int .u64 q1, .int .u64 q2]] w fun e w' => e = .returned (.bool true) ∧ Old w w' := by
  have HZ := lain3 w (gc P Q G H a n cap) #[.int .u64 m0, .int .u64 m1, .int .u64 m2] #[.string (strOfNums label), .int .u64 x, .int .u64 y, .int .u64 r0, .int .u64 r1, .int .u64 r2, .int .u64 q0, .int .u64 q1, .int .u64 q2] 25 71 73
  have HA : Hid (∀ wx, Calls Try.prog 20 #[] wx fun e w' => e = .returned (.bool true) ∧ Old wx w') := fun wx => awake7_any wx
  have HU : Hid (∀ wx, Old w wx → Calls Try.prog 10 #[gv P Q G H a n cap] wx fun e w' => e = .returned (.bool (fewB RL n && rightI P Q G H N A RF RL n)) ∧ Old wx w') := fun wx ho => group5_any P Q G H a n cap N A FA RL RC RF wx h4 (hin.old ho)
  have hsz : (strOfNums label).size = label.length := strOfNums_size label
  have ha := hin.a0
  clear hin
  go_enter Try.func8, Try.ntmps8
  go_upto_region 1 with fail
  generalize ((w.alloc (.cells (gc P Q G H a n cap) 25)).alloc (.cells #[.int .u64 m0, .int .u64 m1, .int .u64 m2] 71)).alloc (.cells #[.string (strOfNums label), .int .u64 x, .int .u64 y, .int .u64 r0, .int .u64 r1, .int .u64 r2, .int .u64 q0, .int .u64 q1, .int .u64 q2] 73) = W at *
  have HW0 : Hid (Old w W) := HZ.old
  have HT : Hid (∀ w', Old W w' → w'.cell? ⟨w.heap.size, 0, none⟩ = some (.int .u64 P) ∧ w'.cell? ⟨w.heap.size, 1, none⟩ = some (.int .u64 Q) ∧ w'.cell? ⟨w.heap.size, 2, none⟩ = some (.int .u64 G) ∧ w'.cell? ⟨w.heap.size, 3, none⟩ = some (.int .u64 H) ∧ w'.cell? ⟨w.heap.size, 4, none⟩ = some (.slice a n cap) ∧ w'.cell? ⟨w.heap.size + 1, 0, none⟩ = some (.int .u64 m0) ∧ w'.cell? ⟨w.heap.size + 1, 1, none⟩ = some (.int .u64 m1) ∧ w'.cell? ⟨w.heap.size + 1, 2, none⟩ = some (.int .u64 m2) ∧ w'.cell? ⟨w.heap.size + 1 + 1, 0, none⟩ = some (.string (strOfNums label)) ∧ w'.cell? ⟨w.heap.size + 1 + 1, 1, none⟩ = some (.int .u64 x) ∧ w'.cell? ⟨w.heap.size + 1 + 1, 2, none⟩ = some (.int .u64 y) ∧ w'.cell? ⟨w.heap.size + 1 + 1, 3, none⟩ = some (.int .u64 r0) ∧ w'.cell? ⟨w.heap.size + 1 + 1, 4, none⟩ = some (.int .u64 r1) ∧ w'.cell? ⟨w.heap.size + 1 + 1, 5, none⟩ = some (.int .u64 r2) ∧ w'.cell? ⟨w.heap.size + 1 + 1, 6, none⟩ = some (.int .u64 q0) ∧ w'.cell? ⟨w.heap.size + 1 + 1, 7, none⟩ = some (.int .u64 q1) ∧ w'.cell? ⟨w.heap.size + 1 + 1, 8, none⟩ = some (.int .u64 q2)) := fun w' ho => by
    have h := HZ.then ho
    exact ⟨h.cell 0 0 (by simp) rfl, h.cell 0 1 (by simp) rfl, h.cell 0 2 (by simp) rfl, h.cell 0 3 (by simp) rfl, h.cell 0 4 (by simp) rfl, h.cell 1 0 (by simp) rfl, h.cell 1 1 (by simp) rfl, h.cell 1 2 (by simp) rfl, h.cell 2 0 (by simp) rfl, h.cell 2 1 (by simp) rfl, h.cell 2 2 (by simp) rfl, h.cell 2 3 (by simp) rfl, h.cell 2 4 (by simp) rfl, h.cell 2 5 (by simp) rfl, h.cell 2 6 (by simp) rfl, h.cell 2 7 (by simp) rfl, h.cell 2 8 (by simp) rfl⟩
  clear HZ
  have HT5 : Hid (∀ w', Old W w' → w'.cell? ⟨w.heap.size, 0, none⟩ = some (.int .u64 P) ∧ w'.cell? ⟨w.heap.size, 1, none⟩ = some (.int .u64 Q) ∧ w'.cell? ⟨w.heap.size, 2, none⟩ = some (.int .u64 G) ∧ w'.cell? ⟨w.heap.size, 3, none⟩ = some (.int .u64 H) ∧ w'.cell? ⟨w.heap.size, 4, none⟩ = some (.slice a n cap)) := fun w' ho => by obtain ⟨d0, d1, d2, d3, d4, e0, e1, e2, s0, s1, s2, s3, s4, s5, s6, s7, s8⟩ := HT.out _ ho; exact ⟨d0, d1, d2, d3, d4⟩
  go_upto_region 3 with (go_at_call 20; refine (HA.out _).mono ?_; rintro e w1 ⟨rfl, h1⟩; obtain ⟨d0, d1, d2, d3, d4, e0, e1, e2, s0, s1, s2, s3, s4, s5, s6, s7, s8⟩ := HT.out _ h1)
  cases hg : (fewB RL n && rightI P Q G H N A RF RL n)
  · rw [hg] at HU
    clear hg ha h4
    go_wp2_with (go_at_call 10; refine (HU.out _ (HW0.out.trans h1)).mono ?_; rintro e w2 ⟨rfl, o2⟩)
    go_ret
    exact ⟨rfl, (HW0.out.trans h1).trans o2⟩
  have hg' := Bool.and_eq_true_iff.1 hg
  have hR := right_righ ha hg'.2
  rw [hg] at HU
  clear hg hg' ha
  by_cases hll : 100 < label.length
  · have k1 : (100 : Int) < (label.length : Int) := by omega
    clear h4 hR
    go_wp2_with (go_at_call 10; refine (HU.out _ (HW0.out.trans h1)).mono ?_; rintro e w2 ⟨rfl, o2⟩)
    go_ret
    exact ⟨rfl, (HW0.out.trans h1).trans o2⟩
  have k1 : ¬ (100 : Int) < (label.length : Int) := by omega
  go_upto_region 6 with (go_at_call 10; refine (HU.out _ (HW0.out.trans h1)).mono ?_; rintro e w2 ⟨rfl, o2⟩; have h2 : Old W w2 := h1.trans o2; obtain ⟨d0, d1, d2, d3, d4, e0, e1, e2, s0, s1, s2, s3, s4, s5, s6, s7, s8⟩ := HT.out _ h2)
  obtain ⟨key, hkey⟩ : ∃ key : Int, key = expI P Q G x := ⟨_, rfl⟩
  obtain ⟨tok, htok⟩ : ∃ tok : Int, tok = expI P Q G y := ⟨_, rfl⟩
  have HK1 : Hid (∀ wx, Calls Try.prog 38 #[gv P Q G H a n cap, .int .u64 x] wx fun e w' => e = .returned (.int .u64 key) ∧ Old wx w') := fun wx => (rkey_any P Q G H a n cap x wx h4 hR hx).mono fun e w' ⟨h, k⟩ => ⟨by rw [h, hkey], k⟩
  have HK2 : Hid (∀ wx, Calls Try.prog 38 #[gv P Q G H a n cap, .int .u64 y] wx fun e w' => e = .returned (.int .u64 tok) ∧ Old wx w') := fun wx => (rkey_any P Q G H a n cap y wx h4 hR hy).mono fun e w' ⟨h, k⟩ => ⟨by rw [h, htok], k⟩
  have HEQ : Hid (key = expI P Q G x ∧ tok = expI P Q G y) := ⟨hkey, htok⟩
  clear hkey htok
  have hd : Old W w2.drew := h2.drew
  go_region_held3 (fun w' => w'.cell? ⟨w.heap.size, 0, none⟩ = some (.int .u64 P) ∧ w'.cell? ⟨w.heap.size, 1, none⟩ = some (.int .u64 Q) ∧ w'.cell? ⟨w.heap.size, 2, none⟩ = some (.int .u64 G) ∧ w'.cell? ⟨w.heap.size, 3, none⟩ = some (.int .u64 H) ∧ w'.cell? ⟨w.heap.size, 4, none⟩ = some (.slice a n cap) ∧ w'.cell? ⟨w.heap.size + 1, 0, none⟩ = some (.int .u64 m0) ∧ w'.cell? ⟨w.heap.size + 1, 1, none⟩ = some (.int .u64 m1) ∧ w'.cell? ⟨w.heap.size + 1, 2, none⟩ = some (.int .u64 m2) ∧ w'.cell? ⟨w.heap.size + 1 + 1, 0, none⟩ = some (.string (strOfNums label)) ∧ w'.cell? ⟨w.heap.size + 1 + 1, 1, none⟩ = some (.int .u64 x) ∧ w'.cell? ⟨w.heap.size + 1 + 1, 2, none⟩ = some (.int .u64 y) ∧ w'.cell? ⟨w.heap.size + 1 + 1, 3, none⟩ = some (.int .u64 r0) ∧ w'.cell? ⟨w.heap.size + 1 + 1, 4, none⟩ = some (.int .u64 r1) ∧ w'.cell? ⟨w.heap.size + 1 + 1, 5, none⟩ = some (.int .u64 r2) ∧ w'.cell? ⟨w.heap.size + 1 + 1, 6, none⟩ = some (.int .u64 q0) ∧ w'.cell? ⟨w.heap.size + 1 + 1, 7, none⟩ = some (.int .u64 q1) ∧ w'.cell? ⟨w.heap.size + 1 + 1, 8, none⟩ = some (.int .u64 q2)) (first | exact HT.out _ h6 | exact HT.out _ h5 | exact HT.out _ hd) (first
    | (go_at_call 38; have hg := h5; refine (HK2.out _).mono ?_; rintro e w6 ⟨rfl, o6⟩; have h6 : Old W w6 := h5.trans o6)
    | (go_at_call 38; refine (HK1.out _).mono ?_; rintro e w5 ⟨rfl, o5⟩; have h5 : Old W w5 := hd.trans o5))
  have HW6 : Hid (Old W w6) := h6
  clear d0 d1 d2 d3 d4 e0 e1 e2 s0 s1 s2 s3 s4 s5 s6 s7 s8 h6 h5 o6 o5 hd h2 o2 h1 HA HU HK1 HK2
  go_upto_region 8 with fail
  obtain ⟨u0, hu0⟩ : ∃ z : Int, z = mulI 1 (expI P Q G r0) P := ⟨_, rfl⟩
  obtain ⟨u1, hu1⟩ : ∃ z : Int, z = mulI 1 (expI P Q G r1) P := ⟨_, rfl⟩
  obtain ⟨u2, hu2⟩ : ∃ z : Int, z = mulI 1 (expI P Q G r2) P := ⟨_, rfl⟩
  obtain ⟨v0, hv0⟩ : ∃ z : Int, z = mulI m0 (expI P Q key r0) P := ⟨_, rfl⟩
  obtain ⟨v1, hv1⟩ : ∃ z : Int, z = mulI m1 (expI P Q key r1) P := ⟨_, rfl⟩
  obtain ⟨v2, hv2⟩ : ∃ z : Int, z = mulI m2 (expI P Q key r2) P := ⟨_, rfl⟩
  have ukey : U64 key := by rw [HEQ.out.1]; exact u64_exp _ _ _ _
  have HSl : Hid (∀ i, i < 3 → ∀ wx, Calls Try.prog 39 #[gv P Q G H a n cap, .int .u64 key, .int .u64 (tri7 m0 m1 m2 i), .int .u64 (tri7 r0 r1 r2 i)] wx fun e w' => e = .returned (pv (tri7 u0 u1 u2 i) (tri7 v0 v1 v2 i)) ∧ Old wx w') := lt3 (p := fun i => ∀ wx, Calls Try.prog 39 #[gv P Q G H a n cap, .int .u64 key, .int .u64 (tri7 m0 m1 m2 i), .int .u64 (tri7 r0 r1 r2 i)] wx fun e w' => e = .returned (pv (tri7 u0 u1 u2 i) (tri7 v0 v1 v2 i)) ∧ Old wx w') (fun wx => (rseal_any P Q G H a n cap key m0 r0 wx h4 hR ukey hm0 hr0).mono fun e w' ⟨h, k⟩ => ⟨by rw [h, hu0, hv0]; rfl, k⟩) (fun wx => (rseal_any P Q G H a n cap key m1 r1 wx h4 hR ukey hm1 hr1).mono fun e w' ⟨h, k⟩ => ⟨by rw [h, hu1, hv1]; rfl, k⟩) (fun wx => (rseal_any P Q G H a n cap key m2 r2 wx h4 hR ukey hm2 hr2).mono fun e w' ⟨h, k⟩ => ⟨by rw [h, hu2, hv2]; rfl, k⟩)
  have HUV : Hid ((u0 = mulI 1 (expI P Q G r0) P ∧ u1 = mulI 1 (expI P Q G r1) P ∧ u2 = mulI 1 (expI P Q G r2) P) ∧ v0 = mulI m0 (expI P Q key r0) P) := ⟨⟨hu0, hu1, hu2⟩, hv0⟩
  have huu : Hid (U64 v0 ∧ U64 v2) := ⟨by rw [hv0]; exact u64_mul _ _ _, by rw [hv2]; exact u64_mul _ _ _⟩
  clear hu0 hu1 hu2 hv0 hv1 hv2
  have HBX : Hid ((w6.alloc (.cells #[.int .u64 0, .int .u64 0, .int .u64 0, .int .u64 0, .int .u64 0, .int .u64 0] 60)).heap[w6.heap.size]? = some (.cells (boxC u0 v0 u1 v1 u2 v2 0) 60 (0, 0))) := heap_alloc_last w6 _
  have HW7 : Hid (Old W (w6.alloc (.cells #[.int .u64 0, .int .u64 0, .int .u64 0, .int .u64 0, .int .u64 0, .int .u64 0] 60))) := HW6.out.alloc _
  have hbx : W.heap.size ≤ w6.heap.size := HW6.out.size
  generalize w6.alloc (.cells #[.int .u64 0, .int .u64 0, .int .u64 0, .int .u64 0, .int .u64 0, .int .u64 0] 60) = w7 at *
  generalize w6.heap.size = bx at *
  obtain ⟨d0, d1, d2, d3, d4, e0, e1, e2, s0, s1, s2, s3, s4, s5, s6, s7, s8⟩ := HT.out _ HW7.out
  go_upto_region 9 with fail
  clear d0 d1 d2 d3 d4 e0 e1 e2 s0 s1 s2 s3 s4 s5 s6 s7 s8
  have HI : Hid (∀ z wx, z ≤ 18446744073709551615 → Calls Try.prog 28 #[gv P Q G H a n cap, .int .u64 z] wx fun e w' => e = .returned (.bool (inI P Q z)) ∧ Old wx w') := fun z wx hz => rin_any P Q G H z a n cap wx h4.q0 h4.q1 hz
  have HM3 : Hid (∀ i, tri7 m0 m1 m2 i ≤ 18446744073709551615) := fun i => (u64_tri hm0 hm1 hm2 i).2
  have hidx := arr3_at m0 m1 m2
  have HR3 : Hid (∀ i, i < 3 → ∀ w', Old W w' → w'.cell? ⟨w.heap.size + 1 + 1, 3 + i, none⟩ = some (.int .u64 (tri7 r0 r1 r2 i))) := lt3 (p := fun i => ∀ w', Old W w' → w'.cell? ⟨w.heap.size + 1 + 1, 3 + i, none⟩ = some (.int .u64 (tri7 r0 r1 r2 i))) (fun w' ho => by obtain ⟨d0, d1, d2, d3, d4, e0, e1, e2, s0, s1, s2, s3, s4, s5, s6, s7, s8⟩ := HT.out _ ho; exact s3) (fun w' ho => by obtain ⟨d0, d1, d2, d3, d4, e0, e1, e2, s0, s1, s2, s3, s4, s5, s6, s7, s8⟩ := HT.out _ ho; exact s4) (fun w' ho => by obtain ⟨d0, d1, d2, d3, d4, e0, e1, e2, s0, s1, s2, s3, s4, s5, s6, s7, s8⟩ := HT.out _ ho; exact s5)
  go_loopw [40] (fun iv wx => ∃ i : Nat, iv = .int .i64 (i : Int) ∧ i ≤ 3 ∧ Hid (Old W wx) ∧ Hid (wx.heap[bx]? = some (.cells (boxC u0 v0 u1 v1 u2 v2 i) 60 (0, 0))) ∧ Hid (∀ j, j < i → inI P Q (tri7 m0 m1 m2 j) = true)) (fun iv _ => 3 - (intOf iv).toNat)
  case atStart => exact ⟨0, rfl, Nat.zero_le _, HW7, HBX, fun j hj => by omega⟩
  case round =>
    obtain ⟨i, rfl, hi, HO, HB, HJ⟩ := hrel
    by_cases hlt : i < 3
    · have hix := hidx i hlt
      have HC : Hid (∀ wx, Calls Try.prog 28 #[gv P Q G H a n cap, .int .u64 (tri7 m0 m1 m2 i)] wx fun e w' => e = .returned (.bool (inI P Q (tri7 m0 m1 m2 i))) ∧ Old wx w') := fun wx => HI.out _ wx (HM3.out i)
      have i1 : (i : Int) < 3 := by omega
      have i0 : (0 : Int) ≤ (i : Int) := by omega
      have HJ2 : Hid (inI P Q (tri7 m0 m1 m2 i) = true → ∀ j, j < i + 1 → inI P Q (tri7 m0 m1 m2 j) = true) := fun h => upto_succ HJ.out h
      have HS1 := HSl.out i hlt
      have HSi : Hid (∀ wx, Calls Try.prog 39 #[gv P Q G H a n cap, .int .u64 key, .int .u64 (tri7 m0 m1 m2 i), .int .u64 (tri7 r0 r1 r2 i)] wx fun e w' => e = .returned (pv (tri7 u0 u1 u2 i) (tri7 v0 v1 v2 i)) ∧ Old wx w') := HS1
      have HRi : Hid (∀ w', Old W w' → w'.cell? ⟨w.heap.size + 1 + 1, 3 + i, none⟩ = some (.int .u64 (tri7 r0 r1 r2 i))) := HR3.out i hlt
      have HNx : Hid (∀ wx : World, wx.heap[bx]? = some (.cells (boxC u0 v0 u1 v1 u2 v2 i) 60 (0, 0)) → ((wx.setCell ⟨bx, i * 2, none⟩ (.int .u64 (tri7 u0 u1 u2 i))).setCell ⟨bx, i * 2 + 1, none⟩ (.int .u64 (tri7 v0 v1 v2 i))).heap[bx]? = some (.cells (boxC u0 v0 u1 v1 u2 v2 (i + 1)) 60 (0, 0))) := fun wx h => box_set i hlt h
      have HCl : Hid (∀ wx : World, wx.heap[bx]? = some (.cells (boxC u0 v0 u1 v1 u2 v2 i) 60 (0, 0)) → wx.cell? ⟨bx, i * 2, none⟩ = some (.int .u64 0) ∧ wx.cell? ⟨bx, i * 2 + 1, none⟩ = some (.int .u64 0)) := fun wx h => box_cell i hlt h
      have hblt : bx < wr.heap.size := (Array.getElem?_eq_some_iff.1 HB.out).1
      clear HS1 hidx
      generalize tri7 m0 m1 m2 i = mi at *
      generalize tri7 r0 r1 r2 i = ri at *
      generalize tri7 u0 u1 u2 i = ui at *
      generalize tri7 v0 v1 v2 i = vi at *
      obtain ⟨d0, d1, d2, d3, d4, e0, e1, e2, s0, s1, s2, s3, s4, s5, s6, s7, s8⟩ := HT.out _ HO.out
      cases he : inI P Q mi
      · rw [he] at HC
        clear he h4 hR
        go_wp2_with (go_at_call 28; refine (HC.out _).mono ?_; rintro e w8 ⟨rfl, o8⟩)
        go_ret
        exact ⟨rfl, (HW0.out.trans HO.out).trans o8⟩
      · rw [he] at HC
        have HJ3 : Hid (∀ j, j < i + 1 → inI P Q (tri7 m0 m1 m2 j) = true) := HJ2.out he
        clear he h4 hR HJ2
        go_upto_region 13 with (go_at_call 28; refine (HC.out _).mono ?_; rintro e w8 ⟨rfl, o8⟩; clear d0 d1 d2 d3 d4 e0 e1 e2 s0 s1 s2 s3 s4 s5 s6 s7 s8; obtain ⟨d0, d1, d2, d3, d4, e0, e1, e2, s0, s1, s2, s3, s4, s5, s6, s7, s8⟩ := HT.out _ (HO.out.trans o8))
        have HO8 : Hid (Old W w8) := HO.out.trans o8
        have HB8 : Hid (w8.heap[bx]? = some (.cells (boxC u0 v0 u1 v1 u2 v2 i) 60 (0, 0))) := (o8.block _ hblt).trans HB.out
        have hbl8 : bx < w8.heap.size := Nat.lt_of_lt_of_le hblt o8.size
        clear o8
        have hd : Old W w8.drew := HO8.out.drew
        have ri8 := HRi.out _ HO8.out
        go_region_held3 (fun w' => (w'.cell? ⟨w.heap.size, 0, none⟩ = some (.int .u64 P) ∧ w'.cell? ⟨w.heap.size, 1, none⟩ = some (.int .u64 Q) ∧ w'.cell? ⟨w.heap.size, 2, none⟩ = some (.int .u64 G) ∧ w'.cell? ⟨w.heap.size, 3, none⟩ = some (.int .u64 H) ∧ w'.cell? ⟨w.heap.size, 4, none⟩ = some (.slice a n cap)) ∧ w'.cell? ⟨w.heap.size + 1 + 1, 3 + i, none⟩ = some (.int .u64 ri)) (first | exact ⟨HT5.out _ (h9.setCell2 hbx), HRi.out _ (h9.setCell2 hbx)⟩ | exact ⟨HT5.out _ h9, HRi.out _ h9⟩ | exact ⟨HT5.out _ hd, HRi.out _ hd⟩) (first
          | (go_at_call 39; refine (HSi.out _).mono ?_; rintro e w9 ⟨rfl, o9⟩; have h9 : Old W w9 := hd.trans o9; have hrow : w9.heap[bx]? = some (.cells (boxC u0 v0 u1 v1 u2 v2 i) 60 (0, 0)) := (o9.block _ hbl8).trans HB8.out; have HB9 : Hid (w9.heap[bx]? = some (.cells (boxC u0 v0 u1 v1 u2 v2 i) 60 (0, 0))) := hrow; obtain ⟨b0, b1⟩ := HCl.out _ hrow; have f0 := row_frozen hrow (i * 2); have f1 := row_frozen hrow (i * 2 + 1); clear hrow))
        have HO9 : Hid (Old W ((w9.setCell ⟨bx, i * 2, none⟩ (.int .u64 ui)).setCell ⟨bx, i * 2 + 1, none⟩ (.int .u64 vi))) := h9.setCell2 hbx
        have HB10 : Hid (((w9.setCell ⟨bx, i * 2, none⟩ (.int .u64 ui)).setCell ⟨bx, i * 2 + 1, none⟩ (.int .u64 vi)).heap[bx]? = some (.cells (boxC u0 v0 u1 v1 u2 v2 (i + 1)) 60 (0, 0))) := HNx.out _ HB9.out
        clear d0 d1 d2 d3 d4 e0 e1 e2 s0 s1 s2 s3 s4 s5 s6 s7 s8 ri8 b0 b1 f0 f1
        go_wp2_with fail
        go_roundw
        case rel => exact ⟨i + 1, idx_next i, by omega, HO9, HB10, HJ3⟩
        case measure => simp [intOf]; omega
    · have he : i = 3 := by omega
      subst he
      have HMin : Hid (∀ j, j < 3 → inI P Q (tri7 m0 m1 m2 j) = true) := HJ
      have HBc : Hid (∀ w', Old wr w' → w'.cell? ⟨bx, 0, none⟩ = some (.int .u64 u0) ∧ w'.cell? ⟨bx, 1, none⟩ = some (.int .u64 v0) ∧ w'.cell? ⟨bx, 2, none⟩ = some (.int .u64 u1) ∧ w'.cell? ⟨bx, 3, none⟩ = some (.int .u64 v1) ∧ w'.cell? ⟨bx, 4, none⟩ = some (.int .u64 u2) ∧ w'.cell? ⟨bx, 5, none⟩ = some (.int .u64 v2)) := fun w' ho => by
        have hrow := (ho.block _ (Array.getElem?_eq_some_iff.1 HB.out).1).trans HB.out
        exact ⟨cell_of_row _ _ 0 _ _ (0, 0) hrow, cell_of_row _ _ 1 _ _ (0, 0) hrow, cell_of_row _ _ 2 _ _ (0, 0) hrow, cell_of_row _ _ 3 _ _ (0, 0) hrow, cell_of_row _ _ 4 _ _ (0, 0) hrow, cell_of_row _ _ 5 _ _ (0, 0) hrow⟩
      obtain ⟨ww, hww⟩ : ∃ z : Int, z = mulI 1 (expI P Q G r1) P := ⟨_, rfl⟩
      obtain ⟨vv, hvv⟩ : ∃ z : Int, z = mulI (overI P v0 (expI P Q u0 x)) (expI P Q tok r1) P := ⟨_, rfl⟩
      have hu0i : inI P Q u0 = true := by rw [HUV.out.1.1]; exact (seal_u hR hr0.1).1
      have hu2i : inI P Q u2 = true := by rw [HUV.out.1.2.2]; exact (seal_u hR hr2.1).1
      have htki : inI P Q tok = true := by rw [HEQ.out.2]; exact hR.exp_in hR.gin
      have hkyi : inI P Q key = true := by rw [HEQ.out.1]; exact hR.exp_in hR.gin
      have hv0i : inI P Q v0 = true := by rw [HUV.out.2]; exact hR.mul_in (HMin.out 0 (by omega)) (hR.exp_in hkyi)
      have utok : U64 tok := by rw [HEQ.out.2]; exact u64_exp _ _ _ _
      have HEn : Hid (∀ wx, Calls Try.prog 40 #[pv u0 v0] wx fun e w' => e = .returned (tv u0 1 v0) ∧ Old wx w') := fun wx => renter_any u0 v0 wx
      have HCr : Hid (∀ wx, Calls Try.prog 41 #[gv P Q G H a n cap, .int .u64 x, .int .u64 tok, tv u0 1 v0, .int .u64 r1] wx fun e w' => e = .returned (tv u0 ww vv) ∧ Old wx w') := fun wx => (rcross_any P Q G H a n cap x tok u0 1 v0 r1 wx h4 hR hx utok hu0i ⟨by omega, by omega⟩ huu.out.1 hr1).mono fun e w' ⟨h, k⟩ => ⟨by rw [h, hww, hvv], k⟩
      have hww1 : Hid (ww = mulI 1 (expI P Q G r1) P ∧ vv = mulI (overI P v0 (expI P Q u0 x)) (expI P Q tok r1) P) := ⟨hww, hvv⟩
      have uww : U64 ww := by rw [hww]; exact u64_mul _ _ _
      have uvv : U64 vv := by rw [hvv]; exact u64_mul _ _ _
      clear hww hvv
      obtain ⟨b0, b1, b2, b3, b4, b5⟩ := HBc.out _ (Old.refl _)
      go_upto_region 16 with (go_at_call 40; refine (HEn.out _).mono ?_; rintro e wa ⟨rfl, oa⟩)
      clear b0 b1 b2 b3 b4 b5
      have HOb : Hid (Old wr (wa.alloc (.cells #[.int .u64 u0, .int .u64 1, .int .u64 v0] 62))) := oa.alloc _
      have HPa : Hid (∀ w', Old (wa.alloc (.cells #[.int .u64 u0, .int .u64 1, .int .u64 v0] 62)) w' → w'.cell? ⟨wa.heap.size, 0, none⟩ = some (.int .u64 u0) ∧ w'.cell? ⟨wa.heap.size, 1, none⟩ = some (.int .u64 1) ∧ w'.cell? ⟨wa.heap.size, 2, none⟩ = some (.int .u64 v0)) := fun w' ho => ⟨ho.cellOf ((World.cell?_alloc_mark wa _ _ (0, 0) 0).trans rfl), ho.cellOf ((World.cell?_alloc_mark wa _ _ (0, 0) 1).trans rfl), ho.cellOf ((World.cell?_alloc_mark wa _ _ (0, 0) 2).trans rfl)⟩
      generalize wa.alloc (.cells #[.int .u64 u0, .int .u64 1, .int .u64 v0] 62) = wb at *
      generalize wa.heap.size = pa at *
      clear oa
      obtain ⟨d0, d1, d2, d3, d4, e0, e1, e2, s0, s1, s2, s3, s4, s5, s6, s7, s8⟩ := HT.out _ (HO.out.trans HOb.out)
      obtain ⟨a0, a1, a2⟩ := HPa.out _ (Old.refl _)
      go_upto_region 17 with (go_at_call 41; refine (HCr.out _).mono ?_; rintro e wc ⟨rfl, oc⟩)
      clear d0 d1 d2 d3 d4 e0 e1 e2 s0 s1 s2 s3 s4 s5 s6 s7 s8 a0 a1 a2
      have HOd : Hid (Old wb (wc.alloc (.cells #[.int .u64 u0, .int .u64 ww, .int .u64 vv] 62))) := oc.alloc _
      have HPt : Hid (∀ w', Old (wc.alloc (.cells #[.int .u64 u0, .int .u64 ww, .int .u64 vv] 62)) w' → w'.cell? ⟨wc.heap.size, 0, none⟩ = some (.int .u64 u0) ∧ w'.cell? ⟨wc.heap.size, 1, none⟩ = some (.int .u64 ww) ∧ w'.cell? ⟨wc.heap.size, 2, none⟩ = some (.int .u64 vv)) := fun w' ho => ⟨ho.cellOf ((World.cell?_alloc_mark wc _ _ (0, 0) 0).trans rfl), ho.cellOf ((World.cell?_alloc_mark wc _ _ (0, 0) 1).trans rfl), ho.cellOf ((World.cell?_alloc_mark wc _ _ (0, 0) 2).trans rfl)⟩
      generalize wc.alloc (.cells #[.int .u64 u0, .int .u64 ww, .int .u64 vv] 62) = wd at *
      generalize wc.heap.size = pt at *
      clear oc
      have HTA : Hid (∀ w', Old wd w' → (w'.cell? ⟨w.heap.size, 0, none⟩ = some (.int .u64 P) ∧ w'.cell? ⟨w.heap.size, 1, none⟩ = some (.int .u64 Q) ∧ w'.cell? ⟨w.heap.size, 2, none⟩ = some (.int .u64 G) ∧ w'.cell? ⟨w.heap.size, 3, none⟩ = some (.int .u64 H) ∧ w'.cell? ⟨w.heap.size, 4, none⟩ = some (.slice a n cap) ∧ w'.cell? ⟨w.heap.size + 1, 0, none⟩ = some (.int .u64 m0) ∧ w'.cell? ⟨w.heap.size + 1, 1, none⟩ = some (.int .u64 m1) ∧ w'.cell? ⟨w.heap.size + 1, 2, none⟩ = some (.int .u64 m2) ∧ w'.cell? ⟨w.heap.size + 1 + 1, 0, none⟩ = some (.string (strOfNums label)) ∧ w'.cell? ⟨w.heap.size + 1 + 1, 1, none⟩ = some (.int .u64 x) ∧ w'.cell? ⟨w.heap.size + 1 + 1, 2, none⟩ = some (.int .u64 y) ∧ w'.cell? ⟨w.heap.size + 1 + 1, 3, none⟩ = some (.int .u64 r0) ∧ w'.cell? ⟨w.heap.size + 1 + 1, 4, none⟩ = some (.int .u64 r1) ∧ w'.cell? ⟨w.heap.size + 1 + 1, 5, none⟩ = some (.int .u64 r2) ∧ w'.cell? ⟨w.heap.size + 1 + 1, 6, none⟩ = some (.int .u64 q0) ∧ w'.cell? ⟨w.heap.size + 1 + 1, 7, none⟩ = some (.int .u64 q1) ∧ w'.cell? ⟨w.heap.size + 1 + 1, 8, none⟩ = some (.int .u64 q2)) ∧ (w'.cell? ⟨bx, 0, none⟩ = some (.int .u64 u0) ∧ w'.cell? ⟨bx, 1, none⟩ = some (.int .u64 v0) ∧ w'.cell? ⟨bx, 2, none⟩ = some (.int .u64 u1) ∧ w'.cell? ⟨bx, 3, none⟩ = some (.int .u64 v1) ∧ w'.cell? ⟨bx, 4, none⟩ = some (.int .u64 u2) ∧ w'.cell? ⟨bx, 5, none⟩ = some (.int .u64 v2)) ∧ (w'.cell? ⟨pa, 0, none⟩ = some (.int .u64 u0) ∧ w'.cell? ⟨pa, 1, none⟩ = some (.int .u64 1) ∧ w'.cell? ⟨pa, 2, none⟩ = some (.int .u64 v0)) ∧ w'.cell? ⟨pt, 0, none⟩ = some (.int .u64 u0) ∧ w'.cell? ⟨pt, 1, none⟩ = some (.int .u64 ww) ∧ w'.cell? ⟨pt, 2, none⟩ = some (.int .u64 vv)) := fun w' ho => ⟨HT.out _ (HO.out.trans ((HOb.out.trans HOd.out).trans ho)), HBc.out _ ((HOb.out.trans HOd.out).trans ho), HPa.out _ (HOd.out.trans ho), HPt.out _ ho⟩
      have HOW : Hid (∀ w', Old wd w' → Old w w') := fun w' ho => (HW0.out.trans HO.out).trans ((HOb.out.trans HOd.out).trans ho)
      obtain ⟨sh, hsh⟩ : ∃ z : Int, z = expI P Q u2 x := ⟨_, rfl⟩
      have gG : U64 G := ⟨h4.g0, h4.g1⟩
      have uu0 : U64 u0 := by rw [HUV.out.1.1]; exact u64_mul _ _ _
      have uu1 : U64 u1 := by rw [HUV.out.1.2.1]; exact u64_mul _ _ _
      have uu2 : U64 u2 := by rw [HUV.out.1.2.2]; exact u64_mul _ _ _
      have ush : U64 sh := by rw [hsh]; exact u64_exp _ _ _ _
      have HKe : Hid (∀ wx, Calls Try.prog 30 #[gv P Q G H a n cap, .int .u64 key] wx (MadeIn wx 1 (fun _ => key) 1 (fun _ => 1) (fun _ _ => G))) := fun wx => (pkeeps_any P Q G H a n cap key wx).mono fun e w' h => h.made (fun _ _ => ukey) (fun _ _ _ _ => gG)
      have HKn : Hid (∀ wx, Calls Try.prog 32 #[gv P Q G H a n cap, bv u0 v0 u1 v1 u2 v2] wx (MadeIn wx 3 (tri7 u0 u1 u2) 3 (fun _ => 3) (fun j => rowAt G j))) := fun wx => (pknows_any P Q G H a n cap u0 v0 u1 v1 u2 v2 wx).mono fun e w' h => h.made (fun j _ => u64_tri uu0 uu1 uu2 j) (fun j _ i _ => u64_rowAt gG j i)
      have HSh : Hid (∀ wx, Calls Try.prog 42 #[gv P Q G H a n cap, .int .u64 x, pv u2 v2] wx fun e w' => e = .returned (.int .u64 sh) ∧ Old wx w') := fun wx => (rshare_any P Q G H a n cap x u2 v2 wx h4 hR hx uu2).mono fun e w' ⟨h, k⟩ => ⟨by rw [h, hsh], k⟩
      have HSs : Hid (∀ wx, Calls Try.prog 34 #[gv P Q G H a n cap, .int .u64 key, pv u2 v2, .int .u64 sh] wx (MadeIn wx 2 (two7 key sh) 2 (fun _ => 1) (two7r (fun _ => G) (fun _ => u2)))) := fun wx => (pshares_any P Q G H a n cap key u2 v2 sh wx).mono fun e w' h => h.made (fun j _ => u64_two ukey ush j) (fun j _ i _ => u64_two7r (fun _ => gG) (fun _ => uu2) j i)
      obtain ⟨oA, hoA⟩ : ∃ z : Int, z = overI P ww 1 := ⟨_, rfl⟩
      obtain ⟨oB, hoB⟩ : ∃ z : Int, z = overI P vv v0 := ⟨_, rfl⟩
      obtain ⟨oC, hoC⟩ : ∃ z : Int, z = overI P 1 u0 := ⟨_, rfl⟩
      have HCs : Hid (∀ wx, Calls Try.prog 36 #[gv P Q G H a n cap, .int .u64 key, .int .u64 tok, tv u0 1 v0, tv u0 ww vv] wx (MadeIn wx 3 (tri7 key oA oB) 3 (fun _ => 2) (tri7r (two7 G 1) (two7 1 G) (two7 oC tok)))) := fun wx => by
        rw [hoA, hoB, hoC]
        exact (pcrosses_any P Q G H a n cap key tok u0 1 v0 u0 ww vv wx h4 hR hu0i hR.one_in hv0i uww uvv).mono fun e w' h => h.made (fun j _ => u64_tri ukey (u64_over _ _ _) (u64_over _ _ _) j) (fun j _ i _ => u64_tri7r (u64_two gG ⟨by omega, by omega⟩) (u64_two ⟨by omega, by omega⟩ gG) (u64_two (u64_over _ _ _) utok) j i)
      have HG1 : Hid (GoodE P Q 1 (fun _ => key) (fun _ => 1) (fun _ _ => G) 1 (fun _ => x)) := by
        have := good_keeps hR hx.1
        rwa [← HEQ.out.1] at this
      have HG2 : Hid (GoodE P Q 3 (tri7 u0 u1 u2) (fun _ => 3) (fun j => rowAt G j) 3 (tri7 r0 r1 r2)) := by
        have := good_knows hR hr0.1 hr1.1 hr2.1
        rwa [← HUV.out.1.1, ← HUV.out.1.2.1, ← HUV.out.1.2.2] at this
      have HG3 : Hid (GoodE P Q 2 (two7 key sh) (fun _ => 1) (two7r (fun _ => G) (fun _ => u2)) 1 (fun _ => x)) := by
        have := good_shares hR hx.1 hu2i
        rwa [← HEQ.out.1, ← hsh] at this
      have HG4 : Hid (GoodE P Q 3 (tri7 key oA oB) (fun _ => 2) (tri7r (two7 G 1) (two7 1 G) (two7 oC tok)) 2 (two7 x r1)) := by
        have := good_crosses hR hx.1 hr1.1 htki hu0i hv0i
        rw [← HEQ.out.1, ← hww1.out.1, ← hww1.out.2, ← hoA, ← hoB, ← hoC] at this
        exact this
      have H4h : Hid (Four P Q G H ∧ Righ P Q G) := ⟨h4, hR⟩
      clear hsh hoA hoB hoC h4 hR hu0i hu2i htki hkyi hv0i HI HM3 hidx HR3 HSl HUV HEQ huu hww1 HEn HCr HBX HB HJ HMin HBc HPa HPt HT5
      refine wp_region_ways (Fac Old wd (fun t => ⟨#[gv P Q G H a n cap, Value.agg #[Value.int IntKind.u64 m0, Value.int IntKind.u64 m1, Value.int IntKind.u64 m2], Value.agg #[Value.string (strOfNums label), Value.int IntKind.u64 x, Value.int IntKind.u64 y, Value.int IntKind.u64 r0, Value.int IntKind.u64 r1, Value.int IntKind.u64 r2, Value.int IntKind.u64 q0, Value.int IntKind.u64 q1, Value.int IntKind.u64 q2], Value.pointer (some { block := w.heap.size, off := 0 }), Value.pointer (some { block := w.heap.size + 1, off := 0 }), Value.pointer (some { block := w.heap.size + 1 + 1, off := 0 }), u6, Value.string (strOfNums label), Value.int IntKind.u64 key, Value.int IntKind.u64 tok, Value.pointer (some { block := bx, off := 0 }), u11, u12, Value.pointer (some { block := pa, off := 0 }), Value.pointer (some { block := pt, off := 0 }), undef, undef, undef, undef, Value.bool true, Value.bool false, Value.pointer (some { block := w.heap.size + 1 + 1, off := 0 }), Value.string (strOfNums label), Value.agg #[Value.int IntKind.u64 P, Value.int IntKind.u64 Q, Value.int IntKind.u64 G, Value.int IntKind.u64 H, Value.slice a n cap], Value.bool true, Value.bool false, Value.bool false, Value.string (strOfNums label), Value.int IntKind.i64 ↑label.length, Value.bool (decide ((100 : Int) < (label.length : Int))), Value.bool (decide ((100 : Int) < (label.length : Int))), Value.agg #[Value.int IntKind.u64 P, Value.int IntKind.u64 Q, Value.int IntKind.u64 G, Value.int IntKind.u64 H, Value.slice a n cap], Value.pointer (some { block := w.heap.size + 1 + 1, off := 1 }), Value.int IntKind.u64 x, Value.int IntKind.u64 key, Value.agg #[Value.int IntKind.u64 P, Value.int IntKind.u64 Q, Value.int IntKind.u64 G, Value.int IntKind.u64 H, Value.slice a n cap], Value.pointer (some { block := w.heap.size + 1 + 1, off := 2 }), Value.int IntKind.u64 y, Value.int IntKind.u64 tok, Value.agg #[Value.int IntKind.u64 m0, Value.int IntKind.u64 m1, Value.int IntKind.u64 m2], Value.int IntKind.i64 3, Value.bool false, u42, u43, u44, u45, u46, u47, u48, u49, u50, u51, u52, u53, u54, u55, u56, u57, u58, Value.pointer (some { block := bx, off := 0 }), Value.agg #[Value.int IntKind.u64 u0, Value.int IntKind.u64 v0], tv u0 1 v0, Value.agg #[Value.int IntKind.u64 P, Value.int IntKind.u64 Q, Value.int IntKind.u64 G, Value.int IntKind.u64 H, Value.slice a n cap], Value.pointer (some { block := w.heap.size + 1 + 1, off := 1 }), Value.int IntKind.u64 x, Value.int IntKind.u64 tok, Value.agg #[Value.int IntKind.u64 u0, Value.int IntKind.u64 1, Value.int IntKind.u64 v0], Value.pointer (some { block := w.heap.size + 1 + 1, off := 3 }), Value.pointer (some { block := w.heap.size + 1 + 1, off := 4 }), Value.int IntKind.u64 r1, tv u0 ww vv, t 71, t 72, t 73, t 74, t 75, t 76, t 77, t 78, t 79, t 80, t 81, t 82, t 83, t 84, t 85, t 86, t 87, t 88, t 89, t 90, t 91, t 92, t 93, t 94, t 95, t 96, t 97, t 98, t 99, t 100, t 101, t 102, t 103, t 104, t 105, t 106, t 107, t 108, t 109, t 110, t 111, t 112, t 113, t 114, undef, undef, undef, undef, undef, undef, undef, undef, undef, undef, undef, undef, undef, undef, undef, undef, undef, undef, undef, undef, undef, undef, undef, undef, undef, undef, undef, undef, undef, undef, undef, undef, undef, undef, undef, undef, undef, undef, undef], []⟩) 71 (trF w.heap.size bx P Q G H a n cap key tok x r1 u0 v0 u1 v1 u2 v2 ww vv sh oA oB oC)) (by kernel_rfl) (by kernel_rfl) ⟨(Old.refl _).drew, fun _ => undef, rfl, fun _ h => by cases h⟩ ?step ?fin
      case step =>
        refine stepsOk.cons ?_ ?_
        · intro l a2 wx K hli hpre hJ hK
          obtain ⟨hO, t, rfl, hf⟩ := hJ
          obtain ⟨⟨d0, d1, d2, d3, d4, e0, e1, e2, s0, s1, s2, s3, s4, s5, s6, s7, s8⟩, ⟨b0, b1, b2, b3, b4, b5⟩, ⟨a0, a1, a2⟩, t0, t1, t2⟩ := HTA.out _ hO
          rw [if_pos (by rfl)]
          go_simp
          exact hK.out _ _ (Fac.keep 0 (gv P Q G H a n cap) rfl hf (fun _ _ h => h) hO rfl)
        refine stepsOk.cons ?_ ?_
        · intro l a2 wx K hli hpre hJ hK
          obtain ⟨hO, t, rfl, hf⟩ := hJ
          rw [if_pos (by rfl)]
          go_simp
          exact hK.out _ _ (Fac.keep 1 (.int .u64 key) rfl hf (fun _ _ h => h) hO rfl)
        refine stepsOk.cons ?_ ?_
        · intro l a2 wx K hli hpre hJ hK
          obtain ⟨hO, t, rfl, hf⟩ := hJ
          have p71 : t 71 = gv P Q G H a n cap := hf 0 (hpre ⟨0, .data⟩ (by simp) (by rfl))
          have p72 : t 72 = .int .u64 key := hf 1 (hpre ⟨1, .data⟩ (by simp) (by rfl))
          rw [if_pos (by rfl)]
          go_simp
          refine (HKe.out _).mono ?_
          rintro e wz ⟨bt, ct, bb, cb, BA, C, rfl, oz, hc⟩
          exact hK.out _ _ (Fac.keep 2 (cv bt 1 ct bb 1 cb) (by (try simp only [← p71, ← p72]); rfl) hf (fun k u h => trF_old k u h oz) (hO.trans oz) ⟨bt, ct, bb, cb, BA, C, rfl, hc⟩)
        refine stepsOk.cons ?_ ?_
        · intro l a2 wx K hli hpre hJ hK
          obtain ⟨hO, t, rfl, hf⟩ := hJ
          rw [if_pos (by rfl)]
          go_simp
          exact hK.out _ _ (Fac.keep 3 (.pointer (some ⟨w.heap.size + 1 + 1, 1, none⟩)) rfl hf (fun _ _ h => h) hO rfl)
        refine stepsOk.cons ?_ ?_
        · intro l a2 wx K hli hpre hJ hK
          obtain ⟨hO, t, rfl, hf⟩ := hJ
          have p74 : t 74 = .pointer (some ⟨w.heap.size + 1 + 1, 1, none⟩) := hf 3 (hpre ⟨3, .data⟩ (by simp) (by rfl))
          obtain ⟨⟨d0, d1, d2, d3, d4, e0, e1, e2, s0, s1, s2, s3, s4, s5, s6, s7, s8⟩, ⟨b0, b1, b2, b3, b4, b5⟩, ⟨a0, a1, a2⟩, t0, t1, t2⟩ := HTA.out _ hO
          rw [if_pos (by rfl)]
          go_simp
          exact hK.out _ _ (Fac.keep 4 (.int .u64 x) (by (try simp only [← p74]); rfl) hf (fun _ _ h => h) hO rfl)
        refine stepsOk.cons ?_ ?_
        · intro l a2 wx K hli hpre hJ hK
          obtain ⟨hO, t, rfl, hf⟩ := hJ
          have p75 : t 75 = .int .u64 x := hf 4 (hpre ⟨4, .data⟩ (by simp) (by rfl))
          rw [if_pos (by rfl)]
          go_simp
          exact hK.out _ _ (Fac.keep 5 (.slice (some ⟨wx.heap.size, 0, none⟩) 1 1) (by (try simp only [← p75]); rfl) hf (fun k u h => trF_old k u h ((Old.refl _).alloc _)) (hO.alloc _) (⟨_, rfl, facs_one wx x _ hx⟩))
        refine stepsOk.cons ?_ ?_
        · intro l a2 wx K hli hpre hJ hK
          obtain ⟨hO, t, rfl, hf⟩ := hJ
          have P2 : CF wx (t 73) 1 (fun _ => key) (fun _ => 1) (fun _ _ => G) := hf 2 (hpre ⟨2, .data⟩ (by simp) (by rfl))
          have P5 : ∃ b, t 76 = .slice (some ⟨b, 0, none⟩) 1 1 ∧ FacsIn wx (some ⟨b, 0, none⟩) 1 (fun _ => x) := hf 5 (hpre ⟨5, .data⟩ (by simp) (by rfl))
          obtain ⟨bt, ct, bb, cb, BA, C, e1, hc⟩ := P2
          obtain ⟨b, e2, hfa⟩ := P5
          have HFa : Hid _ := hfa
          have HCc : Hid _ := hc
          clear hc
          clear hfa
          rw [if_pos (by rfl)]
          go_simp
          exact hK.out _ _ (Fac.keep 6 (.agg #[.slice bt 1 ct, .slice bb 1 cb, .slice (some ⟨b, 0, none⟩) 1 1]) (by (try simp only [← e1, ← e2]); rfl) hf (fun _ _ h => h) hO ⟨bt, 1, ct, bb, cb, some ⟨b, 0, none⟩, 1, 1, rfl, 1, _, _, _, 1, _, bt, ct, bb, cb, BA, C, some ⟨b, 0, none⟩, 1, rfl, rfl, rfl, Nat.le_refl _, HG1.out, HCc.out, HFa.out⟩)
        refine stepsOk.cons ?_ ?_
        · intro l a2 wx K hli hpre hJ hK
          obtain ⟨hO, t, rfl, hf⟩ := hJ
          obtain ⟨⟨d0, d1, d2, d3, d4, e0, e1, e2, s0, s1, s2, s3, s4, s5, s6, s7, s8⟩, ⟨b0, b1, b2, b3, b4, b5⟩, ⟨a0, a1, a2⟩, t0, t1, t2⟩ := HTA.out _ hO
          rw [if_pos (by rfl)]
          go_simp
          exact hK.out _ _ (Fac.keep 7 (gv P Q G H a n cap) rfl hf (fun _ _ h => h) hO rfl)
        refine stepsOk.cons ?_ ?_
        · intro l a2 wx K hli hpre hJ hK
          obtain ⟨hO, t, rfl, hf⟩ := hJ
          obtain ⟨⟨d0, d1, d2, d3, d4, e0, e1, e2, s0, s1, s2, s3, s4, s5, s6, s7, s8⟩, ⟨b0, b1, b2, b3, b4, b5⟩, ⟨a0, a1, a2⟩, t0, t1, t2⟩ := HTA.out _ hO
          rw [if_pos (by rfl)]
          go_simp
          exact hK.out _ _ (Fac.keep 8 (.agg #[.int .u64 u0, .int .u64 v0, .int .u64 u1, .int .u64 v1, .int .u64 u2, .int .u64 v2]) rfl hf (fun _ _ h => h) hO rfl)
        refine stepsOk.cons ?_ ?_
        · intro l a2 wx K hli hpre hJ hK
          obtain ⟨hO, t, rfl, hf⟩ := hJ
          have p78 : t 78 = gv P Q G H a n cap := hf 7 (hpre ⟨7, .data⟩ (by simp) (by rfl))
          have p79 : t 79 = .agg #[.int .u64 u0, .int .u64 v0, .int .u64 u1, .int .u64 v1, .int .u64 u2, .int .u64 v2] := hf 8 (hpre ⟨8, .data⟩ (by simp) (by rfl))
          rw [if_pos (by rfl)]
          go_simp
          refine (HKn.out _).mono ?_
          rintro e wz ⟨bt, ct, bb, cb, BA, C, rfl, oz, hc⟩
          exact hK.out _ _ (Fac.keep 9 (cv bt 3 ct bb 3 cb) (by (try simp only [← p78, ← p79]); rfl) hf (fun k u h => trF_old k u h oz) (hO.trans oz) ⟨bt, ct, bb, cb, BA, C, rfl, hc⟩)
        refine stepsOk.cons ?_ ?_
        · intro l a2 wx K hli hpre hJ hK
          obtain ⟨hO, t, rfl, hf⟩ := hJ
          rw [if_pos (by rfl)]
          go_simp
          exact hK.out _ _ (Fac.keep 10 (.pointer (some ⟨w.heap.size + 1 + 1, 3, none⟩)) rfl hf (fun _ _ h => h) hO rfl)
        refine stepsOk.cons ?_ ?_
        · intro l a2 wx K hli hpre hJ hK
          obtain ⟨hO, t, rfl, hf⟩ := hJ
          have p81 : t 81 = .pointer (some ⟨w.heap.size + 1 + 1, 3, none⟩) := hf 10 (hpre ⟨10, .data⟩ (by simp) (by rfl))
          rw [if_pos (by rfl)]
          go_simp
          exact hK.out _ _ (Fac.keep 11 (.slice (some ⟨w.heap.size + 1 + 1, 3, none⟩) 3 3) (by (try simp only [← p81]); rfl) hf (fun _ _ h => h) hO rfl)
        refine stepsOk.cons ?_ ?_
        · intro l a2 wx K hli hpre hJ hK
          obtain ⟨hO, t, rfl, hf⟩ := hJ
          have P9 : CF wx (t 80) 3 (tri7 u0 u1 u2) (fun _ => 3) (fun j => rowAt G j) := hf 9 (hpre ⟨9, .data⟩ (by simp) (by rfl))
          have p82 : t 82 = .slice (some ⟨w.heap.size + 1 + 1, 3, none⟩) 3 3 := hf 11 (hpre ⟨11, .data⟩ (by simp) (by rfl))
          obtain ⟨bt, ct, bb, cb, BA, C, e1, hc⟩ := P9
          have HFa : Hid (FacsIn wx (some ⟨w.heap.size + 1 + 1, 3, none⟩) 3 (tri7 r0 r1 r2)) := (by obtain ⟨⟨d0, d1, d2, d3, d4, e0, e1, e2, s0, s1, s2, s3, s4, s5, s6, s7, s8⟩, ⟨b0, b1, b2, b3, b4, b5⟩, ⟨a0, a1, a2⟩, t0, t1, t2⟩ := HTA.out _ hO; exact facs_mid s3 s4 s5 hr0 hr1 hr2)
          have HCc : Hid _ := hc
          clear hc
          rw [if_pos (by rfl)]
          go_simp
          exact hK.out _ _ (Fac.keep 12 (.agg #[.slice bt 3 ct, .slice bb 3 cb, .slice (some ⟨w.heap.size + 1 + 1, 3, none⟩) 3 3]) (by (try simp only [← p82, ← e1]); rfl) hf (fun _ _ h => h) hO ⟨bt, 3, ct, bb, cb, some ⟨w.heap.size + 1 + 1, 3, none⟩, 3, 3, rfl, 3, _, _, _, 3, _, bt, ct, bb, cb, BA, C, some ⟨w.heap.size + 1 + 1, 3, none⟩, 3, rfl, rfl, rfl, Nat.le_refl _, HG2.out, HCc.out, HFa.out⟩)
        refine stepsOk.cons ?_ ?_
        · intro l a2 wx K hli hpre hJ hK
          obtain ⟨hO, t, rfl, hf⟩ := hJ
          obtain ⟨⟨d0, d1, d2, d3, d4, e0, e1, e2, s0, s1, s2, s3, s4, s5, s6, s7, s8⟩, ⟨b0, b1, b2, b3, b4, b5⟩, ⟨a0, a1, a2⟩, t0, t1, t2⟩ := HTA.out _ hO
          rw [if_pos (by rfl)]
          go_simp
          exact hK.out _ _ (Fac.keep 13 (gv P Q G H a n cap) rfl hf (fun _ _ h => h) hO rfl)
        refine stepsOk.cons ?_ ?_
        · intro l a2 wx K hli hpre hJ hK
          obtain ⟨hO, t, rfl, hf⟩ := hJ
          rw [if_pos (by rfl)]
          go_simp
          exact hK.out _ _ (Fac.keep 14 (.int .u64 key) rfl hf (fun _ _ h => h) hO rfl)
        refine stepsOk.cons ?_ ?_
        · intro l a2 wx K hli hpre hJ hK
          obtain ⟨hO, t, rfl, hf⟩ := hJ
          rw [if_pos (by rfl)]
          go_simp
          exact hK.out _ _ (Fac.keep 15 (.pointer (some ⟨bx, 4, none⟩)) rfl hf (fun _ _ h => h) hO rfl)
        refine stepsOk.cons ?_ ?_
        · intro l a2 wx K hli hpre hJ hK
          obtain ⟨hO, t, rfl, hf⟩ := hJ
          have p86 : t 86 = .pointer (some ⟨bx, 4, none⟩) := hf 15 (hpre ⟨15, .data⟩ (by simp) (by rfl))
          obtain ⟨⟨d0, d1, d2, d3, d4, e0, e1, e2, s0, s1, s2, s3, s4, s5, s6, s7, s8⟩, ⟨b0, b1, b2, b3, b4, b5⟩, ⟨a0, a1, a2⟩, t0, t1, t2⟩ := HTA.out _ hO
          rw [if_pos (by rfl)]
          go_simp
          exact hK.out _ _ (Fac.keep 16 (pv u2 v2) (by (try simp only [← p86]); rfl) hf (fun _ _ h => h) hO rfl)
        refine stepsOk.cons ?_ ?_
        · intro l a2 wx K hli hpre hJ hK
          obtain ⟨hO, t, rfl, hf⟩ := hJ
          obtain ⟨⟨d0, d1, d2, d3, d4, e0, e1, e2, s0, s1, s2, s3, s4, s5, s6, s7, s8⟩, ⟨b0, b1, b2, b3, b4, b5⟩, ⟨a0, a1, a2⟩, t0, t1, t2⟩ := HTA.out _ hO
          rw [if_pos (by rfl)]
          go_simp
          exact hK.out _ _ (Fac.keep 17 (gv P Q G H a n cap) rfl hf (fun _ _ h => h) hO rfl)
        refine stepsOk.cons ?_ ?_
        · intro l a2 wx K hli hpre hJ hK
          obtain ⟨hO, t, rfl, hf⟩ := hJ
          rw [if_pos (by rfl)]
          go_simp
          exact hK.out _ _ (Fac.keep 18 (.pointer (some ⟨w.heap.size + 1 + 1, 1, none⟩)) rfl hf (fun _ _ h => h) hO rfl)
        refine stepsOk.cons ?_ ?_
        · intro l a2 wx K hli hpre hJ hK
          obtain ⟨hO, t, rfl, hf⟩ := hJ
          have p89 : t 89 = .pointer (some ⟨w.heap.size + 1 + 1, 1, none⟩) := hf 18 (hpre ⟨18, .data⟩ (by simp) (by rfl))
          obtain ⟨⟨d0, d1, d2, d3, d4, e0, e1, e2, s0, s1, s2, s3, s4, s5, s6, s7, s8⟩, ⟨b0, b1, b2, b3, b4, b5⟩, ⟨a0, a1, a2⟩, t0, t1, t2⟩ := HTA.out _ hO
          rw [if_pos (by rfl)]
          go_simp
          exact hK.out _ _ (Fac.keep 19 (.int .u64 x) (by (try simp only [← p89]); rfl) hf (fun _ _ h => h) hO rfl)
        refine stepsOk.cons ?_ ?_
        · intro l a2 wx K hli hpre hJ hK
          obtain ⟨hO, t, rfl, hf⟩ := hJ
          rw [if_pos (by rfl)]
          go_simp
          exact hK.out _ _ (Fac.keep 20 (.pointer (some ⟨bx, 4, none⟩)) rfl hf (fun _ _ h => h) hO rfl)
        refine stepsOk.cons ?_ ?_
        · intro l a2 wx K hli hpre hJ hK
          obtain ⟨hO, t, rfl, hf⟩ := hJ
          have p91 : t 91 = .pointer (some ⟨bx, 4, none⟩) := hf 20 (hpre ⟨20, .data⟩ (by simp) (by rfl))
          obtain ⟨⟨d0, d1, d2, d3, d4, e0, e1, e2, s0, s1, s2, s3, s4, s5, s6, s7, s8⟩, ⟨b0, b1, b2, b3, b4, b5⟩, ⟨a0, a1, a2⟩, t0, t1, t2⟩ := HTA.out _ hO
          rw [if_pos (by rfl)]
          go_simp
          exact hK.out _ _ (Fac.keep 21 (pv u2 v2) (by (try simp only [← p91]); rfl) hf (fun _ _ h => h) hO rfl)
        refine stepsOk.cons ?_ ?_
        · intro l a2 wx K hli hpre hJ hK
          obtain ⟨hO, t, rfl, hf⟩ := hJ
          have p88 : t 88 = gv P Q G H a n cap := hf 17 (hpre ⟨17, .data⟩ (by simp) (by rfl))
          have p90 : t 90 = .int .u64 x := hf 19 (hpre ⟨19, .data⟩ (by simp) (by rfl))
          have p92 : t 92 = pv u2 v2 := hf 21 (hpre ⟨21, .data⟩ (by simp) (by rfl))
          rw [if_pos (by rfl)]
          go_simp
          refine (HSh.out _).mono ?_
          rintro e wz ⟨rfl, oz⟩
          exact hK.out _ _ (Fac.keep 22 (.int .u64 sh) (by (try simp only [← p88, ← p90, ← p92]); rfl) hf (fun k u h => trF_old k u h oz) (hO.trans oz) rfl)
        refine stepsOk.cons ?_ ?_
        · intro l a2 wx K hli hpre hJ hK
          obtain ⟨hO, t, rfl, hf⟩ := hJ
          have p84 : t 84 = gv P Q G H a n cap := hf 13 (hpre ⟨13, .data⟩ (by simp) (by rfl))
          have p85 : t 85 = .int .u64 key := hf 14 (hpre ⟨14, .data⟩ (by simp) (by rfl))
          have p87 : t 87 = pv u2 v2 := hf 16 (hpre ⟨16, .data⟩ (by simp) (by rfl))
          have p93 : t 93 = .int .u64 sh := hf 22 (hpre ⟨22, .data⟩ (by simp) (by rfl))
          rw [if_pos (by rfl)]
          go_simp
          refine (HSs.out _).mono ?_
          rintro e wz ⟨bt, ct, bb, cb, BA, C, rfl, oz, hc⟩
          exact hK.out _ _ (Fac.keep 23 (cv bt 2 ct bb 2 cb) (by (try simp only [← p84, ← p85, ← p87, ← p93]); rfl) hf (fun k u h => trF_old k u h oz) (hO.trans oz) ⟨bt, ct, bb, cb, BA, C, rfl, hc⟩)
        refine stepsOk.cons ?_ ?_
        · intro l a2 wx K hli hpre hJ hK
          obtain ⟨hO, t, rfl, hf⟩ := hJ
          rw [if_pos (by rfl)]
          go_simp
          exact hK.out _ _ (Fac.keep 24 (.pointer (some ⟨w.heap.size + 1 + 1, 1, none⟩)) rfl hf (fun _ _ h => h) hO rfl)
        refine stepsOk.cons ?_ ?_
        · intro l a2 wx K hli hpre hJ hK
          obtain ⟨hO, t, rfl, hf⟩ := hJ
          have p95 : t 95 = .pointer (some ⟨w.heap.size + 1 + 1, 1, none⟩) := hf 24 (hpre ⟨24, .data⟩ (by simp) (by rfl))
          obtain ⟨⟨d0, d1, d2, d3, d4, e0, e1, e2, s0, s1, s2, s3, s4, s5, s6, s7, s8⟩, ⟨b0, b1, b2, b3, b4, b5⟩, ⟨a0, a1, a2⟩, t0, t1, t2⟩ := HTA.out _ hO
          rw [if_pos (by rfl)]
          go_simp
          exact hK.out _ _ (Fac.keep 25 (.int .u64 x) (by (try simp only [← p95]); rfl) hf (fun _ _ h => h) hO rfl)
        refine stepsOk.cons ?_ ?_
        · intro l a2 wx K hli hpre hJ hK
          obtain ⟨hO, t, rfl, hf⟩ := hJ
          have p96 : t 96 = .int .u64 x := hf 25 (hpre ⟨25, .data⟩ (by simp) (by rfl))
          rw [if_pos (by rfl)]
          go_simp
          exact hK.out _ _ (Fac.keep 26 (.slice (some ⟨wx.heap.size, 0, none⟩) 1 1) (by (try simp only [← p96]); rfl) hf (fun k u h => trF_old k u h ((Old.refl _).alloc _)) (hO.alloc _) (⟨_, rfl, facs_one wx x _ hx⟩))
        refine stepsOk.cons ?_ ?_
        · intro l a2 wx K hli hpre hJ hK
          obtain ⟨hO, t, rfl, hf⟩ := hJ
          have P23 : CF wx (t 94) 2 (two7 key sh) (fun _ => 1) (two7r (fun _ => G) (fun _ => u2)) := hf 23 (hpre ⟨23, .data⟩ (by simp) (by rfl))
          have P26 : ∃ b, t 97 = .slice (some ⟨b, 0, none⟩) 1 1 ∧ FacsIn wx (some ⟨b, 0, none⟩) 1 (fun _ => x) := hf 26 (hpre ⟨26, .data⟩ (by simp) (by rfl))
          obtain ⟨bt, ct, bb, cb, BA, C, e1, hc⟩ := P23
          obtain ⟨b, e2, hfa⟩ := P26
          have HFa : Hid _ := hfa
          have HCc : Hid _ := hc
          clear hc
          clear hfa
          rw [if_pos (by rfl)]
          go_simp
          exact hK.out _ _ (Fac.keep 27 (.agg #[.slice bt 2 ct, .slice bb 2 cb, .slice (some ⟨b, 0, none⟩) 1 1]) (by (try simp only [← e1, ← e2]); rfl) hf (fun _ _ h => h) hO ⟨bt, 2, ct, bb, cb, some ⟨b, 0, none⟩, 1, 1, rfl, 2, _, _, _, 1, _, bt, ct, bb, cb, BA, C, some ⟨b, 0, none⟩, 1, rfl, rfl, rfl, Nat.le_refl _, HG3.out, HCc.out, HFa.out⟩)
        refine stepsOk.cons ?_ ?_
        · intro l a2 wx K hli hpre hJ hK
          obtain ⟨hO, t, rfl, hf⟩ := hJ
          obtain ⟨⟨d0, d1, d2, d3, d4, e0, e1, e2, s0, s1, s2, s3, s4, s5, s6, s7, s8⟩, ⟨b0, b1, b2, b3, b4, b5⟩, ⟨a0, a1, a2⟩, t0, t1, t2⟩ := HTA.out _ hO
          rw [if_pos (by rfl)]
          go_simp
          exact hK.out _ _ (Fac.keep 28 (gv P Q G H a n cap) rfl hf (fun _ _ h => h) hO rfl)
        refine stepsOk.cons ?_ ?_
        · intro l a2 wx K hli hpre hJ hK
          obtain ⟨hO, t, rfl, hf⟩ := hJ
          rw [if_pos (by rfl)]
          go_simp
          exact hK.out _ _ (Fac.keep 29 (.int .u64 key) rfl hf (fun _ _ h => h) hO rfl)
        refine stepsOk.cons ?_ ?_
        · intro l a2 wx K hli hpre hJ hK
          obtain ⟨hO, t, rfl, hf⟩ := hJ
          rw [if_pos (by rfl)]
          go_simp
          exact hK.out _ _ (Fac.keep 30 (.int .u64 tok) rfl hf (fun _ _ h => h) hO rfl)
        refine stepsOk.cons ?_ ?_
        · intro l a2 wx K hli hpre hJ hK
          obtain ⟨hO, t, rfl, hf⟩ := hJ
          obtain ⟨⟨d0, d1, d2, d3, d4, e0, e1, e2, s0, s1, s2, s3, s4, s5, s6, s7, s8⟩, ⟨b0, b1, b2, b3, b4, b5⟩, ⟨a0, a1, a2⟩, t0, t1, t2⟩ := HTA.out _ hO
          rw [if_pos (by rfl)]
          go_simp
          exact hK.out _ _ (Fac.keep 31 (tv u0 1 v0) rfl hf (fun _ _ h => h) hO rfl)
        refine stepsOk.cons ?_ ?_
        · intro l a2 wx K hli hpre hJ hK
          obtain ⟨hO, t, rfl, hf⟩ := hJ
          obtain ⟨⟨d0, d1, d2, d3, d4, e0, e1, e2, s0, s1, s2, s3, s4, s5, s6, s7, s8⟩, ⟨b0, b1, b2, b3, b4, b5⟩, ⟨a0, a1, a2⟩, t0, t1, t2⟩ := HTA.out _ hO
          rw [if_pos (by rfl)]
          go_simp
          exact hK.out _ _ (Fac.keep 32 (tv u0 ww vv) rfl hf (fun _ _ h => h) hO rfl)
        refine stepsOk.cons ?_ ?_
        · intro l a2 wx K hli hpre hJ hK
          obtain ⟨hO, t, rfl, hf⟩ := hJ
          have p99 : t 99 = gv P Q G H a n cap := hf 28 (hpre ⟨28, .data⟩ (by simp) (by rfl))
          have p100 : t 100 = .int .u64 key := hf 29 (hpre ⟨29, .data⟩ (by simp) (by rfl))
          have p101 : t 101 = .int .u64 tok := hf 30 (hpre ⟨30, .data⟩ (by simp) (by rfl))
          have p102 : t 102 = tv u0 1 v0 := hf 31 (hpre ⟨31, .data⟩ (by simp) (by rfl))
          have p103 : t 103 = tv u0 ww vv := hf 32 (hpre ⟨32, .data⟩ (by simp) (by rfl))
          rw [if_pos (by rfl)]
          go_simp
          refine (HCs.out _).mono ?_
          rintro e wz ⟨bt, ct, bb, cb, BA, C, rfl, oz, hc⟩
          exact hK.out _ _ (Fac.keep 33 (cv bt 3 ct bb 3 cb) (by (try simp only [← p99, ← p100, ← p101, ← p102, ← p103]); rfl) hf (fun k u h => trF_old k u h oz) (hO.trans oz) ⟨bt, ct, bb, cb, BA, C, rfl, hc⟩)
        refine stepsOk.cons ?_ ?_
        · intro l a2 wx K hli hpre hJ hK
          obtain ⟨hO, t, rfl, hf⟩ := hJ
          rw [if_pos (by rfl)]
          go_simp
          exact hK.out _ _ (Fac.keep 34 (.pointer (some ⟨w.heap.size + 1 + 1, 1, none⟩)) rfl hf (fun _ _ h => h) hO rfl)
        refine stepsOk.cons ?_ ?_
        · intro l a2 wx K hli hpre hJ hK
          obtain ⟨hO, t, rfl, hf⟩ := hJ
          have p105 : t 105 = .pointer (some ⟨w.heap.size + 1 + 1, 1, none⟩) := hf 34 (hpre ⟨34, .data⟩ (by simp) (by rfl))
          obtain ⟨⟨d0, d1, d2, d3, d4, e0, e1, e2, s0, s1, s2, s3, s4, s5, s6, s7, s8⟩, ⟨b0, b1, b2, b3, b4, b5⟩, ⟨a0, a1, a2⟩, t0, t1, t2⟩ := HTA.out _ hO
          rw [if_pos (by rfl)]
          go_simp
          exact hK.out _ _ (Fac.keep 35 (.int .u64 x) (by (try simp only [← p105]); rfl) hf (fun _ _ h => h) hO rfl)
        refine stepsOk.cons ?_ ?_
        · intro l a2 wx K hli hpre hJ hK
          obtain ⟨hO, t, rfl, hf⟩ := hJ
          rw [if_pos (by rfl)]
          go_simp
          exact hK.out _ _ (Fac.keep 36 (.pointer (some ⟨w.heap.size + 1 + 1, 3, none⟩)) rfl hf (fun _ _ h => h) hO rfl)
        refine stepsOk.cons ?_ ?_
        · intro l a2 wx K hli hpre hJ hK
          obtain ⟨hO, t, rfl, hf⟩ := hJ
          have p107 : t 107 = .pointer (some ⟨w.heap.size + 1 + 1, 3, none⟩) := hf 36 (hpre ⟨36, .data⟩ (by simp) (by rfl))
          rw [if_pos (by rfl)]
          go_simp
          exact hK.out _ _ (Fac.keep 37 (.pointer (some ⟨w.heap.size + 1 + 1, 4, none⟩)) (by (try simp only [← p107]); rfl) hf (fun _ _ h => h) hO rfl)
        refine stepsOk.cons ?_ ?_
        · intro l a2 wx K hli hpre hJ hK
          obtain ⟨hO, t, rfl, hf⟩ := hJ
          have p108 : t 108 = .pointer (some ⟨w.heap.size + 1 + 1, 4, none⟩) := hf 37 (hpre ⟨37, .data⟩ (by simp) (by rfl))
          obtain ⟨⟨d0, d1, d2, d3, d4, e0, e1, e2, s0, s1, s2, s3, s4, s5, s6, s7, s8⟩, ⟨b0, b1, b2, b3, b4, b5⟩, ⟨a0, a1, a2⟩, t0, t1, t2⟩ := HTA.out _ hO
          rw [if_pos (by rfl)]
          go_simp
          exact hK.out _ _ (Fac.keep 38 (.int .u64 r1) (by (try simp only [← p108]); rfl) hf (fun _ _ h => h) hO rfl)
        refine stepsOk.cons ?_ ?_
        · intro l a2 wx K hli hpre hJ hK
          obtain ⟨hO, t, rfl, hf⟩ := hJ
          have p106 : t 106 = .int .u64 x := hf 35 (hpre ⟨35, .data⟩ (by simp) (by rfl))
          have p109 : t 109 = .int .u64 r1 := hf 38 (hpre ⟨38, .data⟩ (by simp) (by rfl))
          rw [if_pos (by rfl)]
          go_simp
          exact hK.out _ _ (Fac.keep 39 (.slice (some ⟨wx.heap.size, 0, none⟩) 2 2) (by (try simp only [← p106, ← p109]); rfl) hf (fun k u h => trF_old k u h ((Old.refl _).alloc _)) (hO.alloc _) (⟨_, rfl, facs_two7 wx x r1 _ hx hr1⟩))
        refine stepsOk.cons ?_ ?_
        · intro l a2 wx K hli hpre hJ hK
          obtain ⟨hO, t, rfl, hf⟩ := hJ
          have P33 : CF wx (t 104) 3 (tri7 key oA oB) (fun _ => 2) (tri7r (two7 G 1) (two7 1 G) (two7 oC tok)) := hf 33 (hpre ⟨33, .data⟩ (by simp) (by rfl))
          have P39 : ∃ b, t 110 = .slice (some ⟨b, 0, none⟩) 2 2 ∧ FacsIn wx (some ⟨b, 0, none⟩) 2 (two7 x r1) := hf 39 (hpre ⟨39, .data⟩ (by simp) (by rfl))
          obtain ⟨bt, ct, bb, cb, BA, C, e1, hc⟩ := P33
          obtain ⟨b, e2, hfa⟩ := P39
          have HFa : Hid _ := hfa
          have HCc : Hid _ := hc
          clear hc
          clear hfa
          rw [if_pos (by rfl)]
          go_simp
          exact hK.out _ _ (Fac.keep 40 (.agg #[.slice bt 3 ct, .slice bb 3 cb, .slice (some ⟨b, 0, none⟩) 2 2]) (by (try simp only [← e1, ← e2]); rfl) hf (fun _ _ h => h) hO ⟨bt, 3, ct, bb, cb, some ⟨b, 0, none⟩, 2, 2, rfl, 3, _, _, _, 2, _, bt, ct, bb, cb, BA, C, some ⟨b, 0, none⟩, 2, rfl, rfl, rfl, Nat.le_refl _, HG4.out, HCc.out, HFa.out⟩)
        refine stepsOk.cons ?_ ?_
        · intro l a2 wx K hli hpre hJ hK
          obtain ⟨hO, t, rfl, hf⟩ := hJ
          have P6 : ∃ bt nt ct bb cb bw nw cw, t 77 = .agg #[.slice bt nt ct, .slice bb nt cb, .slice bw nw cw] ∧ El P Q wx (.slice bt nt ct) (.slice bb nt cb) (.slice bw nw cw) := hf 6 (hpre ⟨6, .data⟩ (by simp) (by rfl))
          have P12 : ∃ bt nt ct bb cb bw nw cw, t 83 = .agg #[.slice bt nt ct, .slice bb nt cb, .slice bw nw cw] ∧ El P Q wx (.slice bt nt ct) (.slice bb nt cb) (.slice bw nw cw) := hf 12 (hpre ⟨12, .data⟩ (by simp) (by rfl))
          have P27 : ∃ bt nt ct bb cb bw nw cw, t 98 = .agg #[.slice bt nt ct, .slice bb nt cb, .slice bw nw cw] ∧ El P Q wx (.slice bt nt ct) (.slice bb nt cb) (.slice bw nw cw) := hf 27 (hpre ⟨27, .data⟩ (by simp) (by rfl))
          have P40 : ∃ bt nt ct bb cb bw nw cw, t 111 = .agg #[.slice bt nt ct, .slice bb nt cb, .slice bw nw cw] ∧ El P Q wx (.slice bt nt ct) (.slice bb nt cb) (.slice bw nw cw) := hf 40 (hpre ⟨40, .data⟩ (by simp) (by rfl))
          obtain ⟨bt0, nt0, ct0, bb0, cb0, bw0, nw0, cw0, e0, hE0⟩ := P6
          have HE0 : Hid _ := hE0
          clear hE0
          obtain ⟨bt1, nt1, ct1, bb1, cb1, bw1, nw1, cw1, e1, hE1⟩ := P12
          have HE1 : Hid _ := hE1
          clear hE1
          obtain ⟨bt2, nt2, ct2, bb2, cb2, bw2, nw2, cw2, e2, hE2⟩ := P27
          have HE2 : Hid _ := hE2
          clear hE2
          obtain ⟨bt3, nt3, ct3, bb3, cb3, bw3, nw3, cw3, e3, hE3⟩ := P40
          have HE3 : Hid _ := hE3
          clear hE3
          rw [if_pos (by rfl)]
          go_simp
          exact hK.out _ _ (Fac.keep 41 (.slice (some ⟨wx.heap.size, 0, none⟩) 4 4) (by (try simp only [← e0, ← e1, ← e2, ← e3]); rfl) hf (fun k u h => trF_old k u h ((Old.refl _).alloc _)) (hO.alloc _) (⟨_, rfl, lt4 (⟨bt0, nt0, ct0, bb0, cb0, bw0, nw0, cw0, (World.cell?_alloc_mark wx _ _ (0, 0) 0).trans rfl, (World.cell?_alloc_mark wx _ _ (0, 0) 1).trans rfl, (World.cell?_alloc_mark wx _ _ (0, 0) 2).trans rfl, El.old HE0.out ((Old.refl _).alloc _)⟩) (⟨bt1, nt1, ct1, bb1, cb1, bw1, nw1, cw1, (World.cell?_alloc_mark wx _ _ (0, 0) 3).trans rfl, (World.cell?_alloc_mark wx _ _ (0, 0) 4).trans rfl, (World.cell?_alloc_mark wx _ _ (0, 0) 5).trans rfl, El.old HE1.out ((Old.refl _).alloc _)⟩) (⟨bt2, nt2, ct2, bb2, cb2, bw2, nw2, cw2, (World.cell?_alloc_mark wx _ _ (0, 0) 6).trans rfl, (World.cell?_alloc_mark wx _ _ (0, 0) 7).trans rfl, (World.cell?_alloc_mark wx _ _ (0, 0) 8).trans rfl, El.old HE2.out ((Old.refl _).alloc _)⟩) (⟨bt3, nt3, ct3, bb3, cb3, bw3, nw3, cw3, (World.cell?_alloc_mark wx _ _ (0, 0) 9).trans rfl, (World.cell?_alloc_mark wx _ _ (0, 0) 10).trans rfl, (World.cell?_alloc_mark wx _ _ (0, 0) 11).trans rfl, El.old HE3.out ((Old.refl _).alloc _)⟩)⟩))
        refine stepsOk.cons ?_ ?_
        · intro l a2 wx K hli hpre hJ hK
          obtain ⟨hO, t, rfl, hf⟩ := hJ
          have P41 : ∃ b, t 112 = .slice (some ⟨b, 0, none⟩) 4 4 ∧ Els P Q wx b := hf 41 (hpre ⟨41, .data⟩ (by simp) (by rfl))
          obtain ⟨b, e1, _⟩ := P41
          rw [if_pos (by rfl)]
          go_simp
          exact hK.out _ _ (Fac.keep 42 (.int .i64 4) (by (try simp only [← e1]); rfl) hf (fun _ _ h => h) hO rfl)
        refine stepsOk.cons ?_ ?_
        · intro l a2 wx K hli hpre hJ hK
          obtain ⟨hO, t, rfl, hf⟩ := hJ
          rw [if_pos (by rfl)]
          go_simp
          exact hK.out _ _ (Fac.keep 43 (.int .i64 0) rfl hf (fun _ _ h => h) hO rfl)
        exact trivial
      case fin =>
        intro m a2 wx hall hJ
        obtain ⟨hO, t, rfl, hf⟩ := hJ
        have P41 : ∃ b, t 112 = .slice (some ⟨b, 0, none⟩) 4 4 ∧ Els P Q wx b := hf 41 (hall 41 (by show 41 < 44; omega))
        have p113 : t 113 = .int .i64 4 := hf 42 (hall 42 (by show 42 < 44; omega))
        have p114 : t 114 = .int .i64 0 := hf 43 (hall 43 (by show 43 < 44; omega))
        obtain ⟨be, e112, hE⟩ := P41
        have HE : Hid (Els P Q wx be) := hE
        have HOx : Hid (Old wd wx) := hO
        clear hf hall hE hO HKe HKn HSh HSs HCs HG1 HG2 HG3 HG4
        simp only [e112, p113, p114]
        clear e112 p113 p114
        have HTx : Hid (∀ w', Old wx w' → w'.cell? ⟨w.heap.size, 0, none⟩ = some (.int .u64 P) ∧ w'.cell? ⟨w.heap.size, 1, none⟩ = some (.int .u64 Q) ∧ w'.cell? ⟨w.heap.size, 2, none⟩ = some (.int .u64 G) ∧ w'.cell? ⟨w.heap.size, 3, none⟩ = some (.int .u64 H) ∧ w'.cell? ⟨w.heap.size, 4, none⟩ = some (.slice a n cap) ∧ w'.cell? ⟨w.heap.size + 1, 0, none⟩ = some (.int .u64 m0) ∧ w'.cell? ⟨w.heap.size + 1, 1, none⟩ = some (.int .u64 m1) ∧ w'.cell? ⟨w.heap.size + 1, 2, none⟩ = some (.int .u64 m2) ∧ w'.cell? ⟨w.heap.size + 1 + 1, 0, none⟩ = some (.string (strOfNums label)) ∧ w'.cell? ⟨w.heap.size + 1 + 1, 1, none⟩ = some (.int .u64 x) ∧ w'.cell? ⟨w.heap.size + 1 + 1, 2, none⟩ = some (.int .u64 y) ∧ w'.cell? ⟨w.heap.size + 1 + 1, 3, none⟩ = some (.int .u64 r0) ∧ w'.cell? ⟨w.heap.size + 1 + 1, 4, none⟩ = some (.int .u64 r1) ∧ w'.cell? ⟨w.heap.size + 1 + 1, 5, none⟩ = some (.int .u64 r2) ∧ w'.cell? ⟨w.heap.size + 1 + 1, 6, none⟩ = some (.int .u64 q0) ∧ w'.cell? ⟨w.heap.size + 1 + 1, 7, none⟩ = some (.int .u64 q1) ∧ w'.cell? ⟨w.heap.size + 1 + 1, 8, none⟩ = some (.int .u64 q2)) := fun w' ho => (HTA.out _ (HOx.out.trans ho)).1
        have HOW2 : Hid (∀ w', Old wx w' → Old w w') := fun w' ho => HOW.out _ (HOx.out.trans ho)
        clear HTA HOW HT
        go_wp2_with fail
        go_loopw [114] (fun iv wz => ∃ i : Nat, iv = .int .i64 (i : Int) ∧ i ≤ 4 ∧ Hid (Old wx wz)) (fun iv _ => 4 - (intOf iv).toNat)
        case atStart => exact ⟨0, rfl, Nat.zero_le _, Old.refl _⟩
        case round =>
          obtain ⟨i, rfl, hi, HO2⟩ := hrel
          obtain ⟨d0, d1, d2, d3, d4, e0, e1, e2, s0, s1, s2, s3, s4, s5, s6, s7, s8⟩ := HTx.out _ HO2.out
          by_cases hlt : i < 4
          · obtain ⟨bt, nt, ct, bb, cb, bw, nw, cw, c0, c1, c2, hEl⟩ := (HE.out.old HO2.out) i hlt
            obtain ⟨nt', T, L, B, nw', X, bt', ct', bb', cb', BA, C, bw', cw', z1, z2, z3, hw, hg, hc, hfX⟩ := hEl
            cases z1
            cases z2
            cases z3
            have i1 : (i : Int) < 4 := by omega
            have i0 : (0 : Int) ≤ (i : Int) := by omega
            go_upto_region 20 with fail
            have HOe : Hid (Old wx (wr.alloc (.cells #[.slice bt nt ct, .slice bb nt cb, .slice bw nw cw] 78))) := HO2.out.alloc _
            have HOr : Hid (Old wr (wr.alloc (.cells #[.slice bt nt ct, .slice bb nt cb, .slice bw nw cw] 78))) := (Old.refl _).alloc _
            have HVe : Hid (∀ w', Old (wr.alloc (.cells #[.slice bt nt ct, .slice bb nt cb, .slice bw nw cw] 78)) w' → w'.cell? ⟨wr.heap.size, 0, none⟩ = some (.slice bt nt ct) ∧ w'.cell? ⟨wr.heap.size, 1, none⟩ = some (.slice bb nt cb) ∧ w'.cell? ⟨wr.heap.size, 2, none⟩ = some (.slice bw nw cw)) := fun w' ho => ⟨ho.cellOf ((World.cell?_alloc_mark wr _ _ (0, 0) 0).trans rfl), ho.cellOf ((World.cell?_alloc_mark wr _ _ (0, 0) 1).trans rfl), ho.cellOf ((World.cell?_alloc_mark wr _ _ (0, 0) 2).trans rfl)⟩
            clear d0 d1 d2 d3 d4 e0 e1 e2 s0 s1 s2 s3 s4 s5 s6 s7 s8 c0 c1 c2
            generalize wr.alloc (.cells #[.slice bt nt ct, .slice bb nt cb, .slice bw nw cw] 78) = we at *
            generalize wr.heap.size = ve at *
            have HTe : Hid (∀ w', Old we w' → (w'.cell? ⟨w.heap.size, 0, none⟩ = some (.int .u64 P) ∧ w'.cell? ⟨w.heap.size, 1, none⟩ = some (.int .u64 Q) ∧ w'.cell? ⟨w.heap.size, 2, none⟩ = some (.int .u64 G) ∧ w'.cell? ⟨w.heap.size, 3, none⟩ = some (.int .u64 H) ∧ w'.cell? ⟨w.heap.size, 4, none⟩ = some (.slice a n cap) ∧ w'.cell? ⟨w.heap.size + 1, 0, none⟩ = some (.int .u64 m0) ∧ w'.cell? ⟨w.heap.size + 1, 1, none⟩ = some (.int .u64 m1) ∧ w'.cell? ⟨w.heap.size + 1, 2, none⟩ = some (.int .u64 m2) ∧ w'.cell? ⟨w.heap.size + 1 + 1, 0, none⟩ = some (.string (strOfNums label)) ∧ w'.cell? ⟨w.heap.size + 1 + 1, 1, none⟩ = some (.int .u64 x) ∧ w'.cell? ⟨w.heap.size + 1 + 1, 2, none⟩ = some (.int .u64 y) ∧ w'.cell? ⟨w.heap.size + 1 + 1, 3, none⟩ = some (.int .u64 r0) ∧ w'.cell? ⟨w.heap.size + 1 + 1, 4, none⟩ = some (.int .u64 r1) ∧ w'.cell? ⟨w.heap.size + 1 + 1, 5, none⟩ = some (.int .u64 r2) ∧ w'.cell? ⟨w.heap.size + 1 + 1, 6, none⟩ = some (.int .u64 q0) ∧ w'.cell? ⟨w.heap.size + 1 + 1, 7, none⟩ = some (.int .u64 q1) ∧ w'.cell? ⟨w.heap.size + 1 + 1, 8, none⟩ = some (.int .u64 q2)) ∧ w'.cell? ⟨ve, 0, none⟩ = some (.slice bt nt ct) ∧ w'.cell? ⟨ve, 1, none⟩ = some (.slice bb nt cb) ∧ w'.cell? ⟨ve, 2, none⟩ = some (.slice bw nw cw)) := fun w' ho => ⟨HTx.out _ (HOe.out.trans ho), HVe.out _ ho⟩
            obtain ⟨F, hF⟩ : ∃ F : Nat → Int, F = fun j => imI P Q (B j) (tri7 q0 q1 q2) (sizeN P Q nt T nt L B) := ⟨_, rfl⟩
            obtain ⟨ch, hch⟩ : ∃ ch : Int, ch = chI label P Q G H nt T nt L B nt F := ⟨_, rfl⟩
            obtain ⟨Z, hZ⟩ : ∃ Z : Nat → Int, Z = fun k => ansI Q ch (X k) (tri7 q0 q1 q2 k) := ⟨_, rfl⟩
            have hw3 := hg.w3
            have ht3 := hg.f3
            have hL : ∀ j, j < nt → L j ≤ 80 := fun j hj => by rw [hg.cl.len j hj]; omega
            have hD : ∀ wz, Old we wz → FacsIn wz (some ⟨w.heap.size + 1 + 1, 6, none⟩) nw (tri7 q0 q1 q2) := fun wz ho => by
              obtain ⟨⟨d0, d1, d2, d3, d4, e0, e1, e2, s0, s1, s2, s3, s4, s5, s6, s7, s8⟩, _⟩ := HTe.out _ ho
              exact facs_take (facs_mid s6 s7 s8 hq0 hq1 hq2) hw3
            have hO3 : ∀ wz, Old we wz → Old wr wz := fun wz ho => HOr.out.trans ho
            have HFU : Hid (∀ j, U64 (F j)) := fun j => by rw [hF]; exact u64_prod _ _ _
            have HZU : Hid (∀ j, U64 (Z j)) := fun j => by rw [hZ]; exact u64_ans _ _ _ _
            have hcu : U64 ch := by rw [hch]; exact ch_u64 _ _ _ _ _ _ _ _ _ _ _ _
            have HPv : Hid (∀ wz, Old we wz → Calls Try.prog 22 #[gv P Q G H a n cap, .string (strOfNums label), cv bt nt ct bb nt cb, .slice bw nw cw, .slice (some ⟨w.heap.size + 1 + 1, 6, none⟩) nw 3] wz (GivesP wz true nt F nw Z)) := fun wz ho => by
              have := pprove_any label P Q G H a n cap bt nt ct T bb nt cb BA L C B bw nw cw X (some ⟨w.heap.size + 1 + 1, 6, none⟩) nw 3 (tri7 q0 q1 q2) F hF wz H4h.out.1 H4h.out.2 hlb (by omega) (by omega) (by omega) hL (by omega) (by omega) hw hw3 (hc.old (hO3 wz ho)) (hfX.old (hO3 wz ho)) (hD wz ho)
              rwa [← hch, ← hZ, hg.prov] at this
            have HHo : Hid (∀ wz, Old we wz → Calls Try.prog 25 #[gv P Q G H a n cap, cv bt nt ct bb nt cb, .slice bw nw cw] wz fun e w' => e = .returned (.bool true) ∧ Old wz w') := fun wz ho => by
              have := rlholds_any P Q G H a n cap bt nt ct T bb nt cb BA L C B bw nw cw X wz H4h.out.1 (hc.old (hO3 wz ho)) (hfX.old (hO3 wz ho))
              rwa [hg.holds] at this
            have HAc : Hid (∀ bk ck bz cz wz, Old we wz → FacsIn wz bk nt F → FacsIn wz bz nw Z → Calls Try.prog 26 #[gv P Q G H a n cap, .string (strOfNums label), cv bt nt ct bb nt cb, cv bk nt ck bz nw cz] wz fun e w' => e = .returned (.bool true) ∧ Old wz w') := fun bk ck bz cz wz ho f5 f6 => by
              have h := paccept7_any label P Q G H a n cap bt nt ct T bb nt cb BA L C B bk nt ck F bz nw cz Z wz H4h.out.1 H4h.out.2 hlb (by omega) (by omega) (by omega) hL (by omega) (hc.old (hO3 wz ho)) f5 f6
              have e : accB P Q nt T nt L B nt F ch nw Z = true := by rw [hF, hZ]; exact made_acc (nd := nw) H4h.out.2 hg.prov hg.holds (fun k hk => (hfX.u64 k hk).1) (fun k hk => (u64_tri hq0 hq1 hq2 k).1) hcu.1
              rwa [← hch, e] at h
            have n3 : (nw : Int) ≤ 3 := by omega
            have n0 : (0 : Int) ≤ (nw : Int) := by omega
            clear hF hch hZ hL hD hO3 hcu hg hc hfX HVe HO2 HOr
            obtain ⟨⟨d0, d1, d2, d3, d4, e0, e1, e2, s0, s1, s2, s3, s4, s5, s6, s7, s8⟩, c0, c1, c2⟩ := HTe.out _ (Old.refl _)
            have hd : Old we we.drew := (Old.refl _).drew
            have hda : Old we (we.alloc (.cells NilP 51)).drew := ((Old.refl _).alloc _).drew
            go_cut [17, 18] from 118 to 132 (fun pv ov wz => ∃ (b : Nat) (bk : Option Addr) (ck : Nat) (bz : Option Addr) (cz : Nat), pv = .pointer (some ⟨b, 0, none⟩) ∧ ov = .bool true ∧ Hid (Old we wz) ∧ Hid (wz.cell? ⟨b, 0, none⟩ = some (.slice bk nt ck) ∧ wz.cell? ⟨b, 1, none⟩ = some (.slice bz nw cz)) ∧ Hid (FacsIn wz bk nt F ∧ FacsIn wz bz nw Z))
            case first =>
              go_region_held3 (fun w' => (w'.cell? ⟨w.heap.size, 0, none⟩ = some (.int .u64 P) ∧ w'.cell? ⟨w.heap.size, 1, none⟩ = some (.int .u64 Q) ∧ w'.cell? ⟨w.heap.size, 2, none⟩ = some (.int .u64 G) ∧ w'.cell? ⟨w.heap.size, 3, none⟩ = some (.int .u64 H) ∧ w'.cell? ⟨w.heap.size, 4, none⟩ = some (.slice a n cap) ∧ w'.cell? ⟨w.heap.size + 1, 0, none⟩ = some (.int .u64 m0) ∧ w'.cell? ⟨w.heap.size + 1, 1, none⟩ = some (.int .u64 m1) ∧ w'.cell? ⟨w.heap.size + 1, 2, none⟩ = some (.int .u64 m2) ∧ w'.cell? ⟨w.heap.size + 1 + 1, 0, none⟩ = some (.string (strOfNums label)) ∧ w'.cell? ⟨w.heap.size + 1 + 1, 1, none⟩ = some (.int .u64 x) ∧ w'.cell? ⟨w.heap.size + 1 + 1, 2, none⟩ = some (.int .u64 y) ∧ w'.cell? ⟨w.heap.size + 1 + 1, 3, none⟩ = some (.int .u64 r0) ∧ w'.cell? ⟨w.heap.size + 1 + 1, 4, none⟩ = some (.int .u64 r1) ∧ w'.cell? ⟨w.heap.size + 1 + 1, 5, none⟩ = some (.int .u64 r2) ∧ w'.cell? ⟨w.heap.size + 1 + 1, 6, none⟩ = some (.int .u64 q0) ∧ w'.cell? ⟨w.heap.size + 1 + 1, 7, none⟩ = some (.int .u64 q1) ∧ w'.cell? ⟨w.heap.size + 1 + 1, 8, none⟩ = some (.int .u64 q2)) ∧ w'.cell? ⟨ve, 0, none⟩ = some (.slice bt nt ct) ∧ w'.cell? ⟨ve, 1, none⟩ = some (.slice bb nt cb) ∧ w'.cell? ⟨ve, 2, none⟩ = some (.slice bw nw cw)) (first | exact HTe.out _ (h5.setCell2 (Nat.le_refl _)) | exact HTe.out _ (h5.alloc _) | exact HTe.out _ h5 | exact HTe.out _ hda | exact HTe.out _ hd | (refine HTe.out _ ?_; repeat (first | assumption | exact Old.refl _ | apply Old.alloc | apply Old.drew | apply Old.setCell2 (Nat.le_refl _)))) (first
                | (go_at_call 22; refine (HPv.out _ (by first | exact hd | exact hda | exact (Old.refl _).drew.alloc _)).mono ?_; rintro e w5 ⟨o5, x5, y5, rfl, N5, M5⟩; simp only [if_true] at N5 M5; have HN5 : Hid _ := N5; have HM5 : Hid _ := M5; obtain ⟨bk, ck, rfl, _, _, f5⟩ := N5.facs2 (fun j _ => HFU.out j); obtain ⟨bz, cz, rfl, _, _, f6⟩ := M5.facs2 (fun j _ => HZU.out j); have h5 : Old we w5 := (by first | exact hd.trans o5 | exact hda.trans o5 | exact ((Old.refl _).drew.alloc _).trans o5); have HF5 : Hid (FacsIn w5 bk nt F ∧ FacsIn w5 bz nw Z) := ⟨f5, f6⟩; (try have hrw : w5.heap[we.heap.size]? = some (.cells NilP 51 (0, 0)) := (o5.block _ (by simp)).trans (heap_alloc_last we _)); (try have q0 : w5.cell? ⟨we.heap.size, 0, none⟩ = some (.slice none 0 0) := cell_of_row _ _ 0 _ _ (0, 0) hrw); (try have q1 : w5.cell? ⟨we.heap.size, 1, none⟩ = some (.slice none 0 0) := cell_of_row _ _ 1 _ _ (0, 0) hrw); (try have g0 : w5.frozen? ⟨we.heap.size, 0, none⟩ = false := row_frozen hrw 0); (try have g1 : w5.frozen? ⟨we.heap.size, 1, none⟩ = false := row_frozen hrw 1); (try have HRw : Hid (w5.heap[we.heap.size]? = some (.cells NilP 51 (0, 0))) := hrw); clear N5 M5 f5 f6; (try clear hrw)))
              all_goals
                go_wp2_with fail
                go_meet
                case rel => first
                  | exact ⟨w5.heap.size, bk, ck, bz, cz, rfl, rfl, h5.alloc _, ⟨(World.cell?_alloc_mark w5 _ _ (0, 0) 0).trans rfl, (World.cell?_alloc_mark w5 _ _ (0, 0) 1).trans rfl⟩, ⟨HF5.out.1.old ((Old.refl _).alloc _), HF5.out.2.old ((Old.refl _).alloc _)⟩⟩
                  | exact prf_early HRw.out h5 (fun j => HFU.out j) (fun j => HZU.out j) HN5.out HM5.out (by simp) (by simp)
            obtain ⟨pb, bk, ck, bz, cz, rfl, rfl, HO5, HC5, HF5⟩ := hcut
            clear d0 d1 d2 d3 d4 e0 e1 e2 s0 s1 s2 s3 s4 s5 s6 s7 s8 c0 c1 c2
            have HT9 : Hid (∀ w', Old wc w' → ((w'.cell? ⟨w.heap.size, 0, none⟩ = some (.int .u64 P) ∧ w'.cell? ⟨w.heap.size, 1, none⟩ = some (.int .u64 Q) ∧ w'.cell? ⟨w.heap.size, 2, none⟩ = some (.int .u64 G) ∧ w'.cell? ⟨w.heap.size, 3, none⟩ = some (.int .u64 H) ∧ w'.cell? ⟨w.heap.size, 4, none⟩ = some (.slice a n cap) ∧ w'.cell? ⟨w.heap.size + 1, 0, none⟩ = some (.int .u64 m0) ∧ w'.cell? ⟨w.heap.size + 1, 1, none⟩ = some (.int .u64 m1) ∧ w'.cell? ⟨w.heap.size + 1, 2, none⟩ = some (.int .u64 m2) ∧ w'.cell? ⟨w.heap.size + 1 + 1, 0, none⟩ = some (.string (strOfNums label)) ∧ w'.cell? ⟨w.heap.size + 1 + 1, 1, none⟩ = some (.int .u64 x) ∧ w'.cell? ⟨w.heap.size + 1 + 1, 2, none⟩ = some (.int .u64 y) ∧ w'.cell? ⟨w.heap.size + 1 + 1, 3, none⟩ = some (.int .u64 r0) ∧ w'.cell? ⟨w.heap.size + 1 + 1, 4, none⟩ = some (.int .u64 r1) ∧ w'.cell? ⟨w.heap.size + 1 + 1, 5, none⟩ = some (.int .u64 r2) ∧ w'.cell? ⟨w.heap.size + 1 + 1, 6, none⟩ = some (.int .u64 q0) ∧ w'.cell? ⟨w.heap.size + 1 + 1, 7, none⟩ = some (.int .u64 q1) ∧ w'.cell? ⟨w.heap.size + 1 + 1, 8, none⟩ = some (.int .u64 q2)) ∧ w'.cell? ⟨ve, 0, none⟩ = some (.slice bt nt ct) ∧ w'.cell? ⟨ve, 1, none⟩ = some (.slice bb nt cb) ∧ w'.cell? ⟨ve, 2, none⟩ = some (.slice bw nw cw)) ∧ w'.cell? ⟨pb, 0, none⟩ = some (.slice bk nt ck) ∧ w'.cell? ⟨pb, 1, none⟩ = some (.slice bz nw cz)) := fun w' ho => ⟨HTe.out _ (HO5.out.trans ho), ho.cellOf HC5.out.1, ho.cellOf HC5.out.2⟩
            clear hd hda HPv
            obtain ⟨⟨⟨d0, d1, d2, d3, d4, e0, e1, e2, s0, s1, s2, s3, s4, s5, s6, s7, s8⟩, c0, c1, c2⟩, g0, g1⟩ := HT9.out _ (Old.refl _)
            go_wp2_with (first
              | (go_at_call 25; refine (HHo.out _ HO5.out).mono ?_; rintro e wh ⟨rfl, oh⟩; clear d0 d1 d2 d3 d4 e0 e1 e2 s0 s1 s2 s3 s4 s5 s6 s7 s8 c0 c1 c2 g0 g1; obtain ⟨⟨⟨d0, d1, d2, d3, d4, e0, e1, e2, s0, s1, s2, s3, s4, s5, s6, s7, s8⟩, c0, c1, c2⟩, g0, g1⟩ := HT9.out _ oh)
              | (go_at_call 26; refine (HAc.out bk ck bz cz _ (HO5.out.trans oh) (HF5.out.1.old oh) (HF5.out.2.old oh)).mono ?_; rintro e wi ⟨rfl, oi⟩))
            go_roundw
            case rel => exact ⟨i + 1, idx_next i, by omega, (HOe.out.trans HO5.out).trans (oh.trans oi)⟩
            case measure => simp [intOf]; omega
          · have he : i = 4 := by omega
            subst he
            go_wp2_with fail
            go_ret
            exact ⟨rfl, HOW2.out _ HO2.out⟩

end Go.Proofs.Ytokhpppealdfmaf
