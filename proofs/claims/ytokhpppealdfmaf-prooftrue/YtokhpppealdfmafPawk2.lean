/-
  The statements' awake (layer 7).
-/
import Derived.Test.YtokhpppealdfmafPawk
namespace Go.Proofs.Ytokhpppealdfmaf
open Go.RowKit

theorem own_new_ne7 {w : World} {base : Nat} {e : TypeId} {size : Nat} {v : Value} {n : Nat} {xs : List Value} (h : w.ownsRow base e size v n xs) {b : Nat} (hb : w.heap.size ≤ b) : v.ownBlock ≠ some b := fun he => by
  have := (World.ownsRow.lt h b he).2; omega
theorem own_other {w : World} {base : Nat} {e : TypeId} {size : Nat} {v : Value} {n : Nat} {xs : List Value} (h : w.ownsRow base e size v n xs) {p : Addr} (hne : v.ownBlock ≠ some p.block) (u : Value) : (w.setCell p u).ownsRow base e size v n xs := by
  refine ⟨h.1, ?_⟩
  rcases h.2 with h2 | ⟨g, cap, cur, hv, hb, hg, r⟩
  · exact Or.inl h2
  · refine Or.inr ⟨g, cap, cur, hv, hb, ?_, r⟩
    rw [Below.heap_setCell w p u g (fun he => hne (by rw [hv, ← he]; rfl))]
    exact hg
theorem own_sl {w : World} {base : Nat} {e : TypeId} {size : Nat} {v : Value} {n : Nat} {xs : List Value} (h : w.ownsRow base e size v n xs) : ∃ b c, v = .slice b n c := by
  rcases h.2 with ⟨rfl, rfl⟩ | ⟨g, cap, cur, rfl, _⟩
  · exact ⟨none, 0, rfl⟩
  · exact ⟨_, cap, rfl⟩

/-- A proof in its variable: nothing yet, or what was found. -/
abbrev NilP : Array Value := #[.slice none 0 0, .slice none 0 0]
/-- What stands in the slots of awake's second statement. -/
def awkF (base : Nat) (a : Option Addr) (l : Nat → Bool) (x : Value × Value × Nat) : Nat → Value → World → Prop
  | 0, v, _ => v = gv 2027 1013 4 9 a 5 5
  | 1, v, _ => v = gv 2027 1013 4 9 a 5 5
  | 2, v, w => ∃ bt ct bb cb BA C, v = cv bt 1 ct bb 1 cb ∧ (l 5 = false → ClaimIn w bt 1 ct (fun _ => 64) bb 1 cb BA (fun _ => 1) C (fun _ _ => 4))
  | 3, v, w => ∃ b, v = .slice (some ⟨b, 0, none⟩) 1 1 ∧ (l 5 = false → FacsIn w (some ⟨b, 0, none⟩) 1 (fun _ => 3))
  | 4, v, w => ∃ b, v = .slice (some ⟨b, 0, none⟩) 1 1 ∧ (l 5 = false → FacsIn w (some ⟨b, 0, none⟩) 1 (fun _ => 700))
  | 5, v, w => v = .tuple #[.agg #[x.1, x.2.1], .bool true] ∧ Nums w base x.1 1 (fun _ => 1471) ∧ Nums w base x.2.1 1 (fun _ => 27) ∧ (l 9 = true → x.1.ownBlock ≠ some x.2.2 ∧ x.2.1.ownBlock ≠ some x.2.2)
  | 6, v, _ => l 5 = true ∧ v = .tuple #[.agg #[x.1, x.2.1], .bool true]
  | 7, v, _ => l 5 = true ∧ v = .agg #[x.1, x.2.1]
  | 8, v, _ => v = .bool true
  | 9, v, w => v = .pointer (some ⟨x.2.2, 0, none⟩) ∧ base ≤ x.2.2 ∧ x.2.2 < w.heap.size ∧ (l 10 = false → w.heap[x.2.2]? = some (.cells NilP 51 (0, 0)))
  | 10, _, w => l 5 = true ∧ l 9 = true ∧ w.heap[x.2.2]? = some (.cells #[x.1, x.2.1] 51 (0, 0))
  | _, _, _ => True
theorem lset_false {l : Nat → Bool} {i k : Nat} (h : lset l i k = false) : l k = false := by
  cases hl : l k
  · rfl
  · simp [lset, hl] at h
theorem lset_true {l : Nat → Bool} {i k : Nat} (h : l k = true) : lset l i k = true := by simp [lset, h]
/-- What has come up stands, behind a step that is not the variable's. -/
theorem awkF_old {base : Nat} {a : Option Addr} {l : Nat → Bool} {x : Value × Value × Nat} {w w' : World} {i : Nat} (h9 : i ≠ 9) (ho : Old w w') (k : Nat) (v : Value) (h : awkF base a l x k v w) : awkF base a (lset l i) x k v w' := by
  match k, h with
  | 0, h => exact h
  | 1, h => exact h
  | 2, ⟨bt, ct, bb, cb, BA, C, e, h⟩ => exact ⟨bt, ct, bb, cb, BA, C, e, fun hl => (h (lset_false hl)).old ho⟩
  | 3, ⟨b, e, h⟩ => exact ⟨b, e, fun hl => (h (lset_false hl)).old ho⟩
  | 4, ⟨b, e, h⟩ => exact ⟨b, e, fun hl => (h (lset_false hl)).old ho⟩
  | 5, ⟨e, h1, h2, h3⟩ => exact ⟨e, h1.old ho, h2.old ho, fun hl => h3 (by rw [lset_at (Ne.symm h9)] at hl; exact hl)⟩
  | 6, ⟨h1, h2⟩ => exact ⟨lset_true h1, h2⟩
  | 7, ⟨h1, h2⟩ => exact ⟨lset_true h1, h2⟩
  | 8, h => exact h
  | 9, ⟨e, h1, h2, h3⟩ => exact ⟨e, h1, Nat.lt_of_lt_of_le h2 ho.size, fun hl => (ho.block _ h2).trans (h3 (lset_false hl))⟩
  | 10, ⟨h1, h2, h3⟩ => exact ⟨lset_true h1, lset_true h2, (ho.block _ (Array.getElem?_eq_some_iff.1 h3).1).trans h3⟩
  | _ + 11, _ => exact trivial
/-- Behind the proof's call. -/
theorem awkF_prove {base : Nat} {a : Option Addr} {l : Nat → Bool} {x : Value × Value × Nat} {w w' : World} {y z : Value} (hl5 : l 5 = false) (ho : Old w w') (k : Nat) (v : Value) (hk : k ≠ 5) (h : awkF base a l x k v w) : awkF base a (lset l 5) (y, z, x.2.2) k v w' := by
  match k, h with
  | 0, h => exact h
  | 1, h => exact h
  | 2, ⟨bt, ct, bb, cb, BA, C, e, h⟩ => exact ⟨bt, ct, bb, cb, BA, C, e, fun hl => (h (lset_false hl)).old ho⟩
  | 3, ⟨b, e, h⟩ => exact ⟨b, e, fun hl => (h (lset_false hl)).old ho⟩
  | 4, ⟨b, e, h⟩ => exact ⟨b, e, fun hl => (h (lset_false hl)).old ho⟩
  | 5, _ => exact absurd rfl hk
  | 6, ⟨h1, _⟩ => rw [hl5] at h1; cases h1
  | 7, ⟨h1, _⟩ => rw [hl5] at h1; cases h1
  | 8, h => exact h
  | 9, ⟨e, h1, h2, h3⟩ => exact ⟨e, h1, Nat.lt_of_lt_of_le h2 ho.size, fun hl => (ho.block _ h2).trans (h3 (lset_false hl))⟩
  | 10, ⟨h1, _, _⟩ => rw [hl5] at h1; cases h1
  | _ + 11, _ => exact trivial
/-- Behind the variable's making. -/
theorem awkF_var {base : Nat} {a : Option Addr} {l : Nat → Bool} {x : Value × Value × Nat} {w : World} {o : Obj} (hl9 : l 9 = false) (k : Nat) (v : Value) (hk : k ≠ 9) (h : awkF base a l x k v w) : awkF base a (lset l 9) (x.1, x.2.1, w.heap.size) k v (w.alloc o) := by
  have ho : Old w (w.alloc o) := (Old.refl _).alloc _
  match k, h with
  | 0, h => exact h
  | 1, h => exact h
  | 2, ⟨bt, ct, bb, cb, BA, C, e, h⟩ => exact ⟨bt, ct, bb, cb, BA, C, e, fun hl => (h (lset_false hl)).old ho⟩
  | 3, ⟨b, e, h⟩ => exact ⟨b, e, fun hl => (h (lset_false hl)).old ho⟩
  | 4, ⟨b, e, h⟩ => exact ⟨b, e, fun hl => (h (lset_false hl)).old ho⟩
  | 5, ⟨e, h1, h2, _⟩ => exact ⟨e, h1.old ho, h2.old ho, fun _ => ⟨own_new_ne7 h1 (Nat.le_refl _), own_new_ne7 h2 (Nat.le_refl _)⟩⟩
  | 6, ⟨h1, h2⟩ => exact ⟨lset_true h1, h2⟩
  | 7, ⟨h1, h2⟩ => exact ⟨lset_true h1, h2⟩
  | 8, h => exact h
  | 9, _ => exact absurd rfl hk
  | 10, ⟨_, h2, _⟩ => rw [hl9] at h2; cases h2
  | _ + 11, _ => exact trivial
/-- Behind the store into the variable. -/
theorem awkF_store {base : Nat} {a : Option Addr} {l : Nat → Bool} {x : Value × Value × Nat} {w : World} (hl5 : l 5 = true) (hl9 : l 9 = true) (p q : Value) (k : Nat) (v : Value) (hk : k ≠ 10) (h : awkF base a l x k v w) : awkF base a (lset l 10) x k v ((w.setCell ⟨x.2.2, 0, none⟩ p).setCell ⟨x.2.2, 1, none⟩ q) := by
  match k, h with
  | 0, h => exact h
  | 1, h => exact h
  | 2, ⟨bt, ct, bb, cb, BA, C, e, _⟩ => exact ⟨bt, ct, bb, cb, BA, C, e, fun hl => by rw [lset_true hl5] at hl; cases hl⟩
  | 3, ⟨b, e, _⟩ => exact ⟨b, e, fun hl => by rw [lset_true hl5] at hl; cases hl⟩
  | 4, ⟨b, e, _⟩ => exact ⟨b, e, fun hl => by rw [lset_true hl5] at hl; cases hl⟩
  | 5, ⟨e, h1, h2, h3⟩ => exact ⟨e, own_other (own_other h1 (p := ⟨x.2.2, 0, none⟩) (h3 hl9).1 _) (p := ⟨x.2.2, 1, none⟩) (h3 hl9).1 _, own_other (own_other h2 (p := ⟨x.2.2, 0, none⟩) (h3 hl9).2 _) (p := ⟨x.2.2, 1, none⟩) (h3 hl9).2 _, fun _ => h3 hl9⟩
  | 6, ⟨h1, h2⟩ => exact ⟨lset_true h1, h2⟩
  | 7, ⟨h1, h2⟩ => exact ⟨lset_true h1, h2⟩
  | 8, h => exact h
  | 9, ⟨e, h1, h2, _⟩ => exact ⟨e, h1, by simpa using h2, fun hl => by rw [lset_self] at hl; cases hl⟩
  | 10, _ => exact absurd rfl hk
  | _ + 11, _ => exact trivial
def awkD (k : Nat) : Nat := [6, 7, 8, 9, 10, 11, 5, 12, 13, 2, 100].getD k 0
theorem awkD_ne : ∀ k, k < 11 → ∀ i, i < 11 → k ≠ i → awkD k ≠ awkD i := by decide

set_option linter.unusedSimpArgs false in
set_option maxRecDepth 100000 in
set_option maxHeartbeats 40000000 in
theorem awake7_any (w : World) : Calls Try.prog 20 #[] w fun e w' => e = .returned (.bool true) ∧ Old w w' := by
  go_enter Try.func20, Try.ntmps20
  go_upto_region 2 with (go_at_call 43; refine (small4_any _).mono ?_; rintro e w1 ⟨a, FA, rfl, hrow, ho1⟩)
  have HZ := lain1 w1 (gc 2027 1013 4 9 a 5 5) 25
  have HW : Hid (Old w w1) := ho1
  clear hrow ho1
  generalize w1.alloc (.cells (gc 2027 1013 4 9 a 5 5) 25) = W at *
  have HWW : Hid (Old w W) := HW.out.trans HZ.old
  have HT0 : ∀ w', Old W w' → w'.cell? ⟨w1.heap.size, 0, none⟩ = some (.int .u64 2027) ∧ w'.cell? ⟨w1.heap.size, 1, none⟩ = some (.int .u64 1013) ∧ w'.cell? ⟨w1.heap.size, 2, none⟩ = some (.int .u64 4) ∧ w'.cell? ⟨w1.heap.size, 3, none⟩ = some (.int .u64 9) ∧ w'.cell? ⟨w1.heap.size, 4, none⟩ = some (.slice a 5 5) := fun w' ho => by
    have h := HZ.then ho
    exact ⟨h.cell 0 0 (by simp) rfl, h.cell 0 1 (by simp) rfl, h.cell 0 2 (by simp) rfl, h.cell 0 3 (by simp) rfl, h.cell 0 4 (by simp) rfl⟩
  clear HZ HW
  generalize w1.heap.size = s at *
  have HT : Hid (∀ w', Old W w' → w'.cell? ⟨s, 0, none⟩ = some (.int .u64 2027) ∧ w'.cell? ⟨s, 1, none⟩ = some (.int .u64 1013) ∧ w'.cell? ⟨s, 2, none⟩ = some (.int .u64 4) ∧ w'.cell? ⟨s, 3, none⟩ = some (.int .u64 9) ∧ w'.cell? ⟨s, 4, none⟩ = some (.slice a 5 5)) := HT0
  clear HT0
  have HKp : Hid (∀ wx, Calls Try.prog 30 #[gv 2027 1013 4 9 a 5 5, .int .u64 64] wx (MadeIn wx 1 (fun _ => 64) 1 (fun _ => 1) (fun _ _ => 4))) := fun wx => awk7_keep 64 a ⟨by omega, by omega⟩ wx
  have HKn : Hid (∀ wx, Calls Try.prog 30 #[gv 2027 1013 4 9 a 5 5, .int .u64 9] wx (MadeIn wx 1 (fun _ => 9) 1 (fun _ => 1) (fun _ _ => 4))) := fun wx => awk7_keep 9 a ⟨by omega, by omega⟩ wx
  refine wp_region_head 11 _ rfl rfl (FacS W Old (fun t => ⟨#[.bool false, .pointer (some ⟨s, 0, none⟩), t 2, undef, gv 2027 1013 4 9 a 5 5, t 5, t 6, t 7, t 8, t 9, t 10, t 11, t 12, t 13, undef, undef, undef, undef, undef, undef, undef, undef, undef, undef, undef, undef, undef, undef, undef, undef], []⟩) 11 awkD (awkF W.heap.size a)) (by kernel_rfl) (by kernel_rfl) (by kernel_rfl) ⟨(Old.refl _).drew, (undef, undef, 0), fun _ => undef, rfl, fun _ _ h => by cases h⟩ ?step ?fin
  case step =>
    refine stepsOk.cons ?_ ?_
    · intro l a2 wx K hli hpre hJ hK
      obtain ⟨hO, ⟨x, z, b⟩, t, rfl, hf⟩ := hJ
      obtain ⟨d0, d1, d2, d3, d4⟩ := HT.out _ hO
      rw [if_pos (by rfl)]
      go_simp
      exact hK.out _ _ (FacS.keep awkD_ne 0 (by omega) (gv 2027 1013 4 9 a 5 5) (x, z, b) (rfl) hf (fun k u _ _ h => awkF_old (by omega) (Old.refl _) k u h) (hO) (rfl))
    refine stepsOk.cons ?_ ?_
    · intro l a2 wx K hli hpre hJ hK
      obtain ⟨hO, ⟨x, z, b⟩, t, rfl, hf⟩ := hJ
      obtain ⟨d0, d1, d2, d3, d4⟩ := HT.out _ hO
      rw [if_pos (by rfl)]
      go_simp
      exact hK.out _ _ (FacS.keep awkD_ne 1 (by omega) (gv 2027 1013 4 9 a 5 5) (x, z, b) (rfl) hf (fun k u _ _ h => awkF_old (by omega) (Old.refl _) k u h) (hO) (rfl))
    refine stepsOk.cons ?_ ?_
    · intro l a2 wx K hli hpre hJ hK
      obtain ⟨hO, ⟨x, z, b⟩, t, rfl, hf⟩ := hJ
      have p7 : t 7 = gv 2027 1013 4 9 a 5 5 := hf 1 (by omega) (hpre ⟨1, .data⟩ (by simp) (by rfl))
      rw [if_pos (by rfl)]
      go_simp
      refine (HKp.out _).mono ?_
      rintro e wz ⟨bt, ct, bb, cb, BA, C, rfl, oz, hcl⟩
      exact hK.out _ _ (FacS.keep awkD_ne 2 (by omega) (cv bt 1 ct bb 1 cb) (x, z, b) (by (try simp only [← p7]); rfl) hf (fun k u _ _ h => awkF_old (by omega) oz k u h) (hO.trans oz) (⟨bt, ct, bb, cb, BA, C, rfl, fun _ => hcl⟩))
    refine stepsOk.cons ?_ ?_
    · intro l a2 wx K hli hpre hJ hK
      obtain ⟨hO, ⟨x, z, b⟩, t, rfl, hf⟩ := hJ
      rw [if_pos (by rfl)]
      go_simp
      exact hK.out _ _ (FacS.keep awkD_ne 3 (by omega) (.slice (some ⟨wx.heap.size, 0, none⟩) 1 1) (x, z, b) (rfl) hf (fun k u _ _ h => awkF_old (by omega) ((Old.refl _).alloc _) k u h) (hO.alloc _) (⟨_, rfl, fun _ => facs_one wx 3 _ ⟨by omega, by omega⟩⟩))
    refine stepsOk.cons ?_ ?_
    · intro l a2 wx K hli hpre hJ hK
      obtain ⟨hO, ⟨x, z, b⟩, t, rfl, hf⟩ := hJ
      rw [if_pos (by rfl)]
      go_simp
      exact hK.out _ _ (FacS.keep awkD_ne 4 (by omega) (.slice (some ⟨wx.heap.size, 0, none⟩) 1 1) (x, z, b) (rfl) hf (fun k u _ _ h => awkF_old (by omega) ((Old.refl _).alloc _) k u h) (hO.alloc _) (⟨_, rfl, fun _ => facs_one wx 700 _ ⟨by omega, by omega⟩⟩))
    refine stepsOk.cons ?_ ?_
    · intro l a2 wx K hli hpre hJ hK
      obtain ⟨hO, ⟨x, z, b⟩, t, rfl, hf⟩ := hJ
      have p6 : t 6 = gv 2027 1013 4 9 a 5 5 := hf 0 (by omega) (hpre ⟨0, .data⟩ (by simp) (by rfl))
      have P8 : ∃ bt ct bb cb BA C, t 8 = cv bt 1 ct bb 1 cb ∧ (l 5 = false → ClaimIn wx bt 1 ct (fun _ => 64) bb 1 cb BA (fun _ => 1) C (fun _ _ => 4)) := hf 2 (by omega) (hpre ⟨2, .data⟩ (by simp) (by rfl))
      have P9 : ∃ b, t 9 = .slice (some ⟨b, 0, none⟩) 1 1 ∧ (l 5 = false → FacsIn wx (some ⟨b, 0, none⟩) 1 (fun _ => 3)) := hf 3 (by omega) (hpre ⟨3, .data⟩ (by simp) (by rfl))
      have P10 : ∃ b, t 10 = .slice (some ⟨b, 0, none⟩) 1 1 ∧ (l 5 = false → FacsIn wx (some ⟨b, 0, none⟩) 1 (fun _ => 700)) := hf 4 (by omega) (hpre ⟨4, .data⟩ (by simp) (by rfl))
      obtain ⟨bt, ct, bb, cb, BA, C, e8, hcl⟩ := P8
      obtain ⟨b3, e9, hf3⟩ := P9
      obtain ⟨b4, e10, hf4⟩ := P10
      have HPh : Hid (Calls Try.prog 22 #[gv 2027 1013 4 9 a 5 5, .string ⟨#[97]⟩, cv bt 1 ct bb 1 cb, .slice (some ⟨b3, 0, none⟩) 1 1, .slice (some ⟨b4, 0, none⟩) 1 1] wx (GivesP wx true 1 (fun _ => 1471) 1 (fun _ => 27))) := awk7_prove a bt ct bb cb BA C (some ⟨b3, 0, none⟩) (some ⟨b4, 0, none⟩) wx (hcl hli) (hf3 hli) (hf4 hli)
      clear hcl hf3 hf4
      have H9 : Hid (l 9 = true → b < wx.heap.size) := fun h9 => (hf 9 (by omega) h9).2.2.1
      rw [if_pos (by rfl)]
      go_simp
      refine HPh.out.mono ?_
      rintro e wz ⟨oz, y, u, rfl, N1, N2⟩
      simp only [if_true] at N1 N2
      exact hK.out _ _ (FacS.keep awkD_ne 5 (by omega) (.tuple #[.agg #[y, u], .bool true]) (y, u, b) (by (try simp only [← p6, ← e8, ← e9, ← e10]); rfl) hf (fun k v hk _ h => awkF_prove hli oz k v hk h) (hO.trans oz) (⟨rfl, N1.mono hO.size, N2.mono hO.size, fun h9 => by
        have hb := H9.out (by rwa [lset_at (by omega)] at h9)
        exact ⟨fun he => by have := (World.ownsRow.lt N1 _ he).1; show False; simp only at this; omega, fun he => by have := (World.ownsRow.lt N2 _ he).1; show False; simp only at this; omega⟩⟩))
    refine stepsOk.cons ?_ ?_
    · intro l a2 wx K hli hpre hJ hK
      obtain ⟨hO, ⟨x, z, b⟩, t, rfl, hf⟩ := hJ
      have P5 := hf 5 (by omega) (hpre ⟨5, .data⟩ (by simp) (by rfl))
      have p11 : t 11 = .tuple #[.agg #[x, z], .bool true] := P5.1
      clear P5
      rw [if_pos (by rfl)]
      go_simp
      exact hK.out _ _ (FacS.keep awkD_ne 6 (by omega) (.tuple #[.agg #[x, z], .bool true]) (x, z, b) (by (try simp only [← p11]); rfl) hf (fun k u _ _ h => awkF_old (by omega) (Old.refl _) k u h) (hO) (⟨lset_true (hpre ⟨5, .data⟩ (by simp) (by rfl)), rfl⟩))
    refine stepsOk.cons ?_ ?_
    · intro l a2 wx K hli hpre hJ hK
      obtain ⟨hO, ⟨x, z, b⟩, t, rfl, hf⟩ := hJ
      have P6 : l 5 = true ∧ t 5 = .tuple #[.agg #[x, z], .bool true] := hf 6 (by omega) (hpre ⟨6, .data⟩ (by simp) (by rfl))
      obtain ⟨h5, p5⟩ := P6
      have H5 : Hid (l 5 = true) := h5
      clear h5
      rw [if_pos (by rfl)]
      go_simp
      exact hK.out _ _ (FacS.keep awkD_ne 7 (by omega) (.agg #[x, z]) (x, z, b) (by (try simp only [← p5]); rfl) hf (fun k u _ _ h => awkF_old (by omega) (Old.refl _) k u h) (hO) (⟨lset_true H5.out, rfl⟩))
    refine stepsOk.cons ?_ ?_
    · intro l a2 wx K hli hpre hJ hK
      obtain ⟨hO, ⟨x, z, b⟩, t, rfl, hf⟩ := hJ
      have P6 : l 5 = true ∧ t 5 = .tuple #[.agg #[x, z], .bool true] := hf 6 (by omega) (hpre ⟨6, .data⟩ (by simp) (by rfl))
      obtain ⟨h5, p5⟩ := P6
      have H5 : Hid (l 5 = true) := h5
      clear h5
      rw [if_pos (by rfl)]
      go_simp
      exact hK.out _ _ (FacS.keep awkD_ne 8 (by omega) (.bool true) (x, z, b) (by (try simp only [← p5]); rfl) hf (fun k u _ _ h => awkF_old (by omega) (Old.refl _) k u h) (hO) (rfl))
    refine stepsOk.cons ?_ ?_
    · intro l a2 wx K hli hpre hJ hK
      obtain ⟨hO, ⟨x, z, b⟩, t, rfl, hf⟩ := hJ
      rw [if_pos (by rfl)]
      go_simp
      exact hK.out _ _ (FacS.keep awkD_ne 9 (by omega) (.pointer (some ⟨wx.heap.size, 0, none⟩)) (x, z, wx.heap.size) (rfl) hf (fun k u hk _ h => awkF_var hli k u hk h) (hO.alloc _) (⟨rfl, hO.size, by simp, fun _ => heap_alloc_last wx _⟩))
    refine stepsOk.cons ?_ ?_
    · intro l a2 wx K hli hpre hJ hK
      obtain ⟨hO, ⟨x, z, b⟩, t, rfl, hf⟩ := hJ
      have P9 : t 2 = .pointer (some ⟨b, 0, none⟩) ∧ W.heap.size ≤ b ∧ b < wx.heap.size ∧ (l 10 = false → wx.heap[b]? = some (.cells NilP 51 (0, 0))) := hf 9 (by omega) (hpre ⟨9, .data⟩ (by simp) (by rfl))
      have P7 : l 5 = true ∧ t 12 = .agg #[x, z] := hf 7 (by omega) (hpre ⟨7, .data⟩ (by simp) (by rfl))
      have P5 := hf 5 (by omega) (hpre ⟨5, .chain⟩ (by simp) (by rfl))
      obtain ⟨_, N1, N2, _⟩ := P5
      obtain ⟨bx, cx, ex⟩ := own_sl N1
      obtain ⟨bz, cz, ez⟩ := own_sl N2
      dsimp only at ex ez
      subst ex ez
      clear N1 N2
      obtain ⟨p2, hbb, hbs, hrow⟩ := P9
      obtain ⟨h5, p12⟩ := P7
      have HRh : Hid (wx.heap[b]? = some (.cells NilP 51 (0, 0))) := hrow hli
      have H5 : Hid (l 5 = true) := h5
      have H9 : Hid (l 9 = true) := hpre ⟨9, .data⟩ (by simp) (by rfl)
      clear h5 hrow
      have q0 : wx.cell? ⟨b, 0, none⟩ = some (.slice none 0 0) := cell_of_row _ _ 0 _ _ (0, 0) HRh.out
      have q1 : wx.cell? ⟨b, 1, none⟩ = some (.slice none 0 0) := cell_of_row _ _ 1 _ _ (0, 0) HRh.out
      have f0 : wx.frozen? ⟨b, 0, none⟩ = false := row_frozen HRh.out 0
      have f1 : wx.frozen? ⟨b, 1, none⟩ = false := row_frozen HRh.out 1
      rw [if_pos (by rfl)]
      go_simp
      exact hK.out _ _ (FacS.keep awkD_ne 10 (by omega) (undef) (.slice bx 1 cx, .slice bz 1 cz, b) (by (try simp only [← p2, ← p12]); rfl) hf (fun k u hk _ h => awkF_store H5.out H9.out _ _ k u hk h) ((hO.setCell (p := ⟨b, 0, none⟩) hbb _).setCell (p := ⟨b, 1, none⟩) hbb _) (⟨lset_true H5.out, lset_true H9.out, by have := set_row (set_row HRh.out 0 (.slice bx 1 cx)) 1 (.slice bz 1 cz); simpa using this⟩))
    exact trivial
  case fin =>
    intro m a2 wx K hall hJ hK
    obtain ⟨hO, ⟨x, z, b⟩, t, rfl, hf⟩ := hJ
    have p13 : t 13 = .bool true := hf 8 (by omega) (hall 8 (by omega))
    obtain ⟨_, N1, N2, _⟩ := hf 5 (by omega) (hall 5 (by omega))
    have p2 : t 2 = .pointer (some ⟨b, 0, none⟩) := (hf 9 (by omega) (hall 9 (by omega))).1
    have HR : Hid (wx.heap[b]? = some (.cells #[x, z] 51 (0, 0))) := (hf 10 (by omega) (hall 10 (by omega))).2.2
    obtain ⟨bx, cx, ex, _, _, F1⟩ := N1.facs2 (fun _ _ => ⟨by omega, by omega⟩)
    obtain ⟨bz, cz, ez, _, _, F2⟩ := N2.facs2 (fun _ _ => ⟨by omega, by omega⟩)
    dsimp only at ex ez
    subst ex ez
    have HF1 : Hid (FacsIn wx bx 1 (fun _ => 1471)) := F1
    have HF2 : Hid (FacsIn wx bz 1 (fun _ => 27)) := F2
    have HOO : Hid (Old W wx) := hO
    clear hf hall N1 N2 F1 F2 hO
    have HS : Hid (∀ w', Old wx w' → (w'.cell? ⟨s, 0, none⟩ = some (.int .u64 2027) ∧ w'.cell? ⟨s, 1, none⟩ = some (.int .u64 1013) ∧ w'.cell? ⟨s, 2, none⟩ = some (.int .u64 4) ∧ w'.cell? ⟨s, 3, none⟩ = some (.int .u64 9) ∧ w'.cell? ⟨s, 4, none⟩ = some (.slice a 5 5)) ∧ w'.cell? ⟨b, 0, none⟩ = some (.slice bx 1 cx) ∧ w'.cell? ⟨b, 1, none⟩ = some (.slice bz 1 cz)) := fun w' ho => ⟨HT.out _ (HOO.out.trans ho), ho.cellOf (cell_of_row _ _ 0 _ _ (0, 0) HR.out), ho.cellOf (cell_of_row _ _ 1 _ _ (0, 0) HR.out)⟩
    have HA : Hid (∀ bt ct bb cb BA C w', Old wx w' → ClaimIn w' bt 1 ct (fun _ => 64) bb 1 cb BA (fun _ => 1) C (fun _ _ => 4) → Calls Try.prog 26 #[gv 2027 1013 4 9 a 5 5, .string ⟨#[97]⟩, cv bt 1 ct bb 1 cb, cv bx 1 cx bz 1 cz] w' fun e w2 => e = .returned (.bool true) ∧ Old w' w2) := fun bt ct bb cb BA C w' ho hc => awk7_accept 64 451 true awk7_ch64 awk7_yes a bt ct bb cb BA C bx cx bz cz w' hc (HF1.out.old ho) (HF2.out.old ho)
    have HB : Hid (∀ bt ct bb cb BA C w', Old wx w' → ClaimIn w' bt 1 ct (fun _ => 9) bb 1 cb BA (fun _ => 1) C (fun _ _ => 4) → Calls Try.prog 26 #[gv 2027 1013 4 9 a 5 5, .string ⟨#[97]⟩, cv bt 1 ct bb 1 cb, cv bx 1 cx bz 1 cz] w' fun e w2 => e = .returned (.bool false) ∧ Old w' w2) := fun bt ct bb cb BA C w' ho hc => awk7_accept 9 763 false awk7_ch9 awk7_no a bt ct bb cb BA C bx cx bz cz w' hc (HF1.out.old ho) (HF2.out.old ho)
    rw [if_pos (by rfl)]
    go_simp
    refine hK.out _ _ ?_
    clear HR HF1 HF2 HT
    go_upto_region 3 with fail
    have hd : Old wx wx.drew := (Old.refl wx).drew
    go_region_held3 (fun w' => (w'.cell? ⟨s, 0, none⟩ = some (.int .u64 2027) ∧ w'.cell? ⟨s, 1, none⟩ = some (.int .u64 1013) ∧ w'.cell? ⟨s, 2, none⟩ = some (.int .u64 4) ∧ w'.cell? ⟨s, 3, none⟩ = some (.int .u64 9) ∧ w'.cell? ⟨s, 4, none⟩ = some (.slice a 5 5)) ∧ w'.cell? ⟨b, 0, none⟩ = some (.slice bx 1 cx) ∧ w'.cell? ⟨b, 1, none⟩ = some (.slice bz 1 cz)) (first | exact HS.out _ h7 | exact HS.out _ h6 | exact HS.out _ h5 | exact HS.out _ h4 | exact HS.out _ hd) (first
      | (go_at_call_of 30 (Value.int .u64 64); refine (HKp.out _).mono ?_; rintro e w4 ⟨bt, ct, bb, cb, BA, C, rfl, o4, hc4⟩; have h4 : Old wx w4 := hd.trans o4)
      | (go_at_call 26; have hg := h6; refine (HB.out _ _ _ _ _ _ _ h6 hc6).mono ?_; rintro e w7 ⟨rfl, o7⟩; have h7 : Old wx w7 := h6.trans o7)
      | (go_at_call 26; refine (HA.out _ _ _ _ _ _ _ h4 hc4).mono ?_; rintro e w5 ⟨rfl, o5⟩; have h5 : Old wx w5 := h4.trans o5)
      | (go_at_call 30; refine (HKn.out _).mono ?_; rintro e w6 ⟨bt', ct', bb', cb', BA', C', rfl, o6, hc6⟩; have h6 : Old wx w6 := h5.trans o6))
    go_wp2_with fail
    go_ret
    exact ⟨rfl, (HWW.out.trans HOO.out).trans h7⟩

end Go.Proofs.Ytokhpppealdfmaf
