/-
  Boxes, and a claim that is built row by row (layer 7).
-/
import Derived.Test.YtokhpppealdfmafProw
namespace Go.Proofs.Ytokhpppealdfmaf
open Go.RowKit
abbrev bv (u0 v0 u1 v1 u2 v2 : Int) : Value := .agg #[.int .u64 u0, .int .u64 v0, .int .u64 u1, .int .u64 v1, .int .u64 u2, .int .u64 v2]
abbrev bc (u0 v0 u1 v1 u2 v2 : Int) : Array Value := #[.int .u64 u0, .int .u64 v0, .int .u64 u1, .int .u64 v1, .int .u64 u2, .int .u64 v2]
theorem box_at (u0 v0 u1 v1 u2 v2 : Int) : ∀ (i : Nat) (_ : i < 3) (w : World), (Instr.index 60 (.agg #[.int .u64 u0, .int .u64 v0, .int .u64 u1, .int .u64 v1, .int .u64 u2, .int .u64 v2]) (.int .i64 (i : Int))).run Try.prog w = .ok (pv (tri7 u0 u1 u2 i) (tri7 v0 v1 v2 i)) w
  | 0, _, w => by
    obtain ⟨i, h1, h2⟩ := Option.map_eq_some_iff.1 info_pair
    simp [Instr.index, run_underlying Try.underlying60, asIntOf, sizeOf, typeInfo, h1, h2, go_sem]
    exact ⟨rfl, rfl⟩
  | 1, _, w => by
    obtain ⟨i, h1, h2⟩ := Option.map_eq_some_iff.1 info_pair
    simp [Instr.index, run_underlying Try.underlying60, asIntOf, sizeOf, typeInfo, h1, h2, go_sem]
    exact ⟨rfl, rfl⟩
  | 2, _, w => by
    obtain ⟨i, h1, h2⟩ := Option.map_eq_some_iff.1 info_pair
    simp [Instr.index, run_underlying Try.underlying60, asIntOf, sizeOf, typeInfo, h1, h2, go_sem]
    exact ⟨rfl, rfl⟩

theorem slinfo : (Try.prog.info? 27).map (fun i => (i.zero, i.size, i.bytes)) = some (some (.slice none 0 0), 1, 24) := by kernel_rfl
theorem Full.grown {w w' : World} {b n : Nat} {F : Nat → Int} {row : Option Nat} (h : Full w b n F) (hg : w.grownBy w' row) (hne : row ≠ some b) : Full w' b n F := (hg.block b h.lt (Ne.symm hne)).trans h
theorem Full.other {w : World} {b n : Nat} {F : Nat → Int} (h : Full w b n F) {p : Addr} (hne : b ≠ p.block) (v : Value) : Full (w.setCell p v) b n F := (Below.heap_setCell w p v b hne).trans h

/-- Targets and rows that were made behind W's end and one block more: as many as it has come to. -/
structure Kp (W : World) (G : Int) (U : Nat → Int) (i k : Nat) (v u : Value) (bk : Nat → Nat) (wx : World) : Prop where
  old : Old W wx
  big : W.heap.size + 1 ≤ wx.heap.size
  nums : Nums wx (W.heap.size + 1) v i U
  own : wx.ownsRow (W.heap.size + 1) 27 1 u k ((List.range k).map fun j => Value.slice (some ⟨bk j, 0, none⟩) 3 3)
  full : ∀ j, j < k → W.heap.size + 1 ≤ bk j ∧ Full wx (bk j) 3 (rowAt G j)
  s1 : ∀ j, j < k → v.ownBlock ≠ some (bk j)
  s2 : ∀ j, j < k → u.ownBlock ≠ some (bk j)
  s3 : v.ownBlock = none ∨ u.ownBlock ≠ v.ownBlock
theorem Kp.old' {W wx w' : World} {G : Int} {U : Nat → Int} {i k : Nat} {v u : Value} {bk : Nat → Nat} (h : Kp W G U i k v u bk wx) (ho : Old wx w') : Kp W G U i k v u bk w' :=
  ⟨h.old.trans ho, Nat.le_trans h.big ho.size, h.nums.old ho, own_old h.own ho, fun j hj => ⟨(h.full j hj).1, (h.full j hj).2.old ho⟩, h.s1, h.s2, h.s3⟩
theorem Kp.set {W wx : World} {G : Int} {U : Nat → Int} {i k : Nat} {v u : Value} {bk : Nat → Nat} (h : Kp W G U i k v u bk wx) (j : Nat) (x : Value) : Kp W G U i k v u bk (wx.setCell ⟨W.heap.size, j, none⟩ x) :=
  ⟨h.old.setCell (p := ⟨W.heap.size, j, none⟩) (Nat.le_refl _) _, by have := h.big; simpa using this, ownsRow_setCell_below h.nums (Nat.lt_succ_self _) _, ownsRow_setCell_below h.own (Nat.lt_succ_self _) _, fun j' hj => ⟨(h.full j' hj).1, (h.full j' hj).2.other (by have := (h.full j' hj).1; show bk j' ≠ W.heap.size; omega) _⟩, h.s1, h.s2, h.s3⟩
theorem Kp.tgt {W w w' : World} {G : Int} {U : Nat → Int} {i k : Nat} {v u : Value} {bk : Nat → Nat} {g cap : Nat} (h : Kp W G U i k v u bk w) (hown : w'.ownsRow (W.heap.size + 1) 22 1 (.slice (some ⟨g, 0, none⟩) (i + 1) cap) (i + 1) ((List.range i).map (fun j => Value.int .u64 (U j)) ++ [.int .u64 (U i)])) (hg : w.grownBy w' v.ownBlock) (hat : v.ownBlock = some g ∨ g = w.heap.size) : Kp W G U (i + 1) k (.slice (some ⟨g, 0, none⟩) (i + 1) cap) u bk w' := by
  have hu := World.ownsRow.lt h.own
  refine ⟨h.old.grown hg fun b hb => ?_, Nat.le_trans h.big hg.size, Nums.app hown rfl, h.own.kept hg ?_, fun j hj => ⟨(h.full j hj).1, (h.full j hj).2.grown hg (h.s1 j hj)⟩, fun j hj he => ?_, h.s2, Or.inr fun he => ?_⟩
  · have := (World.ownsRow.lt h.nums b hb).1; omega
  · rcases h.s3 with h3 | h3
    · rw [h3]; cases hx : u.ownBlock
      · exact Or.inl rfl
      · exact Or.inr (by simp)
    · exact Or.inr h3
  · have he' : g = bk j := by simpa [Value.ownBlock] using he
    rcases hat with h1 | h1
    · exact h.s1 j hj (by rw [h1, he'])
    · have := (h.full j hj).2.lt; omega
  · have he' : u.ownBlock = some g := he
    rcases hat with h1 | h1
    · rcases h.s3 with h3 | h3
      · rw [h3] at h1; cases h1
      · exact h3 (by rw [he', h1])
    · have := (hu g he').2; omega
theorem Kp.bas {W w w' : World} {G : Int} {U : Nat → Int} {i k : Nat} {v u : Value} {bk : Nat → Nat} {b g cap : Nat} (h : Kp W G U i k v u bk w) (hb : W.heap.size + 1 ≤ b) (hF : Full w b 3 (rowAt G k)) (hvb : v.ownBlock ≠ some b) (hub : u.ownBlock ≠ some b) (hown : w'.ownsRow (W.heap.size + 1) 27 1 (.slice (some ⟨g, 0, none⟩) (k + 1) cap) (k + 1) ((List.range k).map (fun j => Value.slice (some ⟨bk j, 0, none⟩) 3 3) ++ [.slice (some ⟨b, 0, none⟩) 3 3])) (hg : w.grownBy w' u.ownBlock) (hat : u.ownBlock = some g ∨ g = w.heap.size) :
    Kp W G U i (k + 1) v (.slice (some ⟨g, 0, none⟩) (k + 1) cap) (fun j => if j = k then b else bk j) w' := by
  have hv := World.ownsRow.lt h.nums
  refine ⟨h.old.grown hg fun c hc => ?_, Nat.le_trans h.big hg.size, World.ownsRow.kept h.nums hg ?_, ?_, fun j hj => ?_, fun j hj he => ?_, fun j hj he => ?_, ?_⟩
  · have := (World.ownsRow.lt h.own c hc).1; omega
  · rcases h.s3 with h3 | h3
    · exact Or.inl h3
    · exact Or.inr (Ne.symm h3)
  · have e : (List.range (k + 1)).map (fun j => Value.slice (some ⟨if j = k then b else bk j, 0, none⟩) 3 3) = (List.range k).map (fun j => Value.slice (some ⟨bk j, 0, none⟩) 3 3) ++ [.slice (some ⟨b, 0, none⟩) 3 3] := by
      rw [List.range_succ, List.map_append]
      congr 1
      · refine List.map_congr_left fun j hj => ?_
        have := List.mem_range.1 hj
        rw [if_neg (by omega)]
      · simp
    rw [e]
    exact hown
  · by_cases hjk : j = k
    · subst hjk
      simp only [if_true]
      exact ⟨hb, hF.grown hg hub⟩
    · rw [if_neg hjk]
      exact ⟨(h.full j (by omega)).1, (h.full j (by omega)).2.grown hg (h.s2 j (by omega))⟩
  · by_cases hjk : j = k
    · subst hjk
      simp only [if_true] at he
      exact hvb he
    · rw [if_neg hjk] at he
      exact h.s1 j (by omega) he
  · have he' : g = if j = k then b else bk j := by simpa [Value.ownBlock] using he
    by_cases hjk : j = k
    · rw [if_pos hjk] at he'
      rcases hat with h1 | h1
      · exact hub (by rw [h1, he'])
      · have := hF.lt; omega
    · rw [if_neg hjk] at he'
      rcases hat with h1 | h1
      · exact h.s2 j (by omega) (by rw [h1, he'])
      · have := (h.full j (by omega)).2.lt; omega
  · cases hvo : v.ownBlock with
    | none => exact Or.inl rfl
    | some c =>
      refine Or.inr fun he => ?_
      have he' : g = c := by simpa [Value.ownBlock] using he
      have hc := (hv c hvo).2
      rcases hat with h1 | h1
      · rcases h.s3 with h3 | h3
        · rw [h3] at hvo; cases hvo
        · exact h3 (by rw [h1, hvo, he'])
      · omega
theorem Kp.rws {W w : World} {G : Int} {U : Nat → Int} {i k : Nat} {v u : Value} {bk : Nat → Nat} (h : Kp W G U i k v u bk w) : Rws w (W.heap.size + 1) u k (fun _ => 3) (fun j => rowAt G j) :=
  ⟨fun j => some ⟨bk j, 0, none⟩, fun _ => 3, h.own, fun j hj => (h.full j hj).2.nums (h.full j hj).1 (by omega)⟩
theorem Kp.new (W : World) (o : Obj) (G : Int) (U : Nat → Int) : Kp W G U 0 0 (.slice none 0 0) (.slice none 0 0) (fun _ => 0) (W.alloc o) :=
  ⟨(Old.refl _).alloc _, by simp, nums_nil _ _ _, World.ownsRow_nil _ _ _ _, fun j hj => by omega, fun j hj => by omega, fun j hj => by omega, Or.inl rfl⟩
theorem own_new_ne {w : World} {base : Nat} {e : TypeId} {size : Nat} {v : Value} {n : Nat} {xs : List Value} (h : w.ownsRow base e size v n xs) {b : Nat} (hb : w.heap.size ≤ b) : v.ownBlock ≠ some b := fun he => by
  have := (World.ownsRow.lt h b he).2; omega

end Go.Proofs.Ytokhpppealdfmaf
