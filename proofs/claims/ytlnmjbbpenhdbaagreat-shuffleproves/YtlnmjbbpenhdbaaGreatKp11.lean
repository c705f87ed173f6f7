/-
  What the proof needs, part 11.
-/
import Derived.Test.YtlnmjbbpenhdbaaGreatKp10
namespace Go.Proofs.YtlnmjbbpenhdbaaGreat
open Tryz
open List renaming set_cons_zero → Ls0, set_cons_succ → Ls1, drop_succ_cons → Ld1, drop_zero → Ld0, drop_nil → Ldn
open Tryz renaming underlying3 → U3, underlying22 → U22, underlying25 → U25, underlying29 → U29, underlying41 → U41, underlying48 → U48, underlying74 → U74
set_option linter.unusedSimpArgs false
set_option linter.unusedVariables false
set_option maxRecDepth 100000
set_option maxHeartbeats 32000000
section
open Go.RowKit
theorem own_oth8 {w : World} {base : Nat} {e : TypeId} {size : Nat} {v : Value} {n : Nat} {xs : List Value} (h : w.ownsRow base e size v n xs) {p : Addr} (hne : v.ownBlock ≠ some p.block) (u : Value) : (w.setCell p u).ownsRow base e size v n xs := by
 refine ⟨h.1, ?_⟩
 rcases h.2 with h2 | ⟨g, cap, cur, hv, hb, hg, r⟩
 ·exact Or.inl h2
 ·refine Or.inr ⟨g, cap, cur, hv, hb, ?_, r⟩
  rw [Below.heap_setCell w p u g (fun he => hne (by rw [hv, <- he]; rfl))]
  exact hg
structure Ly (W : World) (s N : Nat) (Ks : List (Nat × Obj)) (T : NI) (Bs : NN) (i k : Nat) (v u : Value) (bk : Nat -> Nat) (wx : World) : Prop where
 old : Old W wx
 ws : W.heap.size <= s
 big : s + 1 <= wx.heap.size
 nums : Nums wx (s + 1) v i T
 own : wx.ownsRow (s + 1) 29 1 u k ((List.range k).map fun j => Value.slice (some ⟨bk j, 0, none⟩) N N)
 full : ∀ j, j < k -> s + 1 <= bk j /\ Full wx (bk j) N (Bs j)
 inj : ∀ i j, i < k -> j < k -> bk i = bk j -> i = j
 s1 : ∀ j, j < k -> v.ownBlock ≠ some (bk j)
 s2 : ∀ j, j < k -> u.ownBlock ≠ some (bk j)
 s3 : v.ownBlock = none ∨ u.ownBlock ≠ v.ownBlock
 prot : ∀ e, e ∈ Ks -> wx.heap[e.1]? = some e.2 /\ e.1 ≠ s /\ v.ownBlock ≠ some e.1 /\ u.ownBlock ≠ some e.1 /\ ∀ j, j < k -> bk j ≠ e.1
section
variable {W w wx w' : World} {s N : Nat} {Ks : List (Nat × Obj)} {T : NI} {Bs : NN} {i k : Nat} {v u : Value} {bk : Nat -> Nat}
theorem zag {b : Nat} {o : Obj} (h : w.heap[b]? = some o) : b < w.heap.size := (Array.getElem?_eq_some_iff.1 h).1
theorem Ly.old' (h : Ly W s N Ks T Bs i k v u bk wx) (ho : Old wx w') : Ly W s N Ks T Bs i k v u bk w' :=
 ⟨h.old.trans ho, h.ws, Nat.le_trans h.big ho.size, h.nums.old ho, zbr h.own ho, fun j hj => ⟨(h.full j hj).1, (h.full j hj).2.old ho⟩, h.inj, h.s1, h.s2, h.s3, fun e he => by
  obtain ⟨h1, h2⟩ := h.prot e he
  exact ⟨(ho.block _ (zag h1)).trans h1, h2⟩⟩
theorem Ly.set (h : Ly W s N Ks T Bs i k v u bk wx) (j : Nat) (x : Value) : Ly W s N Ks T Bs i k v u bk (wx.setCell ⟨s, j, none⟩ x) :=
 ⟨h.old.setCell (p := ⟨s, j, none⟩) h.ws _, h.ws, by have := h.big; simpa using this, ownsRow_setCell_below h.nums (Nat.lt_succ_self _) _, ownsRow_setCell_below h.own (Nat.lt_succ_self _) _, fun j' hj => ⟨(h.full j' hj).1, (h.full j' hj).2.other (by have := (h.full j' hj).1; show bk j' ≠ s; omega) _⟩, h.inj, h.s1, h.s2, h.s3, fun e he => by
  obtain ⟨h1, h2, h3⟩ := h.prot e he
  exact ⟨(Below.heap_setCell _ _ _ _ h2).trans h1, h2, h3⟩⟩
theorem Ly.tgt {g cap : Nat} {x : Int} (h : Ly W s N Ks T Bs i k v u bk w) (hx : T i = x) (hown : w'.ownsRow (s + 1) 22 1 (.slice (some ⟨g, 0, none⟩) (i + 1) cap) (i + 1) ((List.range i).map (fun j => Value.int .u64 (T j)) ++ [.int .u64 x])) (hg : w.grownBy w' v.ownBlock) (hat : v.ownBlock = some g ∨ g = w.heap.size) : Ly W s N Ks T Bs (i + 1) k (.slice (some ⟨g, 0, none⟩) (i + 1) cap) u bk w' := by
 have hu := World.ownsRow.lt h.own
 refine ⟨h.old.grown hg fun b hb => ?_, h.ws, Nat.le_trans h.big hg.size, Nums.app hown hx, h.own.kept hg ?_, fun j hj => ⟨(h.full j hj).1, (h.full j hj).2.grown hg (h.s1 j hj)⟩, h.inj, fun j hj he => ?_, h.s2, Or.inr fun he => ?_, fun e he => ?_⟩
 ·have := (World.ownsRow.lt h.nums b hb).1; have := h.ws; omega
 ·rcases h.s3 with h3 | h3
  ·rw [h3]; cases hx : u.ownBlock
   ·exact Or.inl rfl
   ·exact Or.inr (by simp)
  ·exact Or.inr h3
 ·have he' : g = bk j := by simpa [Value.ownBlock] using he
  rcases hat with h1 | h1
  ·exact h.s1 j hj (by rw [h1, he'])
  ·have := (h.full j hj).2.lt; omega
 ·have he' : u.ownBlock = some g := he
  rcases hat with h1 | h1
  ·rcases h.s3 with h3 | h3
   ·rw [h3] at h1; cases h1
   ·exact h3 (by rw [he', h1])
  ·have := (hu g he').2; omega
 ·obtain ⟨h1, h2, h3, h4, h5⟩ := h.prot e he
  refine ⟨(hg.block _ (zag h1) (Ne.symm h3)).trans h1, h2, fun hc => ?_, h4, h5⟩
  have hc' : g = e.1 := by simpa [Value.ownBlock] using hc
  rcases hat with h6 | h6
  ·exact h3 (by rw [h6, hc'])
  ·have := zag h1; omega
theorem Ly.bas {b g cap : Nat} (h : Ly W s N Ks T Bs i k v u bk w) (hb : s + 1 <= b) (hF : Full w b N (Bs k)) (hvb : v.ownBlock ≠ some b) (hub : u.ownBlock ≠ some b) (hnb : ∀ j, j < k -> bk j ≠ b) (hkb : ∀ e, e ∈ Ks -> b ≠ e.1) (hown : w'.ownsRow (s + 1) 29 1 (.slice (some ⟨g, 0, none⟩) (k + 1) cap) (k + 1) ((List.range k).map (fun j => Value.slice (some ⟨bk j, 0, none⟩) N N) ++ [.slice (some ⟨b, 0, none⟩) N N])) (hg : w.grownBy w' u.ownBlock) (hat : u.ownBlock = some g ∨ g = w.heap.size) :
  Ly W s N Ks T Bs i (k + 1) v (.slice (some ⟨g, 0, none⟩) (k + 1) cap) (fun j => if j = k then b else bk j) w' := by
 have hv := World.ownsRow.lt h.nums
 refine ⟨h.old.grown hg fun c hc => ?_, h.ws, Nat.le_trans h.big hg.size, World.ownsRow.kept h.nums hg ?_, ?_, fun j hj => ?_, fun p q hp hq he => ?_, fun j hj he => ?_, fun j hj he => ?_, ?_, fun e he => ?_⟩
 ·have := (World.ownsRow.lt h.own c hc).1; have := h.ws; omega
 ·rcases h.s3 with h3 | h3
  ·exact Or.inl h3
  ·exact Or.inr (Ne.symm h3)
 ·have e : (List.range (k + 1)).map (fun j => Value.slice (some ⟨if j = k then b else bk j, 0, none⟩) N N) = (List.range k).map (fun j => Value.slice (some ⟨bk j, 0, none⟩) N N) ++ [.slice (some ⟨b, 0, none⟩) N N] := by
   rw [List.range_succ, List.map_append]
   congr 1
   ·refine List.map_congr_left fun j hj => ?_
    have := List.mem_range.1 hj
    rw [if_neg (by omega)]
   ·simp
  rw [e]
  exact hown
 ·by_cases hjk : j = k
  ·subst hjk
   simp only [if_true]
   exact ⟨hb, hF.grown hg hub⟩
  ·rw [if_neg hjk]
   exact ⟨(h.full j (by omega)).1, (h.full j (by omega)).2.grown hg (h.s2 j (by omega))⟩
 ·by_cases h1 : p = k
  ·by_cases h2 : q = k
   ·omega
   ·rw [if_pos h1, if_neg h2] at he
    exact absurd he.symm (hnb q (by omega))
  ·by_cases h2 : q = k
   ·rw [if_neg h1, if_pos h2] at he
    exact absurd he (hnb p (by omega))
   ·rw [if_neg h1, if_neg h2] at he
    exact h.inj p q (by omega) (by omega) he
 ·by_cases hjk : j = k
  ·subst hjk
   simp only [if_true] at he
   exact hvb he
  ·rw [if_neg hjk] at he
   exact h.s1 j (by omega) he
 ·have he' : g = if j = k then b else bk j := by simpa [Value.ownBlock] using he
  by_cases hjk : j = k
  ·rw [if_pos hjk] at he'
   rcases hat with h1 | h1
   ·exact hub (by rw [h1, he'])
   ·have := hF.lt; omega
  ·rw [if_neg hjk] at he'
   rcases hat with h1 | h1
   ·exact h.s2 j (by omega) (by rw [h1, he'])
   ·have := (h.full j (by omega)).2.lt; omega
 ·cases hvo : v.ownBlock with
  | none => exact Or.inl rfl
  | some c =>
   refine Or.inr fun he => ?_
   have he' : g = c := by simpa [Value.ownBlock] using he
   have hc := (hv c hvo).2
   rcases hat with h1 | h1
   ·rcases h.s3 with h3 | h3
    ·rw [h3] at hvo; cases hvo
    ·exact h3 (by rw [h1, hvo, he'])
   ·omega
 ·obtain ⟨h1, h2, h3, h4, h5⟩ := h.prot e he
  refine ⟨(hg.block _ (zag h1) (Ne.symm h4)).trans h1, h2, h3, fun hc => ?_, fun j hj => ?_⟩
  ·have hc' : g = e.1 := by simpa [Value.ownBlock] using hc
   rcases hat with h6 | h6
   ·exact h4 (by rw [h6, hc'])
   ·have := zag h1; omega
  ·by_cases hjk : j = k
   ·rw [if_pos hjk]; exact hkb e he
   ·rw [if_neg hjk]; exact h5 j (by omega)
theorem Ly.cell (h : Ly W s N Ks T Bs i k v u bk w) {r p : Nat} (hr : r < k) (x : Int) : Ly W s N Ks T (fun j => if j = r then (fun q => if q = p then x else Bs r q) else Bs j) i k v u bk (w.setCell ⟨bk r, p, none⟩ (.int .u64 x)) := by
 have hb := (h.full r hr).1
 have hg : (w.setCell ⟨bk r, p, none⟩ (.int .u64 x)).heap.size = w.heap.size := by simp
 refine ⟨h.old.setCell (p := ⟨bk r, p, none⟩) (by have := h.ws; show W.heap.size <= bk r; omega) _, h.ws, by rw [hg]; exact h.big, own_oth8 h.nums (p := ⟨bk r, p, none⟩) (h.s1 r hr) _, own_oth8 h.own (p := ⟨bk r, p, none⟩) (h.s2 r hr) _, fun j hj => ?_, h.inj, h.s1, h.s2, h.s3, fun e he => ?_⟩
 ·by_cases hjr : j = r
  ·subst hjr
   rw [if_pos rfl]
   exact ⟨hb, (h.full j hj).2.set p x⟩
  ·rw [if_neg hjr]
   exact ⟨(h.full j hj).1, (h.full j hj).2.other (p := ⟨bk r, p, none⟩) (fun hc => hjr (h.inj j r hj hr hc)) _⟩
 ·obtain ⟨h1, h2, h3, h4, h5⟩ := h.prot e he
  exact ⟨(Below.heap_setCell _ ⟨bk r, p, none⟩ _ _ (Ne.symm (h5 r hr))).trans h1, h2, h3, h4, h5⟩
theorem Ly.congr {Bs' : NN} (h : Ly W s N Ks T Bs i k v u bk w) (he : ∀ j, j < k -> ∀ q, q < N -> Bs j q = Bs' j q) : Ly W s N Ks T Bs' i k v u bk w :=
 ⟨h.old, h.ws, h.big, h.nums, h.own, fun j hj => ⟨(h.full j hj).1, (h.full j hj).2.congr (he j hj)⟩, h.inj, h.s1, h.s2, h.s3, h.prot⟩
theorem Ly.less {Ks' : List (Nat × Obj)} (h : Ly W s N Ks T Bs i k v u bk w) (he : ∀ e, e ∈ Ks' -> e ∈ Ks) : Ly W s N Ks' T Bs i k v u bk w :=
 ⟨h.old, h.ws, h.big, h.nums, h.own, h.full, h.inj, h.s1, h.s2, h.s3, fun e hm => h.prot e (he e hm)⟩
theorem Ly.more (h : Ly W s N Ks T Bs i k v u bk w) (o : Obj) : Ly W s N ((w.heap.size, o) :: Ks) T Bs i k v u bk (w.alloc o) := by
 have h' := h.old' ((Old.refl _).alloc o)
 refine ⟨h'.old, h'.ws, h'.big, h'.nums, h'.own, h'.full, h.inj, h.s1, h.s2, h.s3, fun e he => ?_⟩
 rcases List.mem_cons.1 he with rfl | he
 ·refine ⟨heap_alloc_new w o, by have := h.big; show w.heap.size ≠ s; omega, fun hc => ?_, fun hc => ?_, fun j hj hc => ?_⟩
  ·have := (World.ownsRow.lt h.nums _ hc).2; exact Nat.lt_irrefl _ this
  ·have := (World.ownsRow.lt h.own _ hc).2; exact Nat.lt_irrefl _ this
  ·have := (h.full j hj).2.lt; rw [hc] at this; exact Nat.lt_irrefl _ this
 ·exact h'.prot e he
end
structure LayS (W : World) (s n : Nat) (Ks : List (Nat × Obj)) (T : NI) (Bs : NN) (k : Nat) (v u : Value) (bk : Nat -> Nat) (wx : World) : Prop where
 ly : Ly W s (7 * n + 3) Ks T Bs k k v u bk wx
 row : wx.heap[s]? = some (.cells #[.int .i64 (n : Int), v, u] 109 (0, 0))
section
variable {W w wx w' : World} {s n : Nat} {Ks : List (Nat × Obj)} {T : NI} {Bs : NN} {k : Nat} {v u : Value} {bk : Nat -> Nat}
theorem LayS.old' (h : LayS W s n Ks T Bs k v u bk wx) (ho : Old wx w') : LayS W s n Ks T Bs k v u bk w' := ⟨h.ly.old' ho, (ho.block _ h.ly.big).trans h.row⟩
theorem LayS.congr {Bs' : NN} (h : LayS W s n Ks T Bs k v u bk w) (he : ∀ j, j < k -> ∀ q, q < 7 * n + 3 -> Bs j q = Bs' j q) : LayS W s n Ks T Bs' k v u bk w := ⟨h.ly.congr he, h.row⟩
theorem LayS.less {Ks' : List (Nat × Obj)} (h : LayS W s n Ks T Bs k v u bk w) (he : ∀ e, e ∈ Ks' -> e ∈ Ks) : LayS W s n Ks' T Bs k v u bk w := ⟨h.ly.less he, h.row⟩
theorem LayS.more (h : LayS W s n Ks T Bs k v u bk w) (o : Obj) : LayS W s n ((w.heap.size, o) :: Ks) T Bs k v u bk (w.alloc o) := ⟨h.ly.more o, (((Old.refl w).alloc o).block _ h.ly.big).trans h.row⟩
theorem LayS.cell (h : LayS W s n Ks T Bs k v u bk w) {r p : Nat} (hr : r < k) (x : Int) : LayS W s n Ks T (fun j => if j = r then (fun q => if q = p then x else Bs r q) else Bs j) k v u bk (w.setCell ⟨bk r, p, none⟩ (.int .u64 x)) :=
 ⟨h.ly.cell hr x, (Below.heap_setCell _ ⟨bk r, p, none⟩ _ _ (by have := (h.ly.full r hr).1; show s ≠ bk r; omega)).trans h.row⟩
end
end
section
open Go.RowKit
theorem zbn {a b : Int} (h : a = b) : Ending.returned (.int .i64 a) = .returned (.int .i64 b) := by rw [h]
theorem lm_r (s n i : Nat) (v u : Value) (w : World) (hn : n <= 8) (hi : i <= 100) (h : w.heap[s]? = some (.cells #[.int .i64 (n : Int), v, u] 109 (0, 0))) : Calls prog 115 #[.pointer (some ⟨s, 0, none⟩), .int .i64 (i : Int)] w (Ret w (.int .i64 ((n + i : Nat) : Int))) := by
 have c0 : w.cell? ⟨s, 0, none⟩ = some (.int .i64 (n : Int)) := Y0 h
 clear h
 go_enter func115, ntmps115
 go_wp2_with fail
 go_ret
 exact ⟨zbn (by omega), Old.refl _⟩
theorem lm_b (s n i : Nat) (v u : Value) (w : World) (hn : n <= 8) (hi : i <= 100) (h : w.heap[s]? = some (.cells #[.int .i64 (n : Int), v, u] 109 (0, 0))) : Calls prog 116 #[.pointer (some ⟨s, 0, none⟩), .int .i64 (i : Int)] w (Ret w (.int .i64 ((2 * n + i : Nat) : Int))) := by
 have c0 : w.cell? ⟨s, 0, none⟩ = some (.int .i64 (n : Int)) := Y0 h
 clear h
 go_enter func116, ntmps116
 go_wp2_with fail
 go_ret
 exact ⟨zbn (by omega), Old.refl _⟩
theorem lm_s (s n i : Nat) (v u : Value) (w : World) (hn : n <= 8) (hi : i <= 100) (h : w.heap[s]? = some (.cells #[.int .i64 (n : Int), v, u] 109 (0, 0))) : Calls prog 117 #[.pointer (some ⟨s, 0, none⟩), .int .i64 (i : Int)] w (Ret w (.int .i64 ((3 * n + i : Nat) : Int))) := by
 have c0 : w.cell? ⟨s, 0, none⟩ = some (.int .i64 (n : Int)) := Y0 h
 clear h
 go_enter func117, ntmps117
 go_wp2_with fail
 go_ret
 exact ⟨zbn (by omega), Old.refl _⟩
theorem lm_d (s n i : Nat) (v u : Value) (w : World) (hn : n <= 8) (hi : i <= 100) (h : w.heap[s]? = some (.cells #[.int .i64 (n : Int), v, u] 109 (0, 0))) : Calls prog 118 #[.pointer (some ⟨s, 0, none⟩), .int .i64 (i : Int)] w (Ret w (.int .i64 ((4 * n + i : Nat) : Int))) := by
 have c0 : w.cell? ⟨s, 0, none⟩ = some (.int .i64 (n : Int)) := Y0 h
 clear h
 go_enter func118, ntmps118
 go_wp2_with fail
 go_ret
 exact ⟨zbn (by omega), Old.refl _⟩
theorem lm_u (s n i : Nat) (v u : Value) (w : World) (hn : n <= 8) (hi : i <= 100) (h : w.heap[s]? = some (.cells #[.int .i64 (n : Int), v, u] 109 (0, 0))) : Calls prog 119 #[.pointer (some ⟨s, 0, none⟩), .int .i64 (i : Int)] w (Ret w (.int .i64 ((5 * n + i : Nat) : Int))) := by
 have c0 : w.cell? ⟨s, 0, none⟩ = some (.int .i64 (n : Int)) := Y0 h
 clear h
 go_enter func119, ntmps119
 go_wp2_with fail
 go_ret
 exact ⟨zbn (by omega), Old.refl _⟩
theorem lm_t (s n i : Nat) (v u : Value) (w : World) (hn : n <= 8) (hi : i <= 100) (h : w.heap[s]? = some (.cells #[.int .i64 (n : Int), v, u] 109 (0, 0))) : Calls prog 120 #[.pointer (some ⟨s, 0, none⟩), .int .i64 (i : Int)] w (Ret w (.int .i64 ((6 * n + i : Nat) : Int))) := by
 have c0 : w.cell? ⟨s, 0, none⟩ = some (.int .i64 (n : Int)) := Y0 h
 clear h
 go_enter func120, ntmps120
 go_wp2_with fail
 go_ret
 exact ⟨zbn (by omega), Old.refl _⟩
theorem lm_rho (s n i : Nat) (v u : Value) (w : World) (hn : n <= 8) (hi : i <= 100) (h : w.heap[s]? = some (.cells #[.int .i64 (n : Int), v, u] 109 (0, 0))) : Calls prog 123 #[.pointer (some ⟨s, 0, none⟩), .int .i64 (i : Int)] w (Ret w (.int .i64 ((7 * n + i : Nat) : Int))) := by
 have c0 : w.cell? ⟨s, 0, none⟩ = some (.int .i64 (n : Int)) := Y0 h
 clear h
 go_enter func123, ntmps123
 go_wp2_with fail
 go_ret
 exact ⟨zbn (by omega), Old.refl _⟩
theorem lm_tLast (s n : Nat) (v u : Value) (w : World) (h1 : 0 < n) (hn : n <= 8) (h : w.heap[s]? = some (.cells #[.int .i64 (n : Int), v, u] 109 (0, 0))) : Calls prog 122 #[.pointer (some ⟨s, 0, none⟩)] w (Ret w (.int .i64 ((7 * n - 1 : Nat) : Int))) := by
 have c0 : w.cell? ⟨s, 0, none⟩ = some (.int .i64 (n : Int)) := Y0 h
 clear h
 go_enter func122, ntmps122
 go_wp2_with fail
 go_ret
 exact ⟨zbn (by omega), Old.refl _⟩
theorem lm_a (s i : Nat) (w : World) : Calls prog 114 #[.pointer (some ⟨s, 0, none⟩), .int .i64 (i : Int)] w (Ret w (.int .i64 (i : Int))) := by
 go_enter func114, ntmps114
 go_wp2_with fail
 go_ret
 exact ⟨rfl, Old.refl _⟩
theorem ssize_any (n : Nat) (w : World) (hn : n <= 80) : Calls prog 125 #[.int .i64 (n : Int)] w (Ret w (.int .i64 ((7 * n + 3 : Nat) : Int))) := by
 go_enter func125, ntmps125
 go_wp2_with fail
 go_ret
 exact ⟨zbn (by omega), Old.refl _⟩
def ones8 (B : NN) (k : Nat) : Nat -> Nat -> Int := fun j => if j < k then B j else fun _ => 1
theorem ladd_any (W : World) (s n : Nat) (Ks : List (Nat × Obj)) (T : NI) (B : NN) (k : Nat) (v u : Value) (bk : Nat -> Nat) (x : Int) (w : World) (hn : n <= 8) (hk : k <= 100) (hx : T k = x) (h : LayS W s n Ks T B k v u bk w) :
  Calls prog 113 #[.pointer (some ⟨s, 0, none⟩), .int .u64 x] w fun e w' => ∃ v' u' b, e = .returned (.slice (some ⟨b, 0, none⟩) (7 * n + 3) (7 * n + 3)) /\ LayS W s n Ks T (ones8 B k) (k + 1) v' u' (fun j => if j = k then b else bk j) w' := by
 have HL : Hid (LayS W s n Ks T B k v u bk w) := h
 have c0 : w.cell? ⟨s, 0, none⟩ = some (.int .i64 (n : Int)) := Y0 h.row
 have HX : Hid (T k = x) := hx
 obtain ⟨N, hN⟩ : ∃ N, N = 7 * n + 3 := ⟨_, rfl⟩
 have HS : Hid (∀ wx, Calls prog 125 #[.int .i64 (n : Int)] wx (Ret wx (.int .i64 (N : Int)))) := fun wx => by rw [hN]; exact ssize_any n wx (by omega)
 have hN8 : N <= 80 := by omega
 have HNe : Hid (N = 7 * n + 3) := hN
 clear h hx hN
 have hmk := zaP N hN8
 obtain ⟨i0, hi0, hz0, hz1, hz2⟩ := info_parts zbj
 obtain ⟨i1, hi1, hy0, hy1, hy2⟩ := info_parts slinfo
 go_enter func113, ntmps113
 go_upto_region 2 with (go_at_call 125; refine (HS.out _).mono ?_; rintro e w1 ⟨rfl, o1⟩)
 have HF0 := zaC w1 N (fun _ => 1)
 have HW1 : Hid (Old w (w1.alloc (.cells (madeCells #[Value.int .u64 0] N) 22))) := o1.alloc _
 have hb1 : w.heap.size <= w1.heap.size := o1.size
 clear c0 o1
 generalize w1.alloc (.cells (madeCells #[Value.int .u64 0] N) 22) = W1 at *
 generalize w1.heap.size = b at *
 go_upto_region 3 with fail
 go_loopw [15] (fun iv wx => ∃ i : Nat, iv = .int .i64 (i : Int) /\ i <= N /\ Hid (Full wx b N (upTo i (fun _ => 1))) /\ Hid (Old w wx)) (fun iv _ => N - (intOf iv).toNat)
 case atStart => exact ⟨0, rfl, Nat.zero_le _, HF0, HW1⟩
 case round =>
  obtain ⟨i, rfl, hi, HN, HO⟩ := hrel
  by_cases hlt : i < N
  ·have q0 := HN.out.cell i hlt
   have f0 := HN.out.free i
   have HG : Hid (Full (wr.setCell ⟨b, i, none⟩ (.int .u64 1)) b N (upTo (i + 1) (fun _ => 1))) := HN.out.next
   have HG2 : Hid (Old w (wr.setCell ⟨b, i, none⟩ (.int .u64 1))) := HO.out.setCell hb1 _
   go_wp2_with fail
   go_roundw
   case rel => exact ⟨i + 1, zab i, by omega, HG, HG2⟩
   case measure => simp [intOf]; omega
  ·have he : N = i := by omega
   subst he
   have HD : Hid (Full wr b N (fun _ => 1)) := HN.out.done
   have HL1 : Hid (LayS W s n Ks T B k v u bk wr) := HL.out.old' HO.out
   have hrow := HL1.out.row
   have HM : Hid (v.ownBlock ≠ some b /\ u.ownBlock ≠ some b /\ (∀ j, j < k -> bk j ≠ b) /\ (∀ e, e ∈ Ks -> b ≠ e.1) /\ s + 1 <= b) := by
    have hl := HL.out.ly
    refine ⟨fun he => ?_, fun he => ?_, fun j hj he => ?_, fun e hm he => ?_, ?_⟩
    ·have := (World.ownsRow.lt hl.nums b he).2; omega
    ·have := (World.ownsRow.lt hl.own b he).2; omega
    ·have := (hl.full j hj).2.lt; omega
    ·have := zag (hl.prot e hm).1; omega
    ·have := hl.big; omega
   have c1 : wr.cell? ⟨s, 1, none⟩ = some v := Y1 hrow
   have hs8 := HL1.out.ly.big
   clear hrow HN HL HF0 HO HW1
   have HF1 : Hid (Full wr b N (fun _ => 1)) := HD
   have HLo : Hid (LayS W s n Ks T (ones8 B k) k v u bk wr) := HL1.out.congr fun j hj q _ => by unfold ones8; rw [if_pos hj]
   have hBk : ones8 B k k = fun _ => 1 := by unfold ones8; rw [if_neg (Nat.lt_irrefl k)]
   have HFo : Hid (Full wr b N (ones8 B k k)) := by unfold Hid; rw [hBk]; exact HF1.out
   obtain ⟨Bo, hBo⟩ : ∃ Bo, Bo = ones8 B k := ⟨_, rfl⟩
   rw [<- hBo] at HLo HFo
   have HBo : Hid (Bo = ones8 B k) := hBo
   clear hBo hBk
   obtain ⟨hly, hrw⟩ := HLo.out
   rw [<- HNe.out] at hly
   have HA : Hid (Ly W s N Ks T Bo k k v u bk wr) := hly
   have HAr : Hid (wr.heap[s]? = some (.cells #[.int .i64 (n : Int), v, u] 109 (0, 0))) := hrw
   clear HD HF1 HL1 HLo hly hrw HS hmk
   go_wp2_with (at_builtin; refine wpList_append_lies _ rfl _ _ 29 rfl (s + 1) 22 i0 (.int .u64 0) 1 8 U29 hi0 hz0 hz1 hz2 rfl (by decide) _ _ _ rfl (World.ownsRow.alloc HA.out.nums _) ⟨wr.heap.size, 0, none⟩ 1 1 [.int .u64 x] rfl rfl ?c1 ?c2 (by decide) ?c3 ?c4 ?c5 _ rfl ?_)
   case c1 => exact cell_one_new _ _ _
   case c2 => intro u hu; simp at hu; subst hu; rfl
   case c3 => unfold maxLen; omega
   case c4 => omega
   case c5 => simp; omega
   intro g5 cap5 w5 hown5 hgrow5 hat5 _
   have HB : Hid (Ly W s N Ks T Bo (k + 1) k (.slice (some ⟨g5, 0, none⟩) (k + 1) cap5) u bk w5) := (HA.out.old' ((Old.refl _).alloc _)).tgt HX.out hown5 hgrow5 (by simpa using hat5)
   have HFb : Hid (Full w5 b N (Bo k)) := (HFo.out.old ((Old.refl _).alloc _)).grown hgrow5 HM.out.1
   have HBr : Hid (w5.heap[s]? = some (.cells #[.int .i64 (n : Int), v, u] 109 (0, 0))) := by
    unfold Hid
    rw [hgrow5.block s (by simp; omega) (fun e => by have := (World.ownsRow.lt HA.out.nums _ e.symm).1; omega), Below.heap_alloc _ _ _ (by omega)]
    exact HAr.out
   have hvb : Hid ((Value.slice (some ⟨g5, 0, none⟩) (k + 1) cap5).ownBlock ≠ some b) := by
    intro he
    have he' : g5 = b := by simpa [Value.ownBlock] using he
    rcases hat5 with h1 | h1
    ·exact HM.out.1 (by rw [h1, he'])
    ·have := HFo.out.lt; first | omega | (simp at h1; omega)
   clear hown5 hgrow5 hat5 HA HAr c1 hs8 HFo
   have q0 : w5.cell? ⟨s, 1, none⟩ = some v := Y1 HBr.out
   have f0 : w5.frozen? ⟨s, 1, none⟩ = false := zac HBr.out 1
   go_upto_region 8 with fail
   have HC : Hid (Ly W s N Ks T Bo (k + 1) k (.slice (some ⟨g5, 0, none⟩) (k + 1) cap5) u bk (w5.setCell ⟨s, 1, none⟩ (.slice (some ⟨g5, 0, none⟩) (k + 1) cap5))) := HB.out.set 1 _
   have HFc : Hid (Full (w5.setCell ⟨s, 1, none⟩ (.slice (some ⟨g5, 0, none⟩) (k + 1) cap5)) b N (Bo k)) := HFb.out.other (p := ⟨s, 1, none⟩) (by have := HM.out.2.2.2.2; show b ≠ s; omega) _
   have HCr : Hid ((w5.setCell ⟨s, 1, none⟩ (.slice (some ⟨g5, 0, none⟩) (k + 1) cap5)).heap[s]? = some (.cells #[.int .i64 (n : Int), .slice (some ⟨g5, 0, none⟩) (k + 1) cap5, u] 109 (0, 0))) := by have := zaq HBr.out 1 (.slice (some ⟨g5, 0, none⟩) (k + 1) cap5); unfold Hid; simpa using this
   clear HB HFb HBr q0 f0
   generalize w5.setCell ⟨s, 1, none⟩ (.slice (some ⟨g5, 0, none⟩) (k + 1) cap5) = w6 at *
   have c2 : w6.cell? ⟨s, 2, none⟩ = some u := Y2 HCr.out
   have hs6 : s + 1 <= w6.heap.size := HC.out.big
   go_wp2_with (at_builtin; refine wpList_append_lies _ rfl _ _ 48 rfl (s + 1) 29 i1 (.slice none 0 0) 1 24 U48 hi1 hy0 hy1 hy2 rfl (by decide) _ _ _ rfl (World.ownsRow.alloc HC.out.own _) ⟨w6.heap.size, 0, none⟩ 1 1 [.slice (some ⟨b, 0, none⟩) N N] rfl rfl ?c1 ?c2 (by decide) ?c3 ?c4 ?c5 _ rfl ?_)
   case c1 => exact cell_one_new _ _ _
   case c2 => intro x hx; simp at hx; subst hx; rfl
   case c3 => unfold maxLen; omega
   case c4 => omega
   case c5 => simp; omega
   intro g8 cap8 w8 hown8 hgrow8 hat8 _
   have HD : Hid (Ly W s N Ks T Bo (k + 1) (k + 1) (.slice (some ⟨g5, 0, none⟩) (k + 1) cap5) (.slice (some ⟨g8, 0, none⟩) (k + 1) cap8) (fun j => if j = k then b else bk j) w8) := (HC.out.old' ((Old.refl _).alloc _)).bas HM.out.2.2.2.2 (HFc.out.old ((Old.refl _).alloc _)) hvb.out HM.out.2.1 HM.out.2.2.1 HM.out.2.2.2.1 hown8 hgrow8 (by simpa using hat8)
   have HDr : Hid (w8.heap[s]? = some (.cells #[.int .i64 (n : Int), .slice (some ⟨g5, 0, none⟩) (k + 1) cap5, u] 109 (0, 0))) := by
    unfold Hid
    rw [hgrow8.block s (by simp; omega) (fun e => by have := (World.ownsRow.lt HC.out.own _ e.symm).1; omega), Below.heap_alloc _ _ _ (by omega)]
    exact HCr.out
   clear hown8 hgrow8 hat8 HC HCr c2 hs6 HFc
   have q1 : w8.cell? ⟨s, 2, none⟩ = some u := Y2 HDr.out
   have f1 : w8.frozen? ⟨s, 2, none⟩ = false := zac HDr.out 2
   have HE : Hid (LayS W s n Ks T Bo (k + 1) (.slice (some ⟨g5, 0, none⟩) (k + 1) cap5) (.slice (some ⟨g8, 0, none⟩) (k + 1) cap8) (fun j => if j = k then b else bk j) (w8.setCell ⟨s, 2, none⟩ (.slice (some ⟨g8, 0, none⟩) (k + 1) cap8))) := ⟨by have := HD.out.set 2 (.slice (some ⟨g8, 0, none⟩) (k + 1) cap8); rwa [HNe.out] at this, by have := zaq HDr.out 2 (.slice (some ⟨g8, 0, none⟩) (k + 1) cap8); simpa using this⟩
   clear HD HDr
   go_wp2_with fail
   go_ret
   refine ⟨.slice (some ⟨g5, 0, none⟩) (k + 1) cap5, .slice (some ⟨g8, 0, none⟩) (k + 1) cap8, b, by rw [<- HNe.out]; rfl, ?_⟩
   rw [<- HBo.out]
   exact HE.out
end
section
open Go Go.RowKit
def zfW (E : List Ent) (i : Nat) : Bool := (List.range E.length).all fun k => decide (k = i) || (match E[k]? with | some (.k _) => true | _ => false)
theorem zf8 {E : List Ent} {R : World -> Prop} {e : Ent} {wx w' : World} {i : Nat} (hk : zfW E i = true) (hE : E[i]? = some e) (h : R w') (he : ∀ v, e.ok v w') : ResT E R e wx undef w' := by
 refine ⟨h, fun k x hx => ?_, he _⟩
 unfold okAt at hx ⊢
 by_cases hki : k = i
 ·subst hki; rw [hE]; exact he x
 ·cases hEk : E[k]? with
  | none => trivial
  | some e' =>
   rw [hEk] at hx
   have hlt : k < E.length := (List.getElem?_eq_some_iff.1 hEk).1
   have := List.all_eq_true.1 hk k (List.mem_range.2 hlt)
   rw [hEk] at this
   cases e' with
   | k v => exact hx
   | u F hF => simp [hki] at this
def setR (Bs : NN) (r p : Nat) (x : Int) : Nat -> Nat -> Int := fun j => if j = r then (fun q => if q = p then x else Bs r q) else Bs j
def LayB (W : World) (s n : Nat) (Ks : List (Nat × Obj)) (T : NI) (Bs : NN) (k : Nat) (bl : List (Nat × Nat)) (wx : World) : Prop :=
 ∃ v u bk, (∀ e, e ∈ bl -> e.1 < k /\ bk e.1 = e.2) /\ LayS W s n Ks T Bs k v u bk wx
section
variable {W w w' : World} {s n : Nat} {Ks : List (Nat × Obj)} {T : NI} {Bs : NN} {k : Nat} {bl : List (Nat × Nat)}
theorem LayB.old' (h : LayB W s n Ks T Bs k bl w) (ho : Old w w') : LayB W s n Ks T Bs k bl w' := let ⟨v, u, bk, hb, h⟩ := h; ⟨v, u, bk, hb, h.old' ho⟩
theorem LayB.congr {Bs' : NN} (h : LayB W s n Ks T Bs k bl w) (he : ∀ j, j < k -> ∀ q, q < 7 * n + 3 -> Bs j q = Bs' j q) : LayB W s n Ks T Bs' k bl w := let ⟨v, u, bk, hb, h⟩ := h; ⟨v, u, bk, hb, h.congr he⟩
theorem LayB.less {Ks' : List (Nat × Obj)} (h : LayB W s n Ks T Bs k bl w) (he : ∀ e, e ∈ Ks' -> e ∈ Ks) : LayB W s n Ks' T Bs k bl w := let ⟨v, u, bk, hb, h⟩ := h; ⟨v, u, bk, hb, h.less he⟩
theorem LayB.more (h : LayB W s n Ks T Bs k bl w) (o : Obj) : LayB W s n ((w.heap.size, o) :: Ks) T Bs k bl (w.alloc o) := let ⟨v, u, bk, hb, h⟩ := h; ⟨v, u, bk, hb, h.more o⟩
theorem LayB.drop {bl' : List (Nat × Nat)} (h : LayB W s n Ks T Bs k bl w) (he : ∀ e, e ∈ bl' -> e ∈ bl) : LayB W s n Ks T Bs k bl' w := let ⟨v, u, bk, hb, h⟩ := h; ⟨v, u, bk, fun e hm => hb e (he e hm), h⟩
theorem LayB.old (h : LayB W s n Ks T Bs k bl w) : Old W w := let ⟨_, _, _, _, h⟩ := h; h.ly.old
theorem LayB.prot (h : LayB W s n Ks T Bs k bl w) {b : Nat} {o : Obj} (he : (b, o) ∈ Ks) : w.heap[b]? = some o := let ⟨_, _, _, _, h⟩ := h; (h.ly.prot _ he).1
theorem LayB.row (h : LayB W s n Ks T Bs k bl w) : ∃ v u, w.heap[s]? = some (.cells #[.int .i64 (n : Int), v, u] 109 (0, 0)) := let ⟨v, u, _, _, h⟩ := h; ⟨v, u, h.row⟩
theorem LayB.full (h : LayB W s n Ks T Bs k bl w) {r b : Nat} (he : (r, b) ∈ bl) : Full w b (7 * n + 3) (Bs r) := by
 obtain ⟨v, u, bk, hb, h⟩ := h
 obtain ⟨h1, h2⟩ := hb _ he
 have := (h.ly.full r h1).2
 rwa [h2] at this
theorem LayB.cell (h : LayB W s n Ks T Bs k bl w) {r b : Nat} (he : (r, b) ∈ bl) (p : Nat) (x : Int) : LayB W s n Ks T (setR Bs r p x) k bl (w.setCell ⟨b, p, none⟩ (.int .u64 x)) := by
 obtain ⟨v, u, bk, hb, h⟩ := h
 obtain ⟨h1, h2⟩ := hb _ he
 have h2' : bk r = b := h2
 have := h.cell (p := p) h1 x
 rw [h2] at this
 exact ⟨v, u, bk, hb, this⟩
end
theorem ladd8 (W : World) (s n : Nat) (Ks : List (Nat × Obj)) (T : NI) (B : NN) (k : Nat) (bl : List (Nat × Nat)) (x : Int) (w : World) (hn : n <= 8) (hk : k <= 100) (hx : T k = x) (h : LayB W s n Ks T B k bl w) :
  Calls prog 113 #[.pointer (some ⟨s, 0, none⟩), .int .u64 x] w fun e w' => ∃ b, e = .returned (.slice (some ⟨b, 0, none⟩) (7 * n + 3) (7 * n + 3)) /\ LayB W s n Ks T (ones8 B k) (k + 1) ((k, b) :: bl) w' := by
 obtain ⟨v, u, bk, hb, h⟩ := h
 refine (ladd_any W s n Ks T B k v u bk x w hn hk hx h).mono fun e w' ⟨v', u', b, he, hl⟩ => ⟨b, he, v', u', _, fun e hm => ?_, hl⟩
 rcases List.mem_cons.1 hm with rfl | hm
 ·exact ⟨Nat.lt_succ_self _, if_pos rfl⟩
 ·obtain ⟨h1, h2⟩ := hb e hm
  exact ⟨by omega, by rw [if_neg (by omega)]; exact h2⟩
def Lay1 (W : World) (s n : Nat) (Ks : List (Nat × Obj)) (T : NI) (R : NN) (k b p : Nat) (wx : World) : Prop := ∃ c, LayB W s n Ks T (setR (ones8 R k) k p c) (k + 1) [(k, b)] wx
section
variable {W w w' : World} {s n : Nat} {Ks : List (Nat × Obj)} {T : NI} {R : NN} {k b p : Nat}
theorem Lay1.old (w w' : World) (h : Lay1 W s n Ks T R k b p w) (ho : Old w w') : Lay1 W s n Ks T R k b p w' := let ⟨c, h⟩ := h; ⟨c, h.old' ho⟩
theorem Lay1.row (h : Lay1 W s n Ks T R k b p w) : ∃ v u, w.heap[s]? = some (.cells #[.int .i64 (n : Int), v, u] 109 (0, 0)) := let ⟨_, h⟩ := h; h.row
theorem Lay1.prot (h : Lay1 W s n Ks T R k b p w) {b' : Nat} {o : Obj} (he : (b', o) ∈ Ks) : w.heap[b']? = some o := let ⟨_, h⟩ := h; h.prot he
theorem Lay1.of (h : LayB W s n Ks T (ones8 R k) (k + 1) [(k, b)] w) : Lay1 W s n Ks T R k b p w := ⟨ones8 R k k p, h.congr fun j hj q _ => by
 unfold setR
 by_cases hjk : j = k
 ·subst hjk; rw [if_pos rfl]; by_cases hq : q = p
  ·subst hq; simp
  ·simp [hq]
 ·rw [if_neg hjk]⟩
def zfH (W : World) (s n : Nat) (Ks : List (Nat × Obj)) (T : NI) (R : NN) (k b p : Nat) (x : Int) : Ent := .u (fun _ w => LayB W s n Ks T (setR (ones8 R k) k p x) (k + 1) [(k, b)] w) fun _ _ _ h ho => h.old' ho
theorem Lay1.store (h : Lay1 W s n Ks T R k b p w) (x : Int) : LayB W s n Ks T (setR (ones8 R k) k p x) (k + 1) [(k, b)] (w.setCell ⟨b, p, none⟩ (.int .u64 x)) := by
 obtain ⟨c, h⟩ := h
 refine (h.cell List.mem_cons_self p x).congr fun j _ q _ => ?_
 unfold setR
 by_cases hjk : j = k
 ·subst hjk; simp only [if_true]; by_cases hq : q = p
  ·simp [hq]
  ·simp [hq]
 ·simp [hjk]
theorem Lay1.full (h : Lay1 W s n Ks T R k b p w) : ∃ F, Full w b (7 * n + 3) F := let ⟨_, h⟩ := h; ⟨_, h.full List.mem_cons_self⟩
theorem lay_stS {E : List Ent} {i : Nat} {x : Int} (hk : zfW E i = true) (hE : E[i]? = some (zfH W s n Ks T R k b p x)) (hp : p < 7 * n + 3) (wx : World) (h : Lay1 W s n Ks T R k b p wx) :
  (∃ o, wx.cell? ⟨b, p, none⟩ = some o) /\ wx.frozen? ⟨b, p, none⟩ = false /\ ResT E (Lay1 W s n Ks T R k b p) (zfH W s n Ks T R k b p x) wx undef (wx.setCell ⟨b, p, none⟩ (.int .u64 x)) := by
 obtain ⟨F, hF⟩ := h.full
 exact ⟨⟨_, hF.cell p hp⟩, hF.free p, zf8 hk hE ⟨x, h.store x⟩ fun _ => h.store x⟩
theorem LayB.fin28 {x z : Int} {q : Nat} {bl : List (Nat × Nat)} (h : LayB W s n Ks T (setR (setR (ones8 R k) k p x) k q z) (k + 1) bl w) (hpq : p ≠ q) (hR : R k = row28 p x q z) : LayB W s n Ks T R (k + 1) [] w := by
 refine (h.drop (bl' := []) (by simp)).congr fun j hj r _ => ?_
 unfold setR ones8
 by_cases hjk : j = k
 ·subst hjk
  rw [hR]
  unfold row28
  simp only [if_true, Nat.lt_irrefl, if_false]
  by_cases h1 : r = q
  ·subst h1; simp [Ne.symm hpq]
  ·simp [h1]
 ·simp [hjk, show j < k by omega]
end
end
section
open Go.RowKit
theorem lcom_any (W : World) (s n : Nat) (Ks : List (Nat × Obj)) (T : NI) (R : NN) (P Q G H : Int) (a : OA) (m cap : Nat) (ba : OA) (ca : Nat) (A : NI) (X : Int) (bb : OA) (cb : Nat) (B : NI) (Y Z : Int) (bp : OA) (np cp : Nat) (w : World) (h0n : 0 < n) (hn : n <= 8) (h4 : Four P Q G H) (hr : Righ P Q G) (hY : U64 Y) (hZ : U64 Z) (hA : FacsIn W ba n A) (hB : FacsIn W bb n B)
  (hT1 : ∀ i, i < n -> T i = A i) (hT2 : ∀ i, i < n -> T (n + i) = B i) (hT3 : ∀ i, i < n -> T (2 * n + i) = bigI P Q G (A i) (B i) Y Z)
  (hR1 : ∀ i, i < n -> R i = row28 i G (n + i) H) (hR2 : ∀ i, i < n -> R (n + i) = row28 (2 * n + i) G (3 * n + i) H) (hR3 : ∀ i, i < n -> R (2 * n + i) = row28 (4 * n + i) G (5 * n + i) H)
  (h : LayB W s n Ks T R 0 [] w) :
  Calls prog 81 #[.pointer (some ⟨s, 0, none⟩), gv P Q G H a m cap, tk ba n ca X bb n cb Y Z bp np cp] w fun e w' => e = .returned (.tuple #[]) /\ LayB W s n Ks T R (3 * n) [] w' := by
 have HJ := hid fun i wx (hi : i < n) (ho : Old W wx) => zcZ P Q G H a m cap ba n ca A X bb n cb B Y Z bp np cp i wx h4 hr hY hZ (hA.old ho) (hB.old ho) hi hi
 rcases hA with h0 | ⟨ba, oa, rfl, hba, hra⟩
 ·omega
 rcases hB with h0 | ⟨bb, ob, rfl, hbb, hrb⟩
 ·omega
 have HL0 : Hid (LayB W s n ((w.heap.size + 1, .cells (tkc (some ⟨ba, oa, none⟩) n ca X (some ⟨bb, ob, none⟩) n cb Y Z bp np cp) 41 (0, 0)) :: (w.heap.size, .cells (gc P Q G H a m cap) 25 (0, 0)) :: Ks) T R 0 [] ((w.alloc (.cells (gc P Q G H a m cap) 25)).alloc (.cells (tkc (some ⟨ba, oa, none⟩) n ca X (some ⟨bb, ob, none⟩) n cb Y Z bp np cp) 41))) := by
  have := (h.more (.cells (gc P Q G H a m cap) 25 (0, 0))).more (.cells (tkc (some ⟨ba, oa, none⟩) n ca X (some ⟨bb, ob, none⟩) n cb Y Z bp np cp) 41 (0, 0))
  unfold Hid; simpa using this
 have HT1 := hid hT1
 have HT2 := hid hT2
 have HT3 := hid hT3
 have HR1 := hid hR1
 have HR2 := hid hR2
 have HR3 := hid hR3
 have HAc := hid fun i wx (hi : i < n) (ho : Old W wx) => ho.cellOf (hra i hi).1
 have HBc := hid fun i wx (hi : i < n) (ho : Old W wx) => ho.cellOf (hrb i hi).1
 clear h h4 hr hY hZ hra hrb hba hbb hT1 hT2 hT3 hR1 hR2 hR3
 obtain ⟨K2, hK2⟩ : ∃ K2, K2 = (w.heap.size + 1, .cells (tkc (some ⟨ba, oa, none⟩) n ca X (some ⟨bb, ob, none⟩) n cb Y Z bp np cp) 41 (0, 0)) :: (w.heap.size, .cells (gc P Q G H a m cap) 25 (0, 0)) :: Ks := ⟨_, rfl⟩
 rw [<- hK2] at HL0
 have HgK : Hid ((w.heap.size, .cells (gc P Q G H a m cap) 25 (0, 0)) ∈ K2) := by unfold Hid; rw [hK2]; simp
 have HtK : Hid ((w.heap.size + 1, .cells (tkc (some ⟨ba, oa, none⟩) n ca X (some ⟨bb, ob, none⟩) n cb Y Z bp np cp) 41 (0, 0)) ∈ K2) := by unfold Hid; rw [hK2]; simp
 have HKs : Hid (∀ e, e ∈ Ks -> e ∈ K2) := by unfold Hid; rw [hK2]; intro e he; simp [he]
 clear hK2
 go_enter func81, ntmps81
 go_upto_region 1 with fail
 generalize (w.alloc (.cells (gc P Q G H a m cap) 25)).alloc (.cells (tkc (some ⟨ba, oa, none⟩) n ca X (some ⟨bb, ob, none⟩) n cb Y Z bp np cp) 41) = W1 at *
 generalize w.heap.size = gb at *
 have c0 : W1.cell? ⟨gb + 1, 0, none⟩ = some (.slice (some ⟨ba, oa, none⟩) n ca) := Y0 (HL0.out.prot HtK.out)
 go_upto_region 2 with fail
 clear c0
 go_loopw [17] (fun iv wx => ∃ i : Nat, iv = .int .i64 (i : Int) /\ i <= n /\ Hid (LayB W s n K2 T R (i) [] wx)) (fun iv _ => n - (intOf iv).toNat)
 case atStart => exact ⟨0, rfl, Nat.zero_le _, HL0⟩
 case round =>
  obtain ⟨i, rfl, hi, HL⟩ := hrel
  by_cases hlt : i < n
  ·have HTk : Hid (T (i) = A i) := HT1.out i hlt
   have HRk := hid (HR1.out i hlt)
   have cA := HAc.out i wr hlt HL.out.old
   go_upto_region 5 with (go_at_call 113; refine (ladd8 W s n K2 T R (i) [] (A i) _ hn (by omega) HTk.out HL.out).mono ?_; rintro e w1 ⟨b, rfl, hl⟩)
   have HA : Hid (LayB W s n K2 T (ones8 R (i)) (i + 1) [(i, b)] w1) := hl
   clear hl HL HTk
   obtain ⟨p, hp⟩ : ∃ p, p = i := ⟨_, rfl⟩
   obtain ⟨q, hq⟩ : ∃ q, q = n + i := ⟨_, rfl⟩
   have HM1 : Hid (∀ wx, Lay1 W s n K2 T R (i) b p wx -> Calls prog 114 #[.pointer (some ⟨s, 0, none⟩), .int .i64 (i : Int)] wx (Ret wx (.int .i64 (p : Int)))) := fun wx hR => by rw [hp]; exact lm_a s i wx
   have HM2 : Hid (∀ wx, Lay1 W s n K2 T R (i) b p wx -> Calls prog 115 #[.pointer (some ⟨s, 0, none⟩), .int .i64 (i : Int)] wx (Ret wx (.int .i64 (q : Int)))) := fun wx hR => (by obtain ⟨v, u, hrow⟩ := hR.row; rw [hq]; exact lm_r s n i v u wx hn (by omega) hrow)
   have hp8 : p < 7 * n + 3 := by omega
   have hq8 : q < 7 * n + 3 := by omega
   have hpq : p ≠ q := by omega
   have HRow : Hid (R (i) = row28 p G q H) := by unfold Hid; rw [hp, hq]; exact HRk.out
   have HGr := hid fun wx (hR : Lay1 W s n K2 T R (i) b p wx) => hR.prot HgK.out
   clear hp hq HRk
   refine zaa 14 [.k (.slice (some ⟨b, 0, none⟩) (7 * n + 3) (7 * n + 3)), .k (.pointer (some ⟨s, 0, none⟩)), .k (.int .i64 (i : Int)), .k (.int .i64 (p : Int)), .k (.slice (some ⟨b, 0, none⟩) (7 * n + 3) (7 * n + 3)), .k (.pointer (some ⟨s, 0, none⟩)), .k (.int .i64 (i : Int)), .k (.int .i64 (q : Int)), .k (.pointer (some ⟨gb, 2, none⟩)), .k (.int .u64 G), .k (.pointer (some ⟨gb, 3, none⟩)), .k (.int .u64 H), .k (.pointer (some ⟨b, p, none⟩)), zfH W s n K2 T R (i) b p G] (Lay1 W s n K2 T R (i) b p) (by kernel_rfl) (by kernel_rfl) rfl (Lay1.old _ _ (Lay1.of HA.out) (Old.refl _).drew) ?st ?_
   case st =>
    refine .p <| .p <| .p <| .c (stK Lay1.old func114 (fun wx hR => HM1.out wx hR)) <| .p <| .p <| .p <| .c (stK Lay1.old func115 (fun wx hR => HM2.out wx hR)) <| .p <| .c (stf 2 U22 HGr.out) <| .p <| .c (stf 3 U22 HGr.out) <| .c (sti0 (n := (7 * n + 3)) (c := (7 * n + 3)) hp8 U29) <| .c (stS (p := ⟨b, p, none⟩) (v := .int .u64 G) (fun _ => lay_stS (i := 13) rfl rfl hp8)) .n
   intro t wx hR hk
   simp only [fill, Ent.val, zfH, Ls0, Ls1, Ld1, Ld0, Ldn]
   have hl : LayB W s n K2 T (setR (ones8 R (i)) (i) p G) (i + 1) [(i, b)] wx := hk 13 (by omega)
   have q1 := (hl.full List.mem_cons_self).cell q hq8
   have f1 := (hl.full List.mem_cons_self).free q
   have HN := hid ((hl.cell List.mem_cons_self q H).fin28 hpq HRow.out)
   clear hl hk hR HA HM1 HM2 HGr HRow
   go_wp2_with fail
   go_roundw
   case rel => exact ⟨i + 1, zab i, by omega, HN⟩
   case measure => simp [intOf]; omega
  ·have he : n = i := by omega
   subst he
   have c2 : wr.cell? ⟨gb + 1, 2, none⟩ = some (.slice (some ⟨bb, ob, none⟩) n cb) := Y2 (HL.out.prot HtK.out)
   have HLn := hid HL
   clear HL HL0
   go_upto_region 8 with fail
   clear c2
   go_loopw [43] (fun iv wx => ∃ i : Nat, iv = .int .i64 (i : Int) /\ i <= n /\ Hid (LayB W s n K2 T R (n + i) [] wx)) (fun iv _ => n - (intOf iv).toNat)
   case atStart => exact ⟨0, rfl, Nat.zero_le _, HLn⟩
   case round =>
    obtain ⟨i, rfl, hi, HL⟩ := hrel
    by_cases hlt : i < n
    ·have HTk : Hid (T (n + i) = B i) := HT2.out i hlt
     have HRk := hid (HR2.out i hlt)
     have cB := HBc.out i wr hlt HL.out.old
     go_upto_region 11 with (go_at_call 113; refine (ladd8 W s n K2 T R (n + i) [] (B i) _ hn (by omega) HTk.out HL.out).mono ?_; rintro e w1 ⟨b, rfl, hl⟩)
     have HA : Hid (LayB W s n K2 T (ones8 R (n + i)) (n + i + 1) [(n + i, b)] w1) := hl
     clear hl HL HTk
     obtain ⟨p, hp⟩ : ∃ p, p = 2 * n + i := ⟨_, rfl⟩
     obtain ⟨q, hq⟩ : ∃ q, q = 3 * n + i := ⟨_, rfl⟩
     have HM1 : Hid (∀ wx, Lay1 W s n K2 T R (n + i) b p wx -> Calls prog 116 #[.pointer (some ⟨s, 0, none⟩), .int .i64 (i : Int)] wx (Ret wx (.int .i64 (p : Int)))) := fun wx hR => (by obtain ⟨v, u, hrow⟩ := hR.row; rw [hp]; exact lm_b s n i v u wx hn (by omega) hrow)
     have HM2 : Hid (∀ wx, Lay1 W s n K2 T R (n + i) b p wx -> Calls prog 117 #[.pointer (some ⟨s, 0, none⟩), .int .i64 (i : Int)] wx (Ret wx (.int .i64 (q : Int)))) := fun wx hR => (by obtain ⟨v, u, hrow⟩ := hR.row; rw [hq]; exact lm_s s n i v u wx hn (by omega) hrow)
     have hp8 : p < 7 * n + 3 := by omega
     have hq8 : q < 7 * n + 3 := by omega
     have hpq : p ≠ q := by omega
     have HRow : Hid (R (n + i) = row28 p G q H) := by unfold Hid; rw [hp, hq]; exact HRk.out
     have HGr := hid fun wx (hR : Lay1 W s n K2 T R (n + i) b p wx) => hR.prot HgK.out
     clear hp hq HRk
     refine zaa 14 [.k (.slice (some ⟨b, 0, none⟩) (7 * n + 3) (7 * n + 3)), .k (.pointer (some ⟨s, 0, none⟩)), .k (.int .i64 (i : Int)), .k (.int .i64 (p : Int)), .k (.slice (some ⟨b, 0, none⟩) (7 * n + 3) (7 * n + 3)), .k (.pointer (some ⟨s, 0, none⟩)), .k (.int .i64 (i : Int)), .k (.int .i64 (q : Int)), .k (.pointer (some ⟨gb, 2, none⟩)), .k (.int .u64 G), .k (.pointer (some ⟨gb, 3, none⟩)), .k (.int .u64 H), .k (.pointer (some ⟨b, p, none⟩)), zfH W s n K2 T R (n + i) b p G] (Lay1 W s n K2 T R (n + i) b p) (by kernel_rfl) (by kernel_rfl) rfl (Lay1.old _ _ (Lay1.of HA.out) (Old.refl _).drew) ?st ?_
     case st =>
      refine .p <| .p <| .p <| .c (stK Lay1.old func116 (fun wx hR => HM1.out wx hR)) <| .p <| .p <| .p <| .c (stK Lay1.old func117 (fun wx hR => HM2.out wx hR)) <| .p <| .c (stf 2 U22 HGr.out) <| .p <| .c (stf 3 U22 HGr.out) <| .c (sti0 (n := (7 * n + 3)) (c := (7 * n + 3)) hp8 U29) <| .c (stS (p := ⟨b, p, none⟩) (v := .int .u64 G) (fun _ => lay_stS (i := 13) rfl rfl hp8)) .n
     intro t wx hR hk
     simp only [fill, Ent.val, zfH, Ls0, Ls1, Ld1, Ld0, Ldn]
     have hl : LayB W s n K2 T (setR (ones8 R (n + i)) (n + i) p G) (n + i + 1) [(n + i, b)] wx := hk 13 (by omega)
     have q1 := (hl.full List.mem_cons_self).cell q hq8
     have f1 := (hl.full List.mem_cons_self).free q
     have HN := hid ((hl.cell List.mem_cons_self q H).fin28 hpq HRow.out)
     clear hl hk hR HA HM1 HM2 HGr HRow
     go_wp2_with fail
     go_roundw
     case rel => exact ⟨i + 1, zab i, by omega, HN⟩
     case measure => simp [intOf]; omega
    ·have he : n = i := by omega
     subst he
     have HLm : Hid (LayB W s n K2 T R (2 * n + 0) [] wr) := by have := HL.out; rw [show n + n = 2 * n + 0 by omega] at this; exact this
     obtain ⟨v0, u0, hrow⟩ := HL.out.row
     have c3 : wr.cell? ⟨s, 0, none⟩ = some (.int .i64 (n : Int)) := Y0 hrow
     clear HL HLn hrow
     go_upto_region 14 with fail
     clear c3
     go_loopw [70] (fun iv wx => ∃ i : Nat, iv = .int .i64 (i : Int) /\ i <= n /\ Hid (LayB W s n K2 T R (2 * n + i) [] wx)) (fun iv _ => n - (intOf iv).toNat)
     case atStart => exact ⟨0, rfl, Nat.zero_le _, HLm⟩
     case round =>
      obtain ⟨i, rfl, hi, HL⟩ := hrel
      by_cases hlt : i < n
      ·have HTk : Hid (T (2 * n + i) = bigI P Q G (A i) (B i) Y Z) := HT3.out i hlt
       have HRk := hid (HR3.out i hlt)
       have g0 := Y0 (HL.out.prot HgK.out)
       have g1 := Y1 (HL.out.prot HgK.out)
       have g2 := Y2 (HL.out.prot HgK.out)
       have g3 := Y3 (HL.out.prot HgK.out)
       have g4 := Y4 (HL.out.prot HgK.out)
       have t0 := Y0 (HL.out.prot HtK.out)
       have t1 := Y1 (HL.out.prot HtK.out)
       have t2 := Y2 (HL.out.prot HtK.out)
       have t3 := Y3 (HL.out.prot HtK.out)
       have t4 := Y4 (HL.out.prot HtK.out)
       have t5 := Y5 (HL.out.prot HtK.out)
       go_upto_region 17 with (first | (go_at_call 63; refine (HJ.out i _ hlt HL.out.old).mono ?_; rintro e w0 ⟨rfl, o0⟩; have HLj : Hid (LayB W s n K2 T R (2 * n + i) [] w0) := HL.out.old' o0; clear g0 g1 g2 g3 g4 t0 t1 t2 t3 t4 t5) | (go_at_call 113; refine (ladd8 W s n K2 T R (2 * n + i) [] _ _ hn (by omega) HTk.out HLj.out).mono ?_; rintro e w1 ⟨b, rfl, hl⟩))
       have HA : Hid (LayB W s n K2 T (ones8 R (2 * n + i)) (2 * n + i + 1) [(2 * n + i, b)] w1) := hl
       clear hl HL HTk
       obtain ⟨p, hp⟩ : ∃ p, p = 4 * n + i := ⟨_, rfl⟩
       obtain ⟨q, hq⟩ : ∃ q, q = 5 * n + i := ⟨_, rfl⟩
       have HM1 : Hid (∀ wx, Lay1 W s n K2 T R (2 * n + i) b p wx -> Calls prog 118 #[.pointer (some ⟨s, 0, none⟩), .int .i64 (i : Int)] wx (Ret wx (.int .i64 (p : Int)))) := fun wx hR => (by obtain ⟨v, u, hrow⟩ := hR.row; rw [hp]; exact lm_d s n i v u wx hn (by omega) hrow)
       have HM2 : Hid (∀ wx, Lay1 W s n K2 T R (2 * n + i) b p wx -> Calls prog 119 #[.pointer (some ⟨s, 0, none⟩), .int .i64 (i : Int)] wx (Ret wx (.int .i64 (q : Int)))) := fun wx hR => (by obtain ⟨v, u, hrow⟩ := hR.row; rw [hq]; exact lm_u s n i v u wx hn (by omega) hrow)
       have hp8 : p < 7 * n + 3 := by omega
       have hq8 : q < 7 * n + 3 := by omega
       have hpq : p ≠ q := by omega
       have HRow : Hid (R (2 * n + i) = row28 p G q H) := by unfold Hid; rw [hp, hq]; exact HRk.out
       have HGr := hid fun wx (hR : Lay1 W s n K2 T R (2 * n + i) b p wx) => hR.prot HgK.out
       clear hp hq HRk
       refine zaa 14 [.k (.slice (some ⟨b, 0, none⟩) (7 * n + 3) (7 * n + 3)), .k (.pointer (some ⟨s, 0, none⟩)), .k (.int .i64 (i : Int)), .k (.int .i64 (p : Int)), .k (.slice (some ⟨b, 0, none⟩) (7 * n + 3) (7 * n + 3)), .k (.pointer (some ⟨s, 0, none⟩)), .k (.int .i64 (i : Int)), .k (.int .i64 (q : Int)), .k (.pointer (some ⟨gb, 2, none⟩)), .k (.int .u64 G), .k (.pointer (some ⟨gb, 3, none⟩)), .k (.int .u64 H), .k (.pointer (some ⟨b, p, none⟩)), zfH W s n K2 T R (2 * n + i) b p G] (Lay1 W s n K2 T R (2 * n + i) b p) (by kernel_rfl) (by kernel_rfl) rfl (Lay1.old _ _ (Lay1.of HA.out) (Old.refl _).drew) ?st ?_
       case st =>
        refine .p <| .p <| .p <| .c (stK Lay1.old func118 (fun wx hR => HM1.out wx hR)) <| .p <| .p <| .p <| .c (stK Lay1.old func119 (fun wx hR => HM2.out wx hR)) <| .p <| .c (stf 2 U22 HGr.out) <| .p <| .c (stf 3 U22 HGr.out) <| .c (sti0 (n := (7 * n + 3)) (c := (7 * n + 3)) hp8 U29) <| .c (stS (p := ⟨b, p, none⟩) (v := .int .u64 G) (fun _ => lay_stS (i := 13) rfl rfl hp8)) .n
       intro t wx hR hk
       simp only [fill, Ent.val, zfH, Ls0, Ls1, Ld1, Ld0, Ldn]
       have hl : LayB W s n K2 T (setR (ones8 R (2 * n + i)) (2 * n + i) p G) (2 * n + i + 1) [(2 * n + i, b)] wx := hk 13 (by omega)
       have q1 := (hl.full List.mem_cons_self).cell q hq8
       have f1 := (hl.full List.mem_cons_self).free q
       have HN := hid ((hl.cell List.mem_cons_self q H).fin28 hpq HRow.out)
       clear hl hk hR HA HM1 HM2 HGr HRow
       go_wp2_with fail
       go_roundw
       case rel => exact ⟨i + 1, zab i, by omega, HN⟩
       case measure => simp [intOf]; omega
      ·have he : n = i := by omega
       subst he
       have HE : Hid (LayB W s n Ks T R (3 * n) [] wr) := by have := HL.out.less HKs.out; rw [show 2 * n + n = 3 * n by omega] at this; exact this
       clear HL HLm
       go_wp2_with fail
       go_end0
       exact ⟨rfl, HE.out⟩
end
section
open Go.RowKit
section
variable {W w w' : World} {s n : Nat} {Ks : List (Nat × Obj)} {T : NI} {R : NN} {k b p : Nat}
theorem Lay1.oldW (h : Lay1 W s n Ks T R k b p w) : Old W w := let ⟨_, h⟩ := h; h.old
theorem LayB.fin18 {x : Int} {bl : List (Nat × Nat)} (h : LayB W s n Ks T (setR (ones8 R k) k p x) (k + 1) bl w) (hR : R k = row18 p x) : LayB W s n Ks T R (k + 1) [] w := by
 refine (h.drop (bl' := []) (by simp)).congr fun j hj r _ => ?_
 unfold setR ones8
 by_cases hjk : j = k
 ·subst hjk
  rw [hR]
  unfold row18
  simp
 ·simp [hjk, show j < k by omega]
theorem zcu {Bs : NN} {bl : List (Nat × Nat)} (w w' : World) (h : LayB W s n Ks T Bs k bl w) (ho : Old w w') : LayB W s n Ks T Bs k bl w' := h.old' ho
end
theorem lprod_any (W : World) (s n : Nat) (Ks : List (Nat × Obj)) (T : NI) (R : NN) (P Q G H : Int) (a : OA) (m cap : Nat) (ba : OA) (na ca : Nat) (X : Int) (bb : OA) (nb cb : Nat) (Y Z : Int) (bp : OA) (cp : Nat) (Pp : NI) (w : World) (h0n : 0 < n) (hn : n <= 8) (h4 : Four P Q G H) (hr : Righ P Q G) (hX : U64 X) (hY : U64 Y) (hZ : U64 Z) (hP : FacsIn W bp n Pp)
  (hT1 : ∀ i, i + 1 < n -> T (3 * n + i) = Pp (i + 1)) (hT2 : T (3 * n + (n - 1)) = lastI P Q G X Y Z n (Pp (n - 1)))
  (hR1 : ∀ i, i + 1 < n -> R (3 * n + i) = row28 (4 * n + (i + 1)) (Pp i) (6 * n + i) H) (hR2 : R (3 * n + (n - 1)) = row18 (7 * n - 1) H)
  (h : LayB W s n Ks T R (3 * n) [] w) :
  Calls prog 82 #[.pointer (some ⟨s, 0, none⟩), gv P Q G H a m cap, tk ba na ca X bb nb cb Y Z bp n cp] w fun e w' => e = .returned (.tuple #[]) /\ LayB W s n Ks T R (4 * n) [] w' := by
 rcases hP with h0 | ⟨bp, op, rfl, hbp, hrp⟩
 ·omega
 obtain ⟨kk, hkk⟩ : ∃ kk, kk = prodI Q (kF Q X Y Z) n := ⟨_, rfl⟩
 have HK : Hid (∀ wx, Calls prog 121 #[gv P Q G H a m cap, tk ba na ca X bb nb cb Y Z (some ⟨bp, op, none⟩) n cp, .int .i64 (n : Int)] wx (Ret wx (.int .u64 kk))) := fun wx => by rw [hkk]; exact spf_any P Q G H a m cap ba na ca X bb nb cb Y Z (some ⟨bp, op, none⟩) n cp n wx (by omega) hX hY hZ
 have HKu : U64 kk := by rw [hkk]; exact zaL _ _ _
 obtain ⟨ek, hek⟩ : ∃ ek, ek = expI P Q G kk := ⟨_, rfl⟩
 have HE : Hid (∀ wx, Calls prog 65 #[gv P Q G H a m cap, .int .u64 G, .int .u64 kk] wx (Ret wx (.int .u64 ek))) := fun wx => by rw [hek]; exact za8 P Q G H G kk a m cap wx h4 hr h4.g0 h4.g1 HKu.1 HKu.2
 have HO : Hid (∀ wx, Calls prog 99 #[gv P Q G H a m cap, .int .u64 (Pp (n - 1)), .int .u64 ek] wx (Ret wx (.int .u64 (overI P (Pp (n - 1)) ek)))) := fun wx => gover_any P Q G H a m cap (Pp (n - 1)) ek wx h4 hr (hrp (n - 1) (by omega)).2 (by rw [hek]; exact hr.exp_in hr.gin)
 have HT2 : Hid (T (3 * n + (n - 1)) = overI P (Pp (n - 1)) ek) := by unfold Hid; rw [hT2, hek, hkk]; rfl
 have HL0 : Hid (LayB W s n ((w.heap.size + 1, .cells (tkc ba na ca X bb nb cb Y Z (some ⟨bp, op, none⟩) n cp) 41 (0, 0)) :: (w.heap.size, .cells (gc P Q G H a m cap) 25 (0, 0)) :: Ks) T R (3 * n) [] ((w.alloc (.cells (gc P Q G H a m cap) 25)).alloc (.cells (tkc ba na ca X bb nb cb Y Z (some ⟨bp, op, none⟩) n cp) 41))) := by
  have := (h.more (.cells (gc P Q G H a m cap) 25 (0, 0))).more (.cells (tkc ba na ca X bb nb cb Y Z (some ⟨bp, op, none⟩) n cp) 41 (0, 0))
  unfold Hid; simpa using this
 have HT1 := hid hT1
 have HR1 := hid hR1
 have HR2 := hid hR2
 have HPc := hid fun i wx (hi : i < n) (ho : Old W wx) => ho.cellOf (hrp i hi).1
 clear h h4 hr hX hY hZ hrp hbp hT1 hT2 hR1 hR2 hkk HKu hek
 obtain ⟨K2, hK2⟩ : ∃ K2, K2 = (w.heap.size + 1, .cells (tkc ba na ca X bb nb cb Y Z (some ⟨bp, op, none⟩) n cp) 41 (0, 0)) :: (w.heap.size, .cells (gc P Q G H a m cap) 25 (0, 0)) :: Ks := ⟨_, rfl⟩
 rw [<- hK2] at HL0
 have HgK : Hid ((w.heap.size, .cells (gc P Q G H a m cap) 25 (0, 0)) ∈ K2) := by unfold Hid; rw [hK2]; simp
 have HtK : Hid ((w.heap.size + 1, .cells (tkc ba na ca X bb nb cb Y Z (some ⟨bp, op, none⟩) n cp) 41 (0, 0)) ∈ K2) := by unfold Hid; rw [hK2]; simp
 have HKs : Hid (∀ e, e ∈ Ks -> e ∈ K2) := by unfold Hid; rw [hK2]; intro e he; simp [he]
 clear hK2
 go_enter func82, ntmps82
 go_upto_region 1 with fail
 generalize (w.alloc (.cells (gc P Q G H a m cap) 25)).alloc (.cells (tkc ba na ca X bb nb cb Y Z (some ⟨bp, op, none⟩) n cp) 41) = W1 at *
 generalize w.heap.size = gb at *
 go_upto_region 2 with fail
 go_loopw [6] (fun iv wx => ∃ i : Nat, iv = .int .i64 ((i + 1 : Nat) : Int) /\ i + 1 <= n /\ Hid (LayB W s n K2 T R (3 * n + i) [] wx)) (fun iv _ => n - (intOf iv).toNat)
 case atStart => exact ⟨0, rfl, h0n, HL0⟩
 case round =>
  obtain ⟨i, rfl, hi, HL⟩ := hrel
  obtain ⟨v0, u0, hrow⟩ := HL.out.row
  have cn : wr.cell? ⟨s, 0, none⟩ = some (.int .i64 (n : Int)) := Y0 hrow
  clear hrow
  by_cases hlt : i + 1 < n
  ·have HTk : Hid (T (3 * n + i) = Pp (i + 1)) := HT1.out i hlt
   have HRk := hid (HR1.out i hlt)
   have c5 : wr.cell? ⟨gb + 1, 5, none⟩ = some (.slice (some ⟨bp, op, none⟩) n cp) := Y5 (HL.out.prot HtK.out)
   have cP := HPc.out (i + 1) wr hlt HL.out.old
   go_upto_region 5 with (go_at_call 113; refine (ladd8 W s n K2 T R (3 * n + i) [] (Pp (i + 1)) _ hn (by omega) HTk.out HL.out).mono ?_; rintro e w1 ⟨b, rfl, hl⟩)
   have HA : Hid (LayB W s n K2 T (ones8 R (3 * n + i)) (3 * n + i + 1) [(3 * n + i, b)] w1) := hl
   clear hl HL HTk cn c5 cP
   obtain ⟨p, hp⟩ : ∃ p, p = 4 * n + (i + 1) := ⟨_, rfl⟩
   obtain ⟨q, hq⟩ : ∃ q, q = 6 * n + i := ⟨_, rfl⟩
   have HM1 : Hid (∀ wx, Lay1 W s n K2 T R (3 * n + i) b p wx -> Calls prog 118 #[.pointer (some ⟨s, 0, none⟩), .int .i64 ((i + 1 : Nat) : Int)] wx (Ret wx (.int .i64 (p : Int)))) := fun wx hR => (by obtain ⟨v, u, hrow⟩ := hR.row; rw [hp]; exact lm_d s n (i + 1) v u wx hn (by omega) hrow)
   have HM2 : Hid (∀ wx, Lay1 W s n K2 T R (3 * n + i) b p wx -> Calls prog 120 #[.pointer (some ⟨s, 0, none⟩), .int .i64 (i : Int)] wx (Ret wx (.int .i64 (q : Int)))) := fun wx hR => (by obtain ⟨v, u, hrow⟩ := hR.row; rw [hq]; exact lm_t s n i v u wx hn (by omega) hrow)
   have hp8 : p < 7 * n + 3 := by omega
   have hq8 : q < 7 * n + 3 := by omega
   have hpq : p ≠ q := by omega
   have hin : i < n := by omega
   have hi1 : i + 1 <= 100 := by omega
   have HRow : Hid (R (3 * n + i) = row28 p (Pp i) q H) := by unfold Hid; rw [hp, hq]; exact HRk.out
   have HGr := hid fun wx (hR : Lay1 W s n K2 T R (3 * n + i) b p wx) => hR.prot HgK.out
   have HTr := hid fun wx (hR : Lay1 W s n K2 T R (3 * n + i) b p wx) => hR.prot HtK.out
   have HPr := hid fun wx (hR : Lay1 W s n K2 T R (3 * n + i) b p wx) => HPc.out i wx hin hR.oldW
   clear hp hq HRk
   refine zaa 19 [.k (.slice (some ⟨b, 0, none⟩) (7 * n + 3) (7 * n + 3)), .k (.pointer (some ⟨s, 0, none⟩)), .k (.int .i64 ((i + 1 : Nat) : Int)), .k (.int .i64 (p : Int)), .k (.slice (some ⟨b, 0, none⟩) (7 * n + 3) (7 * n + 3)), .k (.pointer (some ⟨s, 0, none⟩)), .k (.int .i64 ((i + 1 : Nat) : Int)), .k (.int .i64 (i : Int)), .k (.int .i64 (q : Int)), .k (.pointer (some ⟨gb + 1, 5, none⟩)), .k (.slice (some ⟨bp, op, none⟩) n cp), .k (.int .i64 ((i + 1 : Nat) : Int)), .k (.int .i64 (i : Int)), .k (.pointer (some ⟨bp, op + i, none⟩)), .k (.int .u64 (Pp i)), .k (.pointer (some ⟨gb, 3, none⟩)), .k (.int .u64 H), .k (.pointer (some ⟨b, p, none⟩)), zfH W s n K2 T R (3 * n + i) b p (Pp i)] (Lay1 W s n K2 T R (3 * n + i) b p) (by kernel_rfl) (by kernel_rfl) rfl (Lay1.old _ _ (Lay1.of HA.out) (Old.refl _).drew) ?st ?_
   case st =>
    refine .p <| .p <| .p <| .c (stK Lay1.old func118 (fun wx hR => HM1.out wx hR)) <| .p <| .p <| .p <| .c (stv (zfF i (by omega))) <| .c (stK Lay1.old func120 (fun wx hR => HM2.out wx hR)) <| .p <| .c (stf 5 U29 HTr.out) <| .p <| .c (stv (zfF i (by omega))) <| .c (sti (n := n) (c := cp) hin U29) <| .c (stl U22 HPr.out) <| .p <| .c (stf 3 U22 HGr.out) <| .c (sti0 (n := (7 * n + 3)) (c := (7 * n + 3)) hp8 U29) <| .c (stS (p := ⟨b, p, none⟩) (v := .int .u64 (Pp i)) (fun _ => lay_stS (i := 18) rfl rfl hp8)) .n
   intro t wx hR hk
   simp only [fill, Ent.val, zfH, Ls0, Ls1, Ld1, Ld0, Ldn]
   have hl : LayB W s n K2 T (setR (ones8 R (3 * n + i)) (3 * n + i) p (Pp i)) (3 * n + i + 1) [(3 * n + i, b)] wx := hk 18 (by omega)
   have q1 := (hl.full List.mem_cons_self).cell q hq8
   have f1 := (hl.full List.mem_cons_self).free q
   have HN := hid ((hl.cell List.mem_cons_self q H).fin28 hpq HRow.out)
   clear hl hk hR HA HM1 HM2 HGr HTr HPr HRow
   go_wp2_with fail
   go_roundw
   case rel => exact ⟨i + 1, zab (i + 1), by omega, HN⟩
   case measure => simp [intOf]; omega
  ·have he : n = i + 1 := by omega
   obtain ⟨k, hk0⟩ : ∃ k, k = 3 * n + (n - 1) := ⟨_, rfl⟩
   have HLk : Hid (LayB W s n K2 T R k [] wr) := by have := HL.out; rw [show 3 * n + i = k by omega] at this; exact this
   rw [<- hk0] at HT2 HR2
   have hkn : Hid (k + 1 = 4 * n) := by unfold Hid; omega
   have hk8 : k <= 100 := by omega
   have hi0 : i = n - 1 := by omega
   have HPr : Hid (∀ wx, LayB W s n K2 T R k [] wx -> wx.cell? ⟨bp, op + i, none⟩ = some (.int .u64 (Pp (n - 1)))) := fun wx hR => by rw [hi0]; exact HPc.out (n - 1) wx (by omega) hR.old
   have HGr := hid fun wx (hR : LayB W s n K2 T R k [] wx) => hR.prot HgK.out
   have HTr := hid fun wx (hR : LayB W s n K2 T R k [] wx) => hR.prot HtK.out
   have HSr : Hid (∀ wx, LayB W s n K2 T R k [] wx -> wx.cell? ⟨s, 0, none⟩ = some (.int .i64 (n : Int))) := fun wx hR => by obtain ⟨v, u, hrow⟩ := hR.row; exact Y0 hrow
   have hin : i < n := by omega
   have hpred : Value.int .i64 (IntKind.i64.wrap ((n : Int) - 1)) = .int .i64 (i : Int) := by rw [he]; exact zfF i (by omega)
   clear HL hk0 hi0
   go_upto_region 6 with fail
   clear cn
   refine zaa 23 [.k (.pointer (some ⟨s, 0, none⟩)), .k (gv P Q G H a m cap), .k (.pointer (some ⟨gb + 1, 5, none⟩)), .k (.slice (some ⟨bp, op, none⟩) n cp), .k (.pointer (some ⟨s, 0, none⟩)), .k (.pointer (some ⟨s, 0, none⟩)), .k (.pointer (some ⟨s, 0, none⟩)), .k (.int .i64 (n : Int)), .k (.int .i64 (i : Int)), .k (.pointer (some ⟨bp, op + i, none⟩)), .k (.int .u64 (Pp (n - 1))), .k (gv P Q G H a m cap), .k (.pointer (some ⟨gb, 2, none⟩)), .k (.int .u64 G), .k (gv P Q G H a m cap), .k (tk ba na ca X bb nb cb Y Z (some ⟨bp, op, none⟩) n cp), .k (.pointer (some ⟨s, 0, none⟩)), .k (.pointer (some ⟨s, 0, none⟩)), .k (.pointer (some ⟨s, 0, none⟩)), .k (.int .i64 (n : Int)), .k (.int .u64 kk), .k (.int .u64 ek), .k (.int .u64 (overI P (Pp (n - 1)) ek))] (LayB W s n K2 T R k []) (by kernel_rfl) (by kernel_rfl) rfl (zcu _ _ HLk.out (Old.refl _).drew) ?st ?_
   case st =>
    refine .p <| .c (sts U25 HGr.out) <| .p <| .c (stf 5 U29 HTr.out) <| .p <| .p <| .p <| .c (stl U3 HSr.out) <| .c (stv hpred) <| .c (sti (n := n) (c := cp) hin U29) <| .c (stl U22 HPr.out) <| .c (sts U25 HGr.out) <| .p <| .c (stf 2 U22 HGr.out) <| .c (sts U25 HGr.out) <| .c (sts U41 HTr.out) <| .p <| .p <| .p <| .c (stl U3 HSr.out) <| .c (stK zcu func121 (fun wx _ => HK.out wx)) <| .c (stK zcu func65 (fun wx _ => HE.out wx)) <| .c (stK zcu func99 (fun wx _ => HO.out wx)) .n
   intro t wx hR hk
   simp only [fill, Ent.val, Ls0, Ls1, Ld1, Ld0, Ldn]
   have HLx := hid hR
   clear hR hk HLk HGr HTr HPr HSr he hpred hin HPc hlt hi
   go_upto_region 7 with (go_at_call 113; refine (ladd8 W s n K2 T R k [] (overI P (Pp (n - 1)) ek) _ hn hk8 HT2.out HLx.out).mono ?_; rintro e w1 ⟨b, rfl, hl⟩)
   have HA : Hid (LayB W s n K2 T (ones8 R k) (k + 1) [(k, b)] w1) := hl
   clear hl HLx HT2
   obtain ⟨p, hp⟩ : ∃ p, p = 7 * n - 1 := ⟨_, rfl⟩
   have hp8 : p < 7 * n + 3 := by omega
   have HM1 : Hid (∀ wx, LayB W s n K2 T (ones8 R k) (k + 1) [(k, b)] wx -> Calls prog 122 #[.pointer (some ⟨s, 0, none⟩)] wx (Ret wx (.int .i64 (p : Int)))) := fun wx hR => (by obtain ⟨v, u, hrow⟩ := hR.row; rw [hp]; exact lm_tLast s n v u wx h0n hn hrow)
   have HGr := hid fun wx (hR : LayB W s n K2 T (ones8 R k) (k + 1) [(k, b)] wx) => hR.prot HgK.out
   rw [<- hp] at HR2
   clear hp
   refine zaa 5 [.k (.slice (some ⟨b, 0, none⟩) (7 * n + 3) (7 * n + 3)), .k (.pointer (some ⟨s, 0, none⟩)), .k (.int .i64 (p : Int)), .k (.pointer (some ⟨gb, 3, none⟩)), .k (.int .u64 H)] (LayB W s n K2 T (ones8 R k) (k + 1) [(k, b)]) (by kernel_rfl) (by kernel_rfl) rfl (zcu _ _ HA.out (Old.refl _).drew) ?st ?_
   case st =>
    refine .p <| .p <| .c (stK zcu func122 (fun wx hR => HM1.out wx hR)) <| .p <| .c (stf 3 U22 HGr.out) .n
   intro t wx hR hk
   simp only [fill, Ent.val, Ls0, Ls1, Ld1, Ld0, Ldn]
   have q1 := (hR.full List.mem_cons_self).cell p hp8
   have f1 := (hR.full List.mem_cons_self).free p
   have HN : Hid (LayB W s n Ks T R (4 * n) [] (wx.setCell ⟨b, p, none⟩ (.int .u64 H))) := by
    have := ((hR.cell List.mem_cons_self p H).fin18 HR2.out).less HKs.out
    rw [hkn.out] at this
    exact this
   clear hR hk HA HM1 HGr
   go_wp2_with fail
   go_end0
   exact ⟨rfl, HN.out⟩
end
section
open Go.RowKit
theorem bc_at (F : NI) : ∀ e, e < 3 -> (bc (F 0) (F 1) (F 2) (F 3) (F 4) (F 5))[0 + e * 2]? = some (.int .u64 (F (2 * e))) /\ (bc (F 0) (F 1) (F 2) (F 3) (F 4) (F 5))[0 + e * 2 + 1]? = some (.int .u64 (F (2 * e + 1)))
 | 0, _ => ⟨rfl, rfl⟩
 | 1, _ => ⟨rfl, rfl⟩
 | 2, _ => ⟨rfl, rfl⟩
section
variable {W w w' : World} {s n : Nat} {Ks : List (Nat × Obj)} {T : NI} {Bs R : NN} {k K r b p : Nat} {bl : List (Nat × Nat)}
theorem Ly.more2 {N i k : Nat} {v u : Value} {bk : Nat -> Nat} {o : Obj} (h : Ly W s N Ks T Bs i k v u bk w) (ho : Old w w') (hb : w.heap.size <= b) (hob : w'.heap[b]? = some o) : Ly W s N ((b, o) :: Ks) T Bs i k v u bk w' := by
 have h' := h.old' ho
 refine ⟨h'.old, h'.ws, h'.big, h'.nums, h'.own, h'.full, h.inj, h.s1, h.s2, h.s3, fun e he => ?_⟩
 rcases List.mem_cons.1 he with rfl | he
 ·refine ⟨hob, by have := h.big; show b ≠ s; omega, fun hc => ?_, fun hc => ?_, fun j hj hc => ?_⟩
  ·have := (World.ownsRow.lt h.nums _ hc).2; omega
  ·have := (World.ownsRow.lt h.own _ hc).2; omega
  ·have := (h.full j hj).2.lt; omega
 ·exact h'.prot e he
theorem LayB.more2 {o : Obj} (h : LayB W s n Ks T Bs k bl w) (ho : Old w w') (hb : w.heap.size <= b) (hob : w'.heap[b]? = some o) : LayB W s n ((b, o) :: Ks) T Bs k bl w' := let ⟨v, u, bk, h1, h2⟩ := h; ⟨v, u, bk, h1, h2.ly.more2 ho hb hob, (ho.block _ h2.ly.big).trans h2.row⟩
def LayC (W : World) (s n : Nat) (Ks : List (Nat × Obj)) (T : NI) (Bs : NN) (K : Nat) (bl : List (Nat × Nat)) (r p : Nat) (wx : World) : Prop := ∃ c, LayB W s n Ks T (setR Bs r p c) K bl wx
theorem LayC.old (w w' : World) (h : LayC W s n Ks T Bs K bl r p w) (ho : Old w w') : LayC W s n Ks T Bs K bl r p w' := let ⟨c, h⟩ := h; ⟨c, h.old' ho⟩
theorem LayC.row (h : LayC W s n Ks T Bs K bl r p w) : ∃ v u, w.heap[s]? = some (.cells #[.int .i64 (n : Int), v, u] 109 (0, 0)) := let ⟨_, h⟩ := h; h.row
theorem LayC.prot (h : LayC W s n Ks T Bs K bl r p w) {b' : Nat} {o : Obj} (he : (b', o) ∈ Ks) : w.heap[b']? = some o := let ⟨_, h⟩ := h; h.prot he
theorem LayC.of (h : LayB W s n Ks T Bs K bl w) : LayC W s n Ks T Bs K bl r p w := ⟨Bs r p, h.congr fun j hj q _ => by
 unfold setR
 by_cases hjk : j = r
 ·subst hjk; rw [if_pos rfl]; by_cases hq : q = p
  ·subst hq; simp
  ·simp [hq]
 ·rw [if_neg hjk]⟩
def zf5 (W : World) (s n : Nat) (Ks : List (Nat × Obj)) (T : NI) (Bs : NN) (K : Nat) (bl : List (Nat × Nat)) (r p : Nat) (x : Int) : Ent := .u (fun _ w => LayB W s n Ks T (setR Bs r p x) K bl w) fun _ _ _ h ho => h.old' ho
theorem layC_stS {E : List Ent} {i : Nat} {x : Int} (hk : zfW E i = true) (hE : E[i]? = some (zf5 W s n Ks T Bs K bl r p x)) (he : (r, b) ∈ bl) (hp : p < 7 * n + 3) (wx : World) (h : LayC W s n Ks T Bs K bl r p wx) :
  (∃ o, wx.cell? ⟨b, p, none⟩ = some o) /\ wx.frozen? ⟨b, p, none⟩ = false /\ ResT E (LayC W s n Ks T Bs K bl r p) (zf5 W s n Ks T Bs K bl r p x) wx undef (wx.setCell ⟨b, p, none⟩ (.int .u64 x)) := by
 obtain ⟨c, h⟩ := h
 have hF := h.full he
 have hs : LayB W s n Ks T (setR Bs r p x) K bl (wx.setCell ⟨b, p, none⟩ (.int .u64 x)) := by
  refine (h.cell he p x).congr fun j _ q _ => ?_
  unfold setR
  by_cases hjk : j = r
  ·subst hjk; simp only [if_true]; by_cases hq : q = p
   ·simp [hq]
   ·simp [hq]
  ·simp [hjk]
 exact ⟨⟨_, hF.cell p hp⟩, hF.free p, zf8 hk hE ⟨x, hs⟩ fun _ => hs⟩
end
def two8r (R : NN) (k : Nat) (f g : NI) : Nat -> Nat -> Int := fun j => if j < k then R j else if j = k then f else g
def rowP (m i : Nat) (W : NI) : Nat -> Int := fun q => if m <= q /\ q < m + i then W (q - m) else 1
section
variable {W w : World} {s n : Nat} {Ks : List (Nat × Obj)} {T : NI} {R : NN} {k i q : Nat} {bl : List (Nat × Nat)} {WU WV : NI}
theorem LayB.two (h : LayB W s n Ks T (ones8 (ones8 R k) (k + 1)) (k + 2) bl w) : LayB W s n Ks T (two8r R k (rowP (2 * n) 0 WU) (rowP (2 * n) 0 WV)) (k + 2) bl w := by
 refine h.congr fun j hj r _ => ?_
 unfold ones8 two8r rowP
 have e : ¬ (2 * n <= r /\ r < 2 * n + 0) := by omega
 by_cases h1 : j < k
 ·simp [h1, show j < k + 1 by omega]
 ·by_cases h2 : j = k
  ·subst h2; simp; intro a b; omega
  ·have h3 : ¬ j < k + 1 := by omega
   simp [h1, h2, h3]; intro a b; omega
theorem LayB.step (h : LayB W s n Ks T (setR (setR (two8r R k (rowP (2 * n) i WU) (rowP (2 * n) i WV)) k (2 * n + i) (WU i)) (k + 1) (2 * n + i) (WV i)) (k + 2) bl w) : LayB W s n Ks T (two8r R k (rowP (2 * n) (i + 1) WU) (rowP (2 * n) (i + 1) WV)) (k + 2) bl w := by
 have e : ∀ (V : NI) r, (if r = 2 * n + i then V i else rowP (2 * n) i V r) = rowP (2 * n) (i + 1) V r := fun V r => by
  unfold rowP
  by_cases h1 : r = 2 * n + i
  ·subst h1; simp
  ·rw [if_neg h1]
   by_cases h2 : 2 * n <= r /\ r < 2 * n + i
   ·rw [if_pos h2, if_pos ⟨h2.1, by omega⟩]
   ·rw [if_neg h2, if_neg (by omega)]
 refine h.congr fun j hj r _ => ?_
 unfold setR two8r
 by_cases h1 : j < k
 ·have h2 : j ≠ k := by omega
  have h3 : j ≠ k + 1 := by omega
  simp [h1, h2, h3]
 ·by_cases h2 : j = k
  ·subst h2; have := e WU r; simpa using this
  ·have h3 : j = k + 1 := by omega
   subst h3; have := e WV r; have h4 : ¬ k + 1 < k := by omega
   simpa [h4] using this
theorem LayB.finS {x z : Int} (h : LayB W s n Ks T (setR (setR (two8r R k (rowP (2 * n) n WU) (rowP (2 * n) n WV)) k q x) (k + 1) q z) (k + 2) bl w) (hq : 3 * n <= q) (hU : R k = rowS8 (2 * n) n WU q x) (hV : R (k + 1) = rowS8 (2 * n) n WV q z) : LayB W s n Ks T R (k + 2) [] w := by
 have e : ∀ (V : NI) y r, (if r = q then y else rowP (2 * n) n V r) = rowS8 (2 * n) n V q y r := fun V y r => by
  unfold rowP rowS8
  by_cases h1 : r = q
  ·subst h1; rw [if_pos rfl, if_neg (by omega), if_pos rfl]
  ·rw [if_neg h1]; by_cases h2 : 2 * n <= r /\ r < 2 * n + n
   ·rw [if_pos h2, if_pos h2]
   ·rw [if_neg h2, if_neg h2, if_neg h1]
 refine (h.drop (bl' := []) (by simp)).congr fun j hj r _ => ?_
 unfold setR two8r
 by_cases h1 : j < k
 ·have h2 : j ≠ k := by omega
  have h3 : j ≠ k + 1 := by omega
  simp [h1, h2, h3]
 ·by_cases h2 : j = k
  ·subst h2; have := e WU x r; rw [hU]; simpa using this
  ·have h3 : j = k + 1 := by omega
   subst h3; have := e WV z r; rw [hV]; have h4 : ¬ k + 1 < k := by omega
   simpa [h4] using this
end
theorem lsum_any (W : World) (s n : Nat) (Ks : List (Nat × Obj)) (T : NI) (R : NN) (P Q G H : Int) (a : OA) (m cap : Nat) (y : Int) (bi : OA) (ci : Nat) (C : NN) (bo : OA) (co : Nat) (O : NN) (ba : OA) (na ca : Nat) (X : Int) (bb : OA) (nb cb : Nat) (Y Z : Int) (bp : OA) (np cp e k : Nat) (w : World) (h0n : 0 < n) (hn : n <= 8) (he : e < 3) (hke : k <= 98) (h4 : Four P Q G H) (hr : Righ P Q G) (hX : U64 X) (hC : BoxsIn W bi n C) (hO : BoxsIn W bo n O)
  (hT1 : T k = prodI P (fun j => expI P Q (C j (2 * e)) (powI X ((j : Int) + 1) Q)) n) (hT2 : T (k + 1) = prodI P (fun j => expI P Q (C j (2 * e + 1)) (powI X ((j : Int) + 1) Q)) n)
  (hR1 : R k = rowS8 (2 * n) n (fun i => O i (2 * e)) (7 * n + e) G) (hR2 : R (k + 1) = rowS8 (2 * n) n (fun i => O i (2 * e + 1)) (7 * n + e) y)
  (h : LayB W s n Ks T R k [] w) :
  Calls prog 83 #[.pointer (some ⟨s, 0, none⟩), gv P Q G H a m cap, .int .u64 y, .slice bi n ci, .slice bo n co, tk ba na ca X bb nb cb Y Z bp np cp, .int .i64 (e : Int)] w fun r w' => r = .returned (.tuple #[]) /\ LayB W s n Ks T R (k + 2) [] w' := by
 rcases hC with h0 | ⟨bi, oi, rfl, _, hc⟩
 ·omega
 rcases hO with h0 | ⟨bo, oo, rfl, _, hoo⟩
 ·omega
 have HC : Hid (∀ i wx, i < n -> Old W wx -> ∀ j, j < 6 -> wx.cell? ⟨bi, oi + i * 6 + j, none⟩ = some (.int .u64 (C i j))) := fun i wx hi ho j hj => ho.cellOf (hc i hi j hj).1
 have HCu := hid fun i j (hi : i < n) (hj : j < 6) => (hc i hi j hj).2
 have HOc : Hid (∀ i wx, i < n -> Old W wx -> ∀ j, j < 6 -> wx.cell? ⟨bo, oo + i * 6 + j, none⟩ = some (.int .u64 (O i j))) := fun i wx hi ho j hj => ho.cellOf (hoo i hi j hj).1
 obtain ⟨uF, huF⟩ : ∃ uF : Nat -> Int, uF = fun i => prodI P (fun j => expI P Q (C j (2 * e)) (powI X ((j : Int) + 1) Q)) i := ⟨_, rfl⟩
 obtain ⟨vF, hvF⟩ : ∃ vF : Nat -> Int, vF = fun i => prodI P (fun j => expI P Q (C j (2 * e + 1)) (powI X ((j : Int) + 1) Q)) i := ⟨_, rfl⟩
 have HT1 : Hid (T k = uF n) := by unfold Hid; rw [hT1, huF]
 have HT2 : Hid (T (k + 1) = vF n) := by unfold Hid; rw [hT2, hvF]
 have Hu0 : Hid (uF 0 = 1) := by unfold Hid; rw [huF]; rfl
 have Hv0 : Hid (vF 0 = 1) := by unfold Hid; rw [hvF]; rfl
 have Huu : Hid (∀ i, U64 (uF i)) := fun i => by rw [huF]; exact zaL _ _ _
 have Hvu : Hid (∀ i, U64 (vF i)) := fun i => by rw [hvF]; exact zaL _ _ _
 have Hus : Hid (∀ i, uF (i + 1) = mulI (uF i) (expI P Q (C i (2 * e)) (powI X ((i : Int) + 1) Q)) P) := fun i => by rw [huF]; rfl
 have Hvs : Hid (∀ i, vF (i + 1) = mulI (vF i) (expI P Q (C i (2 * e + 1)) (powI X ((i : Int) + 1) Q)) P) := fun i => by rw [hvF]; rfl
 have HPw := hid fun i wx (hi : i < n) => zdZ X ((i : Int) + 1) Q hX ⟨by omega, by omega⟩ wx
 have HEx := hid fun i j wx (hi : i < n) (hj : j < 6) => za8 P Q G H (C i j) (powI X ((i : Int) + 1) Q) a m cap wx h4 hr (HCu.out i j hi hj).1 (HCu.out i j hi hj).2 (zbi _ _ _).1 (zbi _ _ _).2
 have HPd : Hid (∀ (x z : Int) (b base : Nat) (wx : World), U64 x -> U64 z -> Nums wx base (.slice (some ⟨b, 0, none⟩) 2 2) 2 (two7 x z) -> Calls prog 64 #[gv P Q G H a m cap, .slice (some ⟨b, 0, none⟩) 2 2] wx (Ret wx (.int .u64 (mulI x z P)))) := fun x z b base wx hx hz hN => gprod7 P Q G H a m cap x z h4 hr hx hz hN
 have HL0 : Hid (LayB W s n ((w.heap.size + 1, .cells (tkc ba na ca X bb nb cb Y Z bp np cp) 41 (0, 0)) :: (w.heap.size, .cells (gc P Q G H a m cap) 25 (0, 0)) :: Ks) T R k [] ((w.alloc (.cells (gc P Q G H a m cap) 25)).alloc (.cells (tkc ba na ca X bb nb cb Y Z bp np cp) 41))) := by
  have := (h.more (.cells (gc P Q G H a m cap) 25 (0, 0))).more (.cells (tkc ba na ca X bb nb cb Y Z bp np cp) 41 (0, 0))
  unfold Hid; simpa using this
 have HR1 := hid hR1
 have HR2 := hid hR2
 clear h h4 hr hX hc hoo hT1 hT2 hR1 hR2 huF hvF
 obtain ⟨K2, hK2⟩ : ∃ K2, K2 = (w.heap.size + 1, .cells (tkc ba na ca X bb nb cb Y Z bp np cp) 41 (0, 0)) :: (w.heap.size, .cells (gc P Q G H a m cap) 25 (0, 0)) :: Ks := ⟨_, rfl⟩
 rw [<- hK2] at HL0
 have HgK : Hid ((w.heap.size, .cells (gc P Q G H a m cap) 25 (0, 0)) ∈ K2) := by unfold Hid; rw [hK2]; simp
 have HtK : Hid ((w.heap.size + 1, .cells (tkc ba na ca X bb nb cb Y Z bp np cp) 41 (0, 0)) ∈ K2) := by unfold Hid; rw [hK2]; simp
 have HKs : Hid (∀ e, e ∈ Ks -> e ∈ K2) := by unfold Hid; rw [hK2]; intro e he; simp [he]
 clear hK2
 go_enter func83, ntmps83
 go_upto_region 1 with fail
 generalize (w.alloc (.cells (gc P Q G H a m cap) 25)).alloc (.cells (tkc ba na ca X bb nb cb Y Z bp np cp) 41) = W1 at *
 generalize w.heap.size = gb at *
 have HW2 : Hid (Old W1 (W1.alloc (.cells #[.int .u64 1, .int .u64 1] 69))) := (Old.refl _).alloc _
 have HP2 : Hid ((W1.alloc (.cells #[.int .u64 1, .int .u64 1] 69)).heap[W1.heap.size]? = some (.cells #[.int .u64 (uF 0), .int .u64 (vF 0)] 69 (0, 0))) := by unfold Hid; rw [Hu0.out, Hv0.out]; exact heap_alloc_last _ _
 go_upto_region 2 with fail
 generalize W1.alloc (.cells #[.int .u64 1, .int .u64 1] 69) = W2 at *
 obtain ⟨pb, hpb⟩ : ∃ pb, pb = W1.heap.size := ⟨_, rfl⟩
 have Hpb := hid hpb
 rw [<- hpb] at HP2
 rw [<- hpb]
 clear hpb
 go_upto_region 3 with fail
 go_loopw [25] (fun iv wx => ∃ i : Nat, iv = .int .i64 (i : Int) /\ i <= n /\ Hid (Old W1 wx) /\ Hid (wx.heap[pb]? = some (.cells #[.int .u64 (uF i), .int .u64 (vF i)] 69 (0, 0)))) (fun iv _ => n - (intOf iv).toNat)
 case atStart => exact ⟨0, rfl, Nat.zero_le _, HW2, HP2⟩
 case round =>
  obtain ⟨i, rfl, hi, HO, HP⟩ := hrel
  have HLr := hid (HL0.out.old' HO.out)
  by_cases hlt : i < n
  ·have hcc := HC.out i wr hlt HLr.out.old
   have c0 : wr.cell? ⟨bi, oi + i * 6, none⟩ = some (.int .u64 (C i 0)) := hcc 0 (by omega)
   have c1 := hcc 1 (by omega)
   have c2 := hcc 2 (by omega)
   have c3 := hcc 3 (by omega)
   have c4 := hcc 4 (by omega)
   have c5 := hcc 5 (by omega)
   clear hcc
   have HOb : Hid (Old wr (wr.alloc (.cells (bc (C i 0) (C i 1) (C i 2) (C i 3) (C i 4) (C i 5)) 74))) := (Old.refl _).alloc _
   have HBb : Hid ((wr.alloc (.cells (bc (C i 0) (C i 1) (C i 2) (C i 3) (C i 4) (C i 5)) 74)).heap[wr.heap.size]? = some (.cells (bc (C i 0) (C i 1) (C i 2) (C i 3) (C i 4) (C i 5)) 74 (0, 0))) := heap_alloc_last _ _
   go_upto_region 5 with fail
   clear c0 c1 c2 c3 c4 c5
   generalize wr.alloc (.cells (bc (C i 0) (C i 1) (C i 2) (C i 3) (C i 4) (C i 5)) 74) = w3 at *
   obtain ⟨eb, hsz⟩ : ∃ eb, eb = wr.heap.size := ⟨_, rfl⟩
   rw [<- hsz] at HBb
   rw [<- hsz]
   have HP3 : Hid (w3.heap[pb]? = some (.cells #[.int .u64 (uF i), .int .u64 (vF i)] 69 (0, 0))) := (HOb.out.block _ (zag HP.out)).trans HP.out
   have HO3 := hid (HO.out.trans HOb.out)
   have HL3 := hid (HLr.out.old' HOb.out)
   have hne : pb ≠ eb := by have := zag HP.out; omega
   clear HO HP HLr HOb hsz
   have x1 : w3.cell? ⟨gb, 1, none⟩ = some (.int .u64 Q) := Y1 (HL3.out.prot HgK.out)
   have x2 : w3.cell? ⟨gb + 1, 1, none⟩ = some (.int .u64 X) := Y1 (HL3.out.prot HtK.out)
   have k1 : IntKind.u64.wrap (i : Int) = (i : Int) := by rw [IntKind.wrap_u64]; omega
   have k2 : IntKind.u64.wrap ((i : Int) + 1) = (i : Int) + 1 := by rw [IntKind.wrap_u64]; omega
   obtain ⟨pw, hpw⟩ : ∃ pw, pw = powI X ((i : Int) + 1) Q := ⟨_, rfl⟩
   have HPi : Hid (∀ wx, Calls prog 61 #[.int .u64 X, .int .u64 ((i : Int) + 1), .int .u64 Q] wx (Ret wx (.int .u64 pw))) := fun wx => by rw [hpw]; exact HPw.out i wx hlt
   obtain ⟨eU, heU⟩ : ∃ eU, eU = expI P Q (C i (2 * e)) pw := ⟨_, rfl⟩
   obtain ⟨eV, heV⟩ : ∃ eV, eV = expI P Q (C i (2 * e + 1)) pw := ⟨_, rfl⟩
   have HEU : Hid (∀ wx, Calls prog 65 #[gv P Q G H a m cap, .int .u64 (C i (2 * e)), .int .u64 pw] wx (Ret wx (.int .u64 eU))) := fun wx => by rw [heU, hpw]; exact HEx.out i (2 * e) wx hlt (by omega)
   have HEV : Hid (∀ wx, Calls prog 65 #[gv P Q G H a m cap, .int .u64 (C i (2 * e + 1)), .int .u64 pw] wx (Ret wx (.int .u64 eV))) := fun wx => by rw [heV, hpw]; exact HEx.out i (2 * e + 1) wx hlt (by omega)
   have HsU : Hid (mulI (uF i) eU P = uF (i + 1)) := by unfold Hid; rw [Hus.out i, heU, hpw]
   have HsV : Hid (mulI (vF i) eV P = vF (i + 1)) := by unfold Hid; rw [Hvs.out i, heV, hpw]
   have HeU : Hid (U64 eU) := by rw [heU]; exact zaz _ _ _ _
   have HeV : Hid (U64 eV) := by rw [heV]; exact zaz _ _ _ _
   clear hpw heU heV
   have HBq : Hid (∀ (wx : World), wx.heap[eb]? = some (.cells (bc (C i 0) (C i 1) (C i 2) (C i 3) (C i 4) (C i 5)) 74 (0, 0)) -> wx.cell? ⟨eb, 0 + e * 2, none⟩ = some (.int .u64 (C i (2 * e))) /\ wx.cell? ⟨eb, 0 + e * 2 + 1, none⟩ = some (.int .u64 (C i (2 * e + 1)))) := fun wx hrow =>
    ⟨(cell_of_row wx eb (0 + e * 2) _ _ (0, 0) hrow).trans (bc_at (C i) e he).1, (cell_of_row wx eb (0 + e * 2 + 1) _ _ (0, 0) hrow).trans (bc_at (C i) e he).2⟩
   go_upto_region 6 with (go_at_call 61; refine (HPi.out _).mono ?_; rintro r w5 ⟨rfl, o5⟩)
   clear x1 x2 k1 k2 HPi
   have HP5 : Hid (w5.heap[pb]? = some (.cells #[.int .u64 (uF i), .int .u64 (vF i)] 69 (0, 0))) := (o5.block _ (zag HP3.out)).trans HP3.out
   have HO5 := hid (HO3.out.trans o5)
   have HB5 : Hid (w5.heap[eb]? = some (.cells (bc (C i 0) (C i 1) (C i 2) (C i 3) (C i 4) (C i 5)) 74 (0, 0))) := (o5.block _ (zag HBb.out)).trans HBb.out
   clear HP3 HO3 HL3 HBb o5
   refine zaa 12 [.k (gv P Q G H a m cap), .k (.pointer (some ⟨pb, 0, none⟩)), .k (.int .u64 (uF i)), .k (gv P Q G H a m cap), .k (.int .i64 (e : Int)), .k (.pointer (some ⟨eb, 0 + e * 2, none⟩)), .k (.pointer (some ⟨eb, 0 + e * 2, none⟩)), .k (.int .u64 (C i (2 * e))), .k (.int .u64 pw), .k (.int .u64 eU), two8 w5.heap.size (uF i) eU, .k (.int .u64 (uF (i + 1)))] (Old w5) (by kernel_rfl) (by kernel_rfl) rfl ((Old.refl _).drew) ?st ?_
   case st =>
    refine .c (sts U25 (fun wx hx => (HL0.out.old' (HO5.out.trans hx)).prot HgK.out)) <| .p <| .c (stf 0 U22 (fun wx hx => (hx.block _ (zag HP5.out)).trans HP5.out)) <| .c (sts U25 (fun wx hx => (HL0.out.old' (HO5.out.trans hx)).prot HgK.out)) <| .p <| .c (saj 2 he U74) <| .p <| .c (stl U22 (fun wx hx => (HBq.out wx ((hx.block _ (zag HB5.out)).trans HB5.out)).1)) <| .p <| .c (stK old_R func65 (fun wx _ => HEU.out wx)) <| .c (stm (ob := fun t => .cells #[.int .u64 (uF i), .int .u64 eU] 22) (v := fun s => .slice (some ⟨s, 0, none⟩) 2 2) old_R fun t wx hR hd => ⟨_, rfl, zbG wx w5.heap.size 2 [.int .u64 (uF i), .int .u64 eU] (two7 (uF i) eU) hR.size (by omega) rfl⟩) <| .c (stC (args := fun t => #[gv P Q G H a m cap, t 10]) old_R func64 fun t wx hR hd => ?_) .n
    obtain ⟨b, e10, hN⟩ : ∃ b, t 10 = .slice (some ⟨b, 0, none⟩) 2 2 /\ Nums wx w5.heap.size (t 10) 2 (two7 (uF i) eU) := hd 10 (by kernel_rfl)
    rw [e10] at hN ⊢
    exact (HPd.out _ _ b _ wx (Huu.out i) HeU.out hN).mono fun r w' ⟨h, k⟩ => ⟨_, h, k, by rw [HsU.out]; rfl⟩
   intro t wx hR hk
   simp only [fill, Ent.val, two8, Ls0, Ls1, Ld1, Ld0, Ldn]
   have HP6 : Hid ((wx.setCell ⟨pb, 0, none⟩ (.int .u64 (uF (i + 1)))).heap[pb]? = some (.cells #[.int .u64 (uF (i + 1)), .int .u64 (vF i)] 69 (0, 0))) := by
    have := zaq ((hR.block _ (zag HP5.out)).trans HP5.out) 0 (.int .u64 (uF (i + 1)))
    unfold Hid; simpa using this
   have HO6 : Hid (Old W1 (wx.setCell ⟨pb, 0, none⟩ (.int .u64 (uF (i + 1))))) := (HO5.out.trans hR).setCell (p := ⟨pb, 0, none⟩) (Nat.le_of_eq Hpb.out.symm) _
   have HB6 : Hid ((wx.setCell ⟨pb, 0, none⟩ (.int .u64 (uF (i + 1)))).heap[eb]? = some (.cells (bc (C i 0) (C i 1) (C i 2) (C i 3) (C i 4) (C i 5)) 74 (0, 0))) := (Below.heap_setCell _ ⟨pb, 0, none⟩ _ _ hne.symm).trans ((hR.block _ (zag HB5.out)).trans HB5.out)
   have q1 : wx.cell? ⟨pb, 0, none⟩ = some (.int .u64 (uF i)) := Y0 ((hR.block _ (zag HP5.out)).trans HP5.out)
   have f1 : wx.frozen? ⟨pb, 0, none⟩ = false := zac ((hR.block _ (zag HP5.out)).trans HP5.out) 0
   clear hR hk HP5 HO5 HB5 HEU HsU HeU
   go_upto_region 7 with fail
   clear q1 f1
   generalize wx.setCell ⟨pb, 0, none⟩ (.int .u64 (uF (i + 1))) = w6 at *
   refine zaa 12 [.k (gv P Q G H a m cap), .k (.pointer (some ⟨pb, 1, none⟩)), .k (.int .u64 (vF i)), .k (gv P Q G H a m cap), .k (.int .i64 (e : Int)), .k (.pointer (some ⟨eb, 0 + e * 2, none⟩)), .k (.pointer (some ⟨eb, 0 + e * 2 + 1, none⟩)), .k (.int .u64 (C i (2 * e + 1))), .k (.int .u64 pw), .k (.int .u64 eV), two8 w6.heap.size (vF i) eV, .k (.int .u64 (vF (i + 1)))] (Old w6) (by kernel_rfl) (by kernel_rfl) rfl ((Old.refl _).drew) ?st ?_
   case st =>
    refine .c (sts U25 (fun wx hx => (HL0.out.old' (HO6.out.trans hx)).prot HgK.out)) <| .p <| .c (stf 1 U22 (fun wx hx => (hx.block _ (zag HP6.out)).trans HP6.out)) <| .c (sts U25 (fun wx hx => (HL0.out.old' (HO6.out.trans hx)).prot HgK.out)) <| .p <| .c (saj 2 he U74) <| .p <| .c (stl U22 (fun wx hx => (HBq.out wx ((hx.block _ (zag HB6.out)).trans HB6.out)).2)) <| .p <| .c (stK old_R func65 (fun wx _ => HEV.out wx)) <| .c (stm (ob := fun t => .cells #[.int .u64 (vF i), .int .u64 eV] 22) (v := fun s => .slice (some ⟨s, 0, none⟩) 2 2) old_R fun t wx hR hd => ⟨_, rfl, zbG wx w6.heap.size 2 [.int .u64 (vF i), .int .u64 eV] (two7 (vF i) eV) hR.size (by omega) rfl⟩) <| .c (stC (args := fun t => #[gv P Q G H a m cap, t 10]) old_R func64 fun t wx hR hd => ?_) .n
    obtain ⟨b, e10, hN⟩ : ∃ b, t 10 = .slice (some ⟨b, 0, none⟩) 2 2 /\ Nums wx w6.heap.size (t 10) 2 (two7 (vF i) eV) := hd 10 (by kernel_rfl)
    rw [e10] at hN ⊢
    exact (HPd.out _ _ b _ wx (Hvu.out i) HeV.out hN).mono fun r w' ⟨h, k⟩ => ⟨_, h, k, by rw [HsV.out]; rfl⟩
   intro t wx hR hk
   simp only [fill, Ent.val, two8, Ls0, Ls1, Ld1, Ld0, Ldn]
   have HP7 : Hid ((wx.setCell ⟨pb, 1, none⟩ (.int .u64 (vF (i + 1)))).heap[pb]? = some (.cells #[.int .u64 (uF (i + 1)), .int .u64 (vF (i + 1))] 69 (0, 0))) := by
    have := zaq ((hR.block _ (zag HP6.out)).trans HP6.out) 1 (.int .u64 (vF (i + 1)))
    unfold Hid; simpa using this
   have HO7 : Hid (Old W1 (wx.setCell ⟨pb, 1, none⟩ (.int .u64 (vF (i + 1))))) := (HO6.out.trans hR).setCell (p := ⟨pb, 1, none⟩) (Nat.le_of_eq Hpb.out.symm) _
   have q1 : wx.cell? ⟨pb, 1, none⟩ = some (.int .u64 (vF i)) := Y1 ((hR.block _ (zag HP6.out)).trans HP6.out)
   have f1 : wx.frozen? ⟨pb, 1, none⟩ = false := zac ((hR.block _ (zag HP6.out)).trans HP6.out) 1
   clear hR hk HP6 HO6 HB6 HEV HsV HeV HBq
   go_wp2_with fail
   go_roundw
   case rel => exact ⟨i + 1, zab i, by omega, HO7, HP7⟩
   case measure => simp [intOf]; omega
  ·have he : n = i := by omega
   subst he
   have HLs := hid (HL0.out.more2 HO.out (Nat.le_of_eq Hpb.out.symm) HP.out)
   obtain ⟨K3, hK3⟩ : ∃ K3, K3 = (pb, Obj.cells #[.int .u64 (uF n), .int .u64 (vF n)] 69 (0, 0)) :: K2 := ⟨_, rfl⟩
   rw [<- hK3] at HLs
   have HpK : Hid ((pb, Obj.cells #[.int .u64 (uF n), .int .u64 (vF n)] 69 (0, 0)) ∈ K3) := by unfold Hid; rw [hK3]; simp
   have HgK3 : Hid ((gb, .cells (gc P Q G H a m cap) 25 (0, 0)) ∈ K3) := by unfold Hid; rw [hK3]; simp [HgK.out]
   have HKs3 : Hid (∀ e, e ∈ Ks -> e ∈ K3) := by unfold Hid; rw [hK3]; intro e he; simp [HKs.out e he]
   clear hK3 HO HP HLr HL0 HgK HtK HKs HC HCu Hu0 Hv0 Huu Hvu Hus Hvs HPw HEx HPd Hpb HW2 HP2
   have HS : Hid (∀ (wx : World) Bs k' bl, LayB W s n K3 T Bs k' bl wx -> wx.cell? ⟨pb, 0, none⟩ = some (.int .u64 (uF n)) /\ wx.cell? ⟨pb, 1, none⟩ = some (.int .u64 (vF n))) := fun wx Bs k' bl h => ⟨Y0 (h.prot HpK.out), Y1 (h.prot HpK.out)⟩
   have HLd := hid (HLs.out.old' (Old.refl _).drew)
   clear HLs
   go_upto_region 9 with fail
   go_region_held3 (fun w' => w'.cell? ⟨pb, 0, none⟩ = some (.int .u64 (uF n)) /\ w'.cell? ⟨pb, 1, none⟩ = some (.int .u64 (vF n))) (first | exact HS.out _ _ _ _ hlB.out | exact HS.out _ _ _ _ hlA.out | exact HS.out _ _ _ _ HLd.out) (first
    | (have hg := hlA; clear hg; go_at_call 113; refine (ladd8 W s n K3 T (ones8 R k) (k + 1) _ (vF n) _ hn (by omega) HT2.out hlA.out).mono ?_; rintro r w2 ⟨bV, rfl, hl⟩; have hlB : Hid (LayB W s n K3 T _ _ _ w2) := hl; clear hl)
    | (go_at_call 113; refine (ladd8 W s n K3 T R k [] (uF n) _ hn (by omega) HT1.out HLd.out).mono ?_; rintro r w1 ⟨bU, rfl, hl⟩; have hlA : Hid (LayB W s n K3 T _ _ _ w1) := hl; clear hl))
   have HQ0 : Hid (LayB W s n K3 T (two8r R k (rowP (2 * n) 0 (fun i => O i (2 * e))) (rowP (2 * n) 0 (fun i => O i (2 * e + 1)))) (k + 2) [(k + 1, bV), (k, bU)] w2) := hlB.out.two
   clear hlA hlB HLd HT1 HT2 HS HpK
   go_upto_region 11 with fail
   go_loopw [75] (fun iv wx => ∃ i : Nat, iv = .int .i64 (i : Int) /\ i <= n /\ Hid (LayB W s n K3 T (two8r R k (rowP (2 * n) i (fun i => O i (2 * e))) (rowP (2 * n) i (fun i => O i (2 * e + 1)))) (k + 2) [(k + 1, bV), (k, bU)] wx)) (fun iv _ => n - (intOf iv).toNat)
   case atStart => exact ⟨0, rfl, Nat.zero_le _, HQ0⟩
   case round =>
    obtain ⟨i, rfl, hi, HL⟩ := hrel
    by_cases hlt : i < n
    ·have hcc := HOc.out i wr hlt HL.out.old
     have c0 : wr.cell? ⟨bo, oo + i * 6, none⟩ = some (.int .u64 (O i 0)) := hcc 0 (by omega)
     have c1 := hcc 1 (by omega)
     have c2 := hcc 2 (by omega)
     have c3 := hcc 3 (by omega)
     have c4 := hcc 4 (by omega)
     have c5 := hcc 5 (by omega)
     clear hcc
     have HLb : Hid (LayB W s n ((wr.heap.size, .cells (bc (O i 0) (O i 1) (O i 2) (O i 3) (O i 4) (O i 5)) 74 (0, 0)) :: K3) T (two8r R k (rowP (2 * n) i (fun i => O i (2 * e))) (rowP (2 * n) i (fun i => O i (2 * e + 1)))) (k + 2) [(k + 1, bV), (k, bU)] (wr.alloc (.cells (bc (O i 0) (O i 1) (O i 2) (O i 3) (O i 4) (O i 5)) 74))) := HL.out.more _
     go_upto_region 13 with fail
     clear c0 c1 c2 c3 c4 c5
     generalize wr.alloc (.cells (bc (O i 0) (O i 1) (O i 2) (O i 3) (O i 4) (O i 5)) 74) = w3 at *
     obtain ⟨eb, hsz⟩ : ∃ eb, eb = wr.heap.size := ⟨_, rfl⟩
     rw [<- hsz] at HLb
     rw [<- hsz]
     obtain ⟨K4, hK4⟩ : ∃ K4, K4 = (eb, Obj.cells (bc (O i 0) (O i 1) (O i 2) (O i 3) (O i 4) (O i 5)) 74 (0, 0)) :: K3 := ⟨_, rfl⟩
     rw [<- hK4] at HLb
     have HeK : Hid ((eb, Obj.cells (bc (O i 0) (O i 1) (O i 2) (O i 3) (O i 4) (O i 5)) 74 (0, 0)) ∈ K4) := by unfold Hid; rw [hK4]; simp
     have HKs4 : Hid (∀ e, e ∈ K3 -> e ∈ K4) := by unfold Hid; rw [hK4]; intro e he; simp [he]
     clear hK4 hsz HL
     obtain ⟨p, hp⟩ : ∃ p, p = 2 * n + i := ⟨_, rfl⟩
     have hp8 : p < 7 * n + 3 := by omega
     obtain ⟨Bs, hBs⟩ : ∃ Bs, Bs = (two8r R k (rowP (2 * n) i (fun i => O i (2 * e))) (rowP (2 * n) i (fun i => O i (2 * e + 1)))) := ⟨_, rfl⟩
     have HM : Hid (∀ wx, LayC W s n K4 T Bs (k + 2) [(k + 1, bV), (k, bU)] k p wx -> Calls prog 116 #[.pointer (some ⟨s, 0, none⟩), .int .i64 (i : Int)] wx (Ret wx (.int .i64 (p : Int)))) := fun wx hR => (by obtain ⟨v, u, hrow⟩ := hR.row; rw [hp]; exact lm_b s n i v u wx hn (by omega) hrow)
     have HBq : Hid (∀ wx, LayC W s n K4 T Bs (k + 2) [(k + 1, bV), (k, bU)] k p wx -> wx.cell? ⟨eb, 0 + e * 2, none⟩ = some (.int .u64 (O i (2 * e))) /\ wx.cell? ⟨eb, 0 + e * 2 + 1, none⟩ = some (.int .u64 (O i (2 * e + 1)))) := fun wx hR =>
      ⟨(cell_of_row wx eb (0 + e * 2) _ _ (0, 0) (hR.prot HeK.out)).trans (bc_at (O i) e he).1, (cell_of_row wx eb (0 + e * 2 + 1) _ _ (0, 0) (hR.prot HeK.out)).trans (bc_at (O i) e he).2⟩
     rw [<- hBs] at HLb
     have Hp := hid hp
     have HBs := hid hBs
     clear hp hBs
     refine zaa 18 [.k (.slice (some ⟨bU, 0, none⟩) (7 * n + 3) (7 * n + 3)), .k (.pointer (some ⟨s, 0, none⟩)), .k (.int .i64 (i : Int)), .k (.int .i64 (p : Int)), .k (.slice (some ⟨bV, 0, none⟩) (7 * n + 3) (7 * n + 3)), .k (.pointer (some ⟨s, 0, none⟩)), .k (.int .i64 (i : Int)), .k (.int .i64 (p : Int)), .k (.int .i64 (e : Int)), .k (.pointer (some ⟨eb, 0 + e * 2, none⟩)), .k (.pointer (some ⟨eb, 0 + e * 2, none⟩)), .k (.int .u64 (O i (2 * e))), .k (.int .i64 (e : Int)), .k (.pointer (some ⟨eb, 0 + e * 2, none⟩)), .k (.pointer (some ⟨eb, 0 + e * 2 + 1, none⟩)), .k (.int .u64 (O i (2 * e + 1))), .k (.pointer (some ⟨bU, p, none⟩)), zf5 W s n K4 T Bs (k + 2) [(k + 1, bV), (k, bU)] k p (O i (2 * e))] (LayC W s n K4 T Bs (k + 2) [(k + 1, bV), (k, bU)] k p) (by kernel_rfl) (by kernel_rfl) rfl (LayC.old _ _ (LayC.of HLb.out) (Old.refl _).drew) ?st ?_
     case st =>
      refine .p <| .p <| .p <| .c (stK LayC.old func116 (fun wx hR => HM.out wx hR)) <| .p <| .p <| .p <| .c (stK LayC.old func116 (fun wx hR => HM.out wx hR)) <| .p <| .c (saj 2 he U74) <| .p <| .c (stl U22 (fun wx hR => (HBq.out wx hR).1)) <| .p <| .c (saj 2 he U74) <| .p <| .c (stl U22 (fun wx hR => (HBq.out wx hR).2)) <| .c (sti0 (n := (7 * n + 3)) (c := (7 * n + 3)) hp8 U29) <| .c (stS (p := ⟨bU, p, none⟩) (v := .int .u64 (O i (2 * e))) (fun _ => layC_stS (i := 17) rfl rfl (by simp) hp8)) .n
     intro t wx hR hk
     simp only [fill, Ent.val, zf5, Ls0, Ls1, Ld1, Ld0, Ldn]
     have hl : LayB W s n K4 T (setR Bs k p (O i (2 * e))) (k + 2) [(k + 1, bV), (k, bU)] wx := hk 17 (by omega)
     have q1 := (hl.full (r := k + 1) (b := bV) (by simp)).cell p hp8
     have f1 := (hl.full (r := k + 1) (b := bV) (by simp)).free p
     have HN : Hid (LayB W s n K3 T (two8r R k (rowP (2 * n) (i + 1) (fun i => O i (2 * e))) (rowP (2 * n) (i + 1) (fun i => O i (2 * e + 1)))) (k + 2) [(k + 1, bV), (k, bU)] (wx.setCell ⟨bV, p, none⟩ (.int .u64 (O i (2 * e + 1))))) := by
      have := hl.cell (r := k + 1) (b := bV) (by simp) p (O i (2 * e + 1))
      rw [HBs.out] at this
      rw [Hp.out] at this ⊢
      exact (LayB.step (WU := fun i => O i (2 * e)) (WV := fun i => O i (2 * e + 1)) this).less HKs4.out
     clear hl hk hR HM HBq HLb HBs Hp
     go_wp2_with fail
     go_roundw
     case rel => exact ⟨i + 1, zab i, by omega, HN⟩
     case measure => simp [intOf]; omega
    ·have he' : n = i := by omega
     subst he'
     obtain ⟨q, hq⟩ : ∃ q, q = 7 * n + e := ⟨_, rfl⟩
     have hq8 : q < 7 * n + 3 := by omega
     have hq3 : 3 * n <= q := by omega
     rw [<- hq] at HR1 HR2
     obtain ⟨Bs, hBs⟩ : ∃ Bs, Bs = (two8r R k (rowP (2 * n) n (fun i => O i (2 * e))) (rowP (2 * n) n (fun i => O i (2 * e + 1)))) := ⟨_, rfl⟩
     have HLn : Hid (LayB W s n K3 T Bs (k + 2) [(k + 1, bV), (k, bU)] wr) := by rw [hBs]; exact HL.out
     have HBs : Hid (Bs = (two8r R k (rowP (2 * n) n (fun i => O i (2 * e))) (rowP (2 * n) n (fun i => O i (2 * e + 1))))) := hBs
     have HM : Hid (∀ wx, LayC W s n K3 T Bs (k + 2) [(k + 1, bV), (k, bU)] k q wx -> Calls prog 123 #[.pointer (some ⟨s, 0, none⟩), .int .i64 (e : Int)] wx (Ret wx (.int .i64 (q : Int)))) := fun wx hR => (by obtain ⟨v, u, hrow⟩ := hR.row; rw [hq]; exact lm_rho s n e v u wx hn (by omega) hrow)
     have HGr := hid fun wx (hR : LayC W s n K3 T Bs (k + 2) [(k + 1, bV), (k, bU)] k q wx) => hR.prot HgK3.out
     clear hq hBs HL
     go_upto_region 15 with fail
     refine zaa 13 [.k (.slice (some ⟨bU, 0, none⟩) (7 * n + 3) (7 * n + 3)), .k (.pointer (some ⟨s, 0, none⟩)), .k (.int .i64 (e : Int)), .k (.int .i64 (q : Int)), .k (.slice (some ⟨bV, 0, none⟩) (7 * n + 3) (7 * n + 3)), .k (.pointer (some ⟨s, 0, none⟩)), .k (.int .i64 (e : Int)), .k (.int .i64 (q : Int)), .k (.pointer (some ⟨gb, 2, none⟩)), .k (.int .u64 G), .k (.int .u64 y), .k (.pointer (some ⟨bU, q, none⟩)), zf5 W s n K3 T Bs (k + 2) [(k + 1, bV), (k, bU)] k q G] (LayC W s n K3 T Bs (k + 2) [(k + 1, bV), (k, bU)] k q) (by kernel_rfl) (by kernel_rfl) rfl (LayC.old _ _ (LayC.of HLn.out) (Old.refl _).drew) ?st ?_
     case st =>
      refine .p <| .p <| .p <| .c (stK LayC.old func123 (fun wx hR => HM.out wx hR)) <| .p <| .p <| .p <| .c (stK LayC.old func123 (fun wx hR => HM.out wx hR)) <| .p <| .c (stf 2 U22 HGr.out) <| .p <| .c (sti0 (n := (7 * n + 3)) (c := (7 * n + 3)) hq8 U29) <| .c (stS (p := ⟨bU, q, none⟩) (v := .int .u64 G) (fun _ => layC_stS (i := 12) rfl rfl (by simp) hq8)) .n
     intro t wx hR hk
     simp only [fill, Ent.val, zf5, Ls0, Ls1, Ld1, Ld0, Ldn]
     have hl : LayB W s n K3 T (setR Bs k q G) (k + 2) [(k + 1, bV), (k, bU)] wx := hk 12 (by omega)
     have q1 := (hl.full (r := k + 1) (b := bV) (by simp)).cell q hq8
     have f1 := (hl.full (r := k + 1) (b := bV) (by simp)).free q
     have HN : Hid (LayB W s n Ks T R (k + 2) [] (wx.setCell ⟨bV, q, none⟩ (.int .u64 y))) := by
      have := hl.cell (r := k + 1) (b := bV) (by simp) q y
      rw [HBs.out] at this
      exact (this.finS hq3 HR1.out HR2.out).less HKs3.out
     clear hl hk hR HM HLn HBs HGr
     go_wp2_with fail
     go_end0
     exact ⟨rfl, HN.out⟩
end
end Go.Proofs.YtlnmjbbpenhdbaaGreat
