/-
  What the proof needs, part 9.
-/
import Derived.Test.YtlnmjbbpenhdbaaGreatKp08
import Derived.Lib.AppendZerosOnto
namespace Go.Proofs.YtlnmjbbpenhdbaaGreat
open Tryz
open List renaming set_cons_zero → zs0, set_cons_succ → zs1, drop_succ_cons → zd1, drop_zero → zd0, drop_nil → zdn
open Tryz renaming underlying3 → U3, underlying22 → U22, underlying25 → U25, underlying28 → U28, underlying29 → U29, underlying41 → U41, underlying48 → U48, underlying63 → U63
set_option linter.unusedSimpArgs false
set_option linter.unusedVariables false
set_option maxRecDepth 100000
set_option maxHeartbeats 32000000
section
open Go.RowKit
theorem own_oth8 {w : World} {base : Nat} {e : TypeId} {size : Nat} {v : Value} {n : Nat} {xs : List Value} (h : w.ownsRow base e size v n xs) {p : Addr} (hne : v.ownBlock ≠ some p.block) (u : Value) : (w.setCell p u).ownsRow base e size v n xs := by
 refine ⟨h.1, ?_⟩
 rcases h.2 with h2 | ⟨g, cap, cur, hv, hb, hg, r⟩
 ·exact Or.inl h2
 ·refine Or.inr ⟨g, cap, cur, hv, hb, ?_, r⟩
  rw [Below.heap_setCell w p u g (fun he => hne (by rw [hv, <- he]; rfl))]
  exact hg
structure Ly (W : World) (s N : Nat) (Ks : List (Nat × Obj)) (T : NI) (Bs : NN) (i k : Nat) (v u : Value) (bk : Nat -> Nat) (wx : World) : Prop where
 old : Old W wx
 ws : W.heap.size <= s
 big : s + 1 <= wx.heap.size
 nums : Nums wx (s + 1) v i T
 own : wx.ownsRow (s + 1) 29 1 u k ((List.range k).map fun j => Value.slice (some ⟨bk j, 0, none⟩) N N)
 full : ∀ j, j < k -> s + 1 <= bk j /\ Full wx (bk j) N (Bs j)
 inj : ∀ i j, i < k -> j < k -> bk i = bk j -> i = j
 s1 : ∀ j, j < k -> v.ownBlock ≠ some (bk j)
 s2 : ∀ j, j < k -> u.ownBlock ≠ some (bk j)
 s3 : v.ownBlock = none ∨ u.ownBlock ≠ v.ownBlock
 prot : ∀ e, e ∈ Ks -> wx.heap[e.1]? = some e.2 /\ e.1 ≠ s /\ v.ownBlock ≠ some e.1 /\ u.ownBlock ≠ some e.1 /\ ∀ j, j < k -> bk j ≠ e.1
section
variable {W w wx w' : World} {s N : Nat} {Ks : List (Nat × Obj)} {T : NI} {Bs : NN} {i k : Nat} {v u : Value} {bk : Nat -> Nat}
theorem zag {b : Nat} {o : Obj} (h : w.heap[b]? = some o) : b < w.heap.size := (Array.getElem?_eq_some_iff.1 h).1
theorem Ly.old' (h : Ly W s N Ks T Bs i k v u bk wx) (ho : Old wx w') : Ly W s N Ks T Bs i k v u bk w' :=
 ⟨h.old.trans ho, h.ws, Nat.le_trans h.big ho.size, h.nums.old ho, zbr h.own ho, fun j hj => ⟨(h.full j hj).1, (h.full j hj).2.old ho⟩, h.inj, h.s1, h.s2, h.s3, fun e he => by
  obtain ⟨h1, h2⟩ := h.prot e he
  exact ⟨(ho.block _ (zag h1)).trans h1, h2⟩⟩
theorem Ly.set (h : Ly W s N Ks T Bs i k v u bk wx) (j : Nat) (x : Value) : Ly W s N Ks T Bs i k v u bk (wx.setCell ⟨s, j, none⟩ x) :=
 ⟨h.old.setCell (p := ⟨s, j, none⟩) h.ws _, h.ws, by have := h.big; simpa using this, ownsRow_setCell_below h.nums (Nat.lt_succ_self _) _, ownsRow_setCell_below h.own (Nat.lt_succ_self _) _, fun j' hj => ⟨(h.full j' hj).1, (h.full j' hj).2.other (by have := (h.full j' hj).1; show bk j' ≠ s; omega) _⟩, h.inj, h.s1, h.s2, h.s3, fun e he => by
  obtain ⟨h1, h2, h3⟩ := h.prot e he
  exact ⟨(Below.heap_setCell _ _ _ _ h2).trans h1, h2, h3⟩⟩
theorem Ly.tgt {g cap : Nat} {x : Int} (h : Ly W s N Ks T Bs i k v u bk w) (hx : T i = x) (hown : w'.ownsRow (s + 1) 22 1 (.slice (some ⟨g, 0, none⟩) (i + 1) cap) (i + 1) ((List.range i).map (fun j => Value.int .u64 (T j)) ++ [.int .u64 x])) (hg : w.grownBy w' v.ownBlock) (hat : v.ownBlock = some g ∨ g = w.heap.size) : Ly W s N Ks T Bs (i + 1) k (.slice (some ⟨g, 0, none⟩) (i + 1) cap) u bk w' := by
 have hu := World.ownsRow.lt h.own
 refine ⟨h.old.grown hg fun b hb => ?_, h.ws, Nat.le_trans h.big hg.size, Nums.app hown hx, h.own.kept hg ?_, fun j hj => ⟨(h.full j hj).1, (h.full j hj).2.grown hg (h.s1 j hj)⟩, h.inj, fun j hj he => ?_, h.s2, Or.inr fun he => ?_, fun e he => ?_⟩
 ·have := (World.ownsRow.lt h.nums b hb).1; have := h.ws; omega
 ·rcases h.s3 with h3 | h3
  ·rw [h3]; cases hx : u.ownBlock
   ·exact Or.inl rfl
   ·exact Or.inr (by simp)
  ·exact Or.inr h3
 ·have he' : g = bk j := by simpa [Value.ownBlock] using he
  rcases hat with h1 | h1
  ·exact h.s1 j hj (by rw [h1, he'])
  ·have := (h.full j hj).2.lt; omega
 ·have he' : u.ownBlock = some g := he
  rcases hat with h1 | h1
  ·rcases h.s3 with h3 | h3
   ·rw [h3] at h1; cases h1
   ·exact h3 (by rw [he', h1])
  ·have := (hu g he').2; omega
 ·obtain ⟨h1, h2, h3, h4, h5⟩ := h.prot e he
  refine ⟨(hg.block _ (zag h1) (Ne.symm h3)).trans h1, h2, fun hc => ?_, h4, h5⟩
  have hc' : g = e.1 := by simpa [Value.ownBlock] using hc
  rcases hat with h6 | h6
  ·exact h3 (by rw [h6, hc'])
  ·have := zag h1; omega
theorem Ly.bas {b g cap : Nat} (h : Ly W s N Ks T Bs i k v u bk w) (hb : s + 1 <= b) (hF : Full w b N (Bs k)) (hvb : v.ownBlock ≠ some b) (hub : u.ownBlock ≠ some b) (hnb : ∀ j, j < k -> bk j ≠ b) (hkb : ∀ e, e ∈ Ks -> b ≠ e.1) (hown : w'.ownsRow (s + 1) 29 1 (.slice (some ⟨g, 0, none⟩) (k + 1) cap) (k + 1) ((List.range k).map (fun j => Value.slice (some ⟨bk j, 0, none⟩) N N) ++ [.slice (some ⟨b, 0, none⟩) N N])) (hg : w.grownBy w' u.ownBlock) (hat : u.ownBlock = some g ∨ g = w.heap.size) :
  Ly W s N Ks T Bs i (k + 1) v (.slice (some ⟨g, 0, none⟩) (k + 1) cap) (fun j => if j = k then b else bk j) w' := by
 have hv := World.ownsRow.lt h.nums
 refine ⟨h.old.grown hg fun c hc => ?_, h.ws, Nat.le_trans h.big hg.size, World.ownsRow.kept h.nums hg ?_, ?_, fun j hj => ?_, fun p q hp hq he => ?_, fun j hj he => ?_, fun j hj he => ?_, ?_, fun e he => ?_⟩
 ·have := (World.ownsRow.lt h.own c hc).1; have := h.ws; omega
 ·rcases h.s3 with h3 | h3
  ·exact Or.inl h3
  ·exact Or.inr (Ne.symm h3)
 ·have e : (List.range (k + 1)).map (fun j => Value.slice (some ⟨if j = k then b else bk j, 0, none⟩) N N) = (List.range k).map (fun j => Value.slice (some ⟨bk j, 0, none⟩) N N) ++ [.slice (some ⟨b, 0, none⟩) N N] := by
   rw [List.range_succ, List.map_append]
   congr 1
   ·refine List.map_congr_left fun j hj => ?_
    have := List.mem_range.1 hj
    rw [if_neg (by omega)]
   ·simp
  rw [e]
  exact hown
 ·by_cases hjk : j = k
  ·subst hjk
   simp only [if_true]
   exact ⟨hb, hF.grown hg hub⟩
  ·rw [if_neg hjk]
   exact ⟨(h.full j (by omega)).1, (h.full j (by omega)).2.grown hg (h.s2 j (by omega))⟩
 ·by_cases h1 : p = k
  ·by_cases h2 : q = k
   ·omega
   ·rw [if_pos h1, if_neg h2] at he
    exact absurd he.symm (hnb q (by omega))
  ·by_cases h2 : q = k
   ·rw [if_neg h1, if_pos h2] at he
    exact absurd he (hnb p (by omega))
   ·rw [if_neg h1, if_neg h2] at he
    exact h.inj p q (by omega) (by omega) he
 ·by_cases hjk : j = k
  ·subst hjk
   simp only [if_true] at he
   exact hvb he
  ·rw [if_neg hjk] at he
   exact h.s1 j (by omega) he
 ·have he' : g = if j = k then b else bk j := by simpa [Value.ownBlock] using he
  by_cases hjk : j = k
  ·rw [if_pos hjk] at he'
   rcases hat with h1 | h1
   ·exact hub (by rw [h1, he'])
   ·have := hF.lt; omega
  ·rw [if_neg hjk] at he'
   rcases hat with h1 | h1
   ·exact h.s2 j (by omega) (by rw [h1, he'])
   ·have := (h.full j (by omega)).2.lt; omega
 ·cases hvo : v.ownBlock with
  | none => exact Or.inl rfl
  | some c =>
   refine Or.inr fun he => ?_
   have he' : g = c := by simpa [Value.ownBlock] using he
   have hc := (hv c hvo).2
   rcases hat with h1 | h1
   ·rcases h.s3 with h3 | h3
    ·rw [h3] at hvo; cases hvo
    ·exact h3 (by rw [h1, hvo, he'])
   ·omega
 ·obtain ⟨h1, h2, h3, h4, h5⟩ := h.prot e he
  refine ⟨(hg.block _ (zag h1) (Ne.symm h4)).trans h1, h2, h3, fun hc => ?_, fun j hj => ?_⟩
  ·have hc' : g = e.1 := by simpa [Value.ownBlock] using hc
   rcases hat with h6 | h6
   ·exact h4 (by rw [h6, hc'])
   ·have := zag h1; omega
  ·by_cases hjk : j = k
   ·rw [if_pos hjk]; exact hkb e he
   ·rw [if_neg hjk]; exact h5 j (by omega)
theorem Ly.cell (h : Ly W s N Ks T Bs i k v u bk w) {r p : Nat} (hr : r < k) (x : Int) : Ly W s N Ks T (fun j => if j = r then (fun q => if q = p then x else Bs r q) else Bs j) i k v u bk (w.setCell ⟨bk r, p, none⟩ (.int .u64 x)) := by
 have hb := (h.full r hr).1
 have hg : (w.setCell ⟨bk r, p, none⟩ (.int .u64 x)).heap.size = w.heap.size := by simp
 refine ⟨h.old.setCell (p := ⟨bk r, p, none⟩) (by have := h.ws; show W.heap.size <= bk r; omega) _, h.ws, by rw [hg]; exact h.big, own_oth8 h.nums (p := ⟨bk r, p, none⟩) (h.s1 r hr) _, own_oth8 h.own (p := ⟨bk r, p, none⟩) (h.s2 r hr) _, fun j hj => ?_, h.inj, h.s1, h.s2, h.s3, fun e he => ?_⟩
 ·by_cases hjr : j = r
  ·subst hjr
   rw [if_pos rfl]
   exact ⟨hb, (h.full j hj).2.set p x⟩
  ·rw [if_neg hjr]
   exact ⟨(h.full j hj).1, (h.full j hj).2.other (p := ⟨bk r, p, none⟩) (fun hc => hjr (h.inj j r hj hr hc)) _⟩
 ·obtain ⟨h1, h2, h3, h4, h5⟩ := h.prot e he
  exact ⟨(Below.heap_setCell _ ⟨bk r, p, none⟩ _ _ (Ne.symm (h5 r hr))).trans h1, h2, h3, h4, h5⟩
theorem Ly.congr {Bs' : NN} (h : Ly W s N Ks T Bs i k v u bk w) (he : ∀ j, j < k -> ∀ q, q < N -> Bs j q = Bs' j q) : Ly W s N Ks T Bs' i k v u bk w :=
 ⟨h.old, h.ws, h.big, h.nums, h.own, fun j hj => ⟨(h.full j hj).1, (h.full j hj).2.congr (he j hj)⟩, h.inj, h.s1, h.s2, h.s3, h.prot⟩
theorem Ly.less {Ks' : List (Nat × Obj)} (h : Ly W s N Ks T Bs i k v u bk w) (he : ∀ e, e ∈ Ks' -> e ∈ Ks) : Ly W s N Ks' T Bs i k v u bk w :=
 ⟨h.old, h.ws, h.big, h.nums, h.own, h.full, h.inj, h.s1, h.s2, h.s3, fun e hm => h.prot e (he e hm)⟩
theorem Ly.more (h : Ly W s N Ks T Bs i k v u bk w) (o : Obj) : Ly W s N ((w.heap.size, o) :: Ks) T Bs i k v u bk (w.alloc o) := by
 have h' := h.old' ((Old.refl _).alloc o)
 refine ⟨h'.old, h'.ws, h'.big, h'.nums, h'.own, h'.full, h.inj, h.s1, h.s2, h.s3, fun e he => ?_⟩
 rcases List.mem_cons.1 he with rfl | he
 ·refine ⟨heap_alloc_new w o, by have := h.big; show w.heap.size ≠ s; omega, fun hc => ?_, fun hc => ?_, fun j hj hc => ?_⟩
  ·have := (World.ownsRow.lt h.nums _ hc).2; exact Nat.lt_irrefl _ this
  ·have := (World.ownsRow.lt h.own _ hc).2; exact Nat.lt_irrefl _ this
  ·have := (h.full j hj).2.lt; rw [hc] at this; exact Nat.lt_irrefl _ this
 ·exact h'.prot e he
end
structure LayS (W : World) (s n : Nat) (Ks : List (Nat × Obj)) (T : NI) (Bs : NN) (k : Nat) (v u : Value) (bk : Nat -> Nat) (wx : World) : Prop where
 ly : Ly W s (7 * n + 3) Ks T Bs k k v u bk wx
 row : wx.heap[s]? = some (.cells #[.int .i64 (n : Int), v, u] 109 (0, 0))
section
variable {W w wx w' : World} {s n : Nat} {Ks : List (Nat × Obj)} {T : NI} {Bs : NN} {k : Nat} {v u : Value} {bk : Nat -> Nat}
theorem LayS.old' (h : LayS W s n Ks T Bs k v u bk wx) (ho : Old wx w') : LayS W s n Ks T Bs k v u bk w' := ⟨h.ly.old' ho, (ho.block _ h.ly.big).trans h.row⟩
theorem LayS.congr {Bs' : NN} (h : LayS W s n Ks T Bs k v u bk w) (he : ∀ j, j < k -> ∀ q, q < 7 * n + 3 -> Bs j q = Bs' j q) : LayS W s n Ks T Bs' k v u bk w := ⟨h.ly.congr he, h.row⟩
theorem LayS.less {Ks' : List (Nat × Obj)} (h : LayS W s n Ks T Bs k v u bk w) (he : ∀ e, e ∈ Ks' -> e ∈ Ks) : LayS W s n Ks' T Bs k v u bk w := ⟨h.ly.less he, h.row⟩
theorem LayS.more (h : LayS W s n Ks T Bs k v u bk w) (o : Obj) : LayS W s n ((w.heap.size, o) :: Ks) T Bs k v u bk (w.alloc o) := ⟨h.ly.more o, (((Old.refl w).alloc o).block _ h.ly.big).trans h.row⟩
theorem LayS.cell (h : LayS W s n Ks T Bs k v u bk w) {r p : Nat} (hr : r < k) (x : Int) : LayS W s n Ks T (fun j => if j = r then (fun q => if q = p then x else Bs r q) else Bs j) k v u bk (w.setCell ⟨bk r, p, none⟩ (.int .u64 x)) :=
 ⟨h.ly.cell hr x, (Below.heap_setCell _ ⟨bk r, p, none⟩ _ _ (by have := (h.ly.full r hr).1; show s ≠ bk r; omega)).trans h.row⟩
end
end
section
open Go.RowKit
theorem zbn {a b : Int} (h : a = b) : Ending.returned (.int .i64 a) = .returned (.int .i64 b) := by rw [h]
theorem lm_r (s n i : Nat) (v u : Value) (w : World) (hn : n <= 8) (hi : i <= 100) (h : w.heap[s]? = some (.cells #[.int .i64 (n : Int), v, u] 109 (0, 0))) : Calls prog 115 #[.pointer (some ⟨s, 0, none⟩), .int .i64 (i : Int)] w (Ret w (.int .i64 ((n + i : Nat) : Int))) := by
 have c0 : w.cell? ⟨s, 0, none⟩ = some (.int .i64 (n : Int)) := Y0 h
 clear h
 go_enter func115, ntmps115
 go_wp2_with fail
 go_ret
 exact ⟨zbn (by omega), Old.refl _⟩
theorem lm_b (s n i : Nat) (v u : Value) (w : World) (hn : n <= 8) (hi : i <= 100) (h : w.heap[s]? = some (.cells #[.int .i64 (n : Int), v, u] 109 (0, 0))) : Calls prog 116 #[.pointer (some ⟨s, 0, none⟩), .int .i64 (i : Int)] w (Ret w (.int .i64 ((2 * n + i : Nat) : Int))) := by
 have c0 : w.cell? ⟨s, 0, none⟩ = some (.int .i64 (n : Int)) := Y0 h
 clear h
 go_enter func116, ntmps116
 go_wp2_with fail
 go_ret
 exact ⟨zbn (by omega), Old.refl _⟩
theorem lm_s (s n i : Nat) (v u : Value) (w : World) (hn : n <= 8) (hi : i <= 100) (h : w.heap[s]? = some (.cells #[.int .i64 (n : Int), v, u] 109 (0, 0))) : Calls prog 117 #[.pointer (some ⟨s, 0, none⟩), .int .i64 (i : Int)] w (Ret w (.int .i64 ((3 * n + i : Nat) : Int))) := by
 have c0 : w.cell? ⟨s, 0, none⟩ = some (.int .i64 (n : Int)) := Y0 h
 clear h
 go_enter func117, ntmps117
 go_wp2_with fail
 go_ret
 exact ⟨zbn (by omega), Old.refl _⟩
theorem lm_d (s n i : Nat) (v u : Value) (w : World) (hn : n <= 8) (hi : i <= 100) (h : w.heap[s]? = some (.cells #[.int .i64 (n : Int), v, u] 109 (0, 0))) : Calls prog 118 #[.pointer (some ⟨s, 0, none⟩), .int .i64 (i : Int)] w (Ret w (.int .i64 ((4 * n + i : Nat) : Int))) := by
 have c0 : w.cell? ⟨s, 0, none⟩ = some (.int .i64 (n : Int)) := Y0 h
 clear h
 go_enter func118, ntmps118
 go_wp2_with fail
 go_ret
 exact ⟨zbn (by omega), Old.refl _⟩
theorem lm_u (s n i : Nat) (v u : Value) (w : World) (hn : n <= 8) (hi : i <= 100) (h : w.heap[s]? = some (.cells #[.int .i64 (n : Int), v, u] 109 (0, 0))) : Calls prog 119 #[.pointer (some ⟨s, 0, none⟩), .int .i64 (i : Int)] w (Ret w (.int .i64 ((5 * n + i : Nat) : Int))) := by
 have c0 : w.cell? ⟨s, 0, none⟩ = some (.int .i64 (n : Int)) := Y0 h
 clear h
 go_enter func119, ntmps119
 go_wp2_with fail
 go_ret
 exact ⟨zbn (by omega), Old.refl _⟩
theorem lm_t (s n i : Nat) (v u : Value) (w : World) (hn : n <= 8) (hi : i <= 100) (h : w.heap[s]? = some (.cells #[.int .i64 (n : Int), v, u] 109 (0, 0))) : Calls prog 120 #[.pointer (some ⟨s, 0, none⟩), .int .i64 (i : Int)] w (Ret w (.int .i64 ((6 * n + i : Nat) : Int))) := by
 have c0 : w.cell? ⟨s, 0, none⟩ = some (.int .i64 (n : Int)) := Y0 h
 clear h
 go_enter func120, ntmps120
 go_wp2_with fail
 go_ret
 exact ⟨zbn (by omega), Old.refl _⟩
theorem lm_rho (s n i : Nat) (v u : Value) (w : World) (hn : n <= 8) (hi : i <= 100) (h : w.heap[s]? = some (.cells #[.int .i64 (n : Int), v, u] 109 (0, 0))) : Calls prog 123 #[.pointer (some ⟨s, 0, none⟩), .int .i64 (i : Int)] w (Ret w (.int .i64 ((7 * n + i : Nat) : Int))) := by
 have c0 : w.cell? ⟨s, 0, none⟩ = some (.int .i64 (n : Int)) := Y0 h
 clear h
 go_enter func123, ntmps123
 go_wp2_with fail
 go_ret
 exact ⟨zbn (by omega), Old.refl _⟩
theorem lm_tLast (s n : Nat) (v u : Value) (w : World) (h1 : 0 < n) (hn : n <= 8) (h : w.heap[s]? = some (.cells #[.int .i64 (n : Int), v, u] 109 (0, 0))) : Calls prog 122 #[.pointer (some ⟨s, 0, none⟩)] w (Ret w (.int .i64 ((7 * n - 1 : Nat) : Int))) := by
 have c0 : w.cell? ⟨s, 0, none⟩ = some (.int .i64 (n : Int)) := Y0 h
 clear h
 go_enter func122, ntmps122
 go_wp2_with fail
 go_ret
 exact ⟨zbn (by omega), Old.refl _⟩
theorem lm_a (s i : Nat) (w : World) : Calls prog 114 #[.pointer (some ⟨s, 0, none⟩), .int .i64 (i : Int)] w (Ret w (.int .i64 (i : Int))) := by
 go_enter func114, ntmps114
 go_wp2_with fail
 go_ret
 exact ⟨rfl, Old.refl _⟩
theorem ssize_any (n : Nat) (w : World) (hn : n <= 80) : Calls prog 125 #[.int .i64 (n : Int)] w (Ret w (.int .i64 ((7 * n + 3 : Nat) : Int))) := by
 go_enter func125, ntmps125
 go_wp2_with fail
 go_ret
 exact ⟨zbn (by omega), Old.refl _⟩
def ones8 (B : NN) (k : Nat) : Nat -> Nat -> Int := fun j => if j < k then B j else fun _ => 1
theorem ladd_any (W : World) (s n : Nat) (Ks : List (Nat × Obj)) (T : NI) (B : NN) (k : Nat) (v u : Value) (bk : Nat -> Nat) (x : Int) (w : World) (hn : n <= 8) (hk : k <= 100) (hx : T k = x) (h : LayS W s n Ks T B k v u bk w) :
  Calls prog 113 #[.pointer (some ⟨s, 0, none⟩), .int .u64 x] w fun e w' => ∃ v' u' b, e = .returned (.slice (some ⟨b, 0, none⟩) (7 * n + 3) (7 * n + 3)) /\ LayS W s n Ks T (ones8 B k) (k + 1) v' u' (fun j => if j = k then b else bk j) w' := by
 have HL : Hid (LayS W s n Ks T B k v u bk w) := h
 have c0 : w.cell? ⟨s, 0, none⟩ = some (.int .i64 (n : Int)) := Y0 h.row
 have HX : Hid (T k = x) := hx
 obtain ⟨N, hN⟩ : ∃ N, N = 7 * n + 3 := ⟨_, rfl⟩
 have HS : Hid (∀ wx, Calls prog 125 #[.int .i64 (n : Int)] wx (Ret wx (.int .i64 (N : Int)))) := fun wx => by rw [hN]; exact ssize_any n wx (by omega)
 have hN8 : N <= 80 := by omega
 have HNe : Hid (N = 7 * n + 3) := hN
 clear h hx hN
 have hmk := zaP N hN8
 obtain ⟨i0, hi0, hz0, hz1, hz2⟩ := info_parts zbj
 obtain ⟨i1, hi1, hy0, hy1, hy2⟩ := info_parts slinfo
 go_enter func113, ntmps113
 go_upto_region 2 with (go_at_call 125; refine (HS.out _).mono ?_; rintro e w1 ⟨rfl, o1⟩)
 have HF0 := zaC w1 N (fun _ => 1)
 have HW1 : Hid (Old w (w1.alloc (.cells (madeCells #[Value.int .u64 0] N) 22))) := o1.alloc _
 have hb1 : w.heap.size <= w1.heap.size := o1.size
 clear c0 o1
 generalize w1.alloc (.cells (madeCells #[Value.int .u64 0] N) 22) = W1 at *
 generalize w1.heap.size = b at *
 go_upto_region 3 with fail
 go_loopw [15] (fun iv wx => ∃ i : Nat, iv = .int .i64 (i : Int) /\ i <= N /\ Hid (Full wx b N (upTo i (fun _ => 1))) /\ Hid (Old w wx)) (fun iv _ => N - (intOf iv).toNat)
 case atStart => exact ⟨0, rfl, Nat.zero_le _, HF0, HW1⟩
 case round =>
  obtain ⟨i, rfl, hi, HN, HO⟩ := hrel
  by_cases hlt : i < N
  ·have q0 := HN.out.cell i hlt
   have f0 := HN.out.free i
   have HG : Hid (Full (wr.setCell ⟨b, i, none⟩ (.int .u64 1)) b N (upTo (i + 1) (fun _ => 1))) := HN.out.next
   have HG2 : Hid (Old w (wr.setCell ⟨b, i, none⟩ (.int .u64 1))) := HO.out.setCell hb1 _
   go_wp2_with fail
   go_roundw
   case rel => exact ⟨i + 1, zab i, by omega, HG, HG2⟩
   case measure => simp [intOf]; omega
  ·have he : N = i := by omega
   subst he
   have HD : Hid (Full wr b N (fun _ => 1)) := HN.out.done
   have HL1 : Hid (LayS W s n Ks T B k v u bk wr) := HL.out.old' HO.out
   have hrow := HL1.out.row
   have HM : Hid (v.ownBlock ≠ some b /\ u.ownBlock ≠ some b /\ (∀ j, j < k -> bk j ≠ b) /\ (∀ e, e ∈ Ks -> b ≠ e.1) /\ s + 1 <= b) := by
    have hl := HL.out.ly
    refine ⟨fun he => ?_, fun he => ?_, fun j hj he => ?_, fun e hm he => ?_, ?_⟩
    ·have := (World.ownsRow.lt hl.nums b he).2; omega
    ·have := (World.ownsRow.lt hl.own b he).2; omega
    ·have := (hl.full j hj).2.lt; omega
    ·have := zag (hl.prot e hm).1; omega
    ·have := hl.big; omega
   have c1 : wr.cell? ⟨s, 1, none⟩ = some v := Y1 hrow
   have hs8 := HL1.out.ly.big
   clear hrow HN HL HF0 HO HW1
   have HF1 : Hid (Full wr b N (fun _ => 1)) := HD
   have HLo : Hid (LayS W s n Ks T (ones8 B k) k v u bk wr) := HL1.out.congr fun j hj q _ => by unfold ones8; rw [if_pos hj]
   have hBk : ones8 B k k = fun _ => 1 := by unfold ones8; rw [if_neg (Nat.lt_irrefl k)]
   have HFo : Hid (Full wr b N (ones8 B k k)) := by unfold Hid; rw [hBk]; exact HF1.out
   obtain ⟨Bo, hBo⟩ : ∃ Bo, Bo = ones8 B k := ⟨_, rfl⟩
   rw [<- hBo] at HLo HFo
   have HBo : Hid (Bo = ones8 B k) := hBo
   clear hBo hBk
   obtain ⟨hly, hrw⟩ := HLo.out
   rw [<- HNe.out] at hly
   have HA : Hid (Ly W s N Ks T Bo k k v u bk wr) := hly
   have HAr : Hid (wr.heap[s]? = some (.cells #[.int .i64 (n : Int), v, u] 109 (0, 0))) := hrw
   clear HD HF1 HL1 HLo hly hrw HS hmk
   go_wp2_with (at_builtin; refine wpList_append_lies _ rfl _ _ 29 rfl (s + 1) 22 i0 (.int .u64 0) 1 8 U29 hi0 hz0 hz1 hz2 rfl (by decide) _ _ _ rfl (World.ownsRow.alloc HA.out.nums _) ⟨wr.heap.size, 0, none⟩ 1 1 [.int .u64 x] rfl rfl ?c1 ?c2 (by decide) ?c3 ?c4 ?c5 _ rfl ?_)
   case c1 => exact cell_one_new _ _ _
   case c2 => intro u hu; simp at hu; subst hu; rfl
   case c3 => unfold maxLen; omega
   case c4 => omega
   case c5 => simp; omega
   intro g5 cap5 w5 hown5 hgrow5 hat5 _
   have HB : Hid (Ly W s N Ks T Bo (k + 1) k (.slice (some ⟨g5, 0, none⟩) (k + 1) cap5) u bk w5) := (HA.out.old' ((Old.refl _).alloc _)).tgt HX.out hown5 hgrow5 (by simpa using hat5)
   have HFb : Hid (Full w5 b N (Bo k)) := (HFo.out.old ((Old.refl _).alloc _)).grown hgrow5 HM.out.1
   have HBr : Hid (w5.heap[s]? = some (.cells #[.int .i64 (n : Int), v, u] 109 (0, 0))) := by
    unfold Hid
    rw [hgrow5.block s (by simp; omega) (fun e => by have := (World.ownsRow.lt HA.out.nums _ e.symm).1; omega), Below.heap_alloc _ _ _ (by omega)]
    exact HAr.out
   have hvb : Hid ((Value.slice (some ⟨g5, 0, none⟩) (k + 1) cap5).ownBlock ≠ some b) := by
    intro he
    have he' : g5 = b := by simpa [Value.ownBlock] using he
    rcases hat5 with h1 | h1
    ·exact HM.out.1 (by rw [h1, he'])
    ·have := HFo.out.lt; first | omega | (simp at h1; omega)
   clear hown5 hgrow5 hat5 HA HAr c1 hs8 HFo
   have q0 : w5.cell? ⟨s, 1, none⟩ = some v := Y1 HBr.out
   have f0 : w5.frozen? ⟨s, 1, none⟩ = false := zac HBr.out 1
   go_upto_region 8 with fail
   have HC : Hid (Ly W s N Ks T Bo (k + 1) k (.slice (some ⟨g5, 0, none⟩) (k + 1) cap5) u bk (w5.setCell ⟨s, 1, none⟩ (.slice (some ⟨g5, 0, none⟩) (k + 1) cap5))) := HB.out.set 1 _
   have HFc : Hid (Full (w5.setCell ⟨s, 1, none⟩ (.slice (some ⟨g5, 0, none⟩) (k + 1) cap5)) b N (Bo k)) := HFb.out.other (p := ⟨s, 1, none⟩) (by have := HM.out.2.2.2.2; show b ≠ s; omega) _
   have HCr : Hid ((w5.setCell ⟨s, 1, none⟩ (.slice (some ⟨g5, 0, none⟩) (k + 1) cap5)).heap[s]? = some (.cells #[.int .i64 (n : Int), .slice (some ⟨g5, 0, none⟩) (k + 1) cap5, u] 109 (0, 0))) := by have := zaq HBr.out 1 (.slice (some ⟨g5, 0, none⟩) (k + 1) cap5); unfold Hid; simpa using this
   clear HB HFb HBr q0 f0
   generalize w5.setCell ⟨s, 1, none⟩ (.slice (some ⟨g5, 0, none⟩) (k + 1) cap5) = w6 at *
   have c2 : w6.cell? ⟨s, 2, none⟩ = some u := Y2 HCr.out
   have hs6 : s + 1 <= w6.heap.size := HC.out.big
   go_wp2_with (at_builtin; refine wpList_append_lies _ rfl _ _ 48 rfl (s + 1) 29 i1 (.slice none 0 0) 1 24 U48 hi1 hy0 hy1 hy2 rfl (by decide) _ _ _ rfl (World.ownsRow.alloc HC.out.own _) ⟨w6.heap.size, 0, none⟩ 1 1 [.slice (some ⟨b, 0, none⟩) N N] rfl rfl ?c1 ?c2 (by decide) ?c3 ?c4 ?c5 _ rfl ?_)
   case c1 => exact cell_one_new _ _ _
   case c2 => intro x hx; simp at hx; subst hx; rfl
   case c3 => unfold maxLen; omega
   case c4 => omega
   case c5 => simp; omega
   intro g8 cap8 w8 hown8 hgrow8 hat8 _
   have HD : Hid (Ly W s N Ks T Bo (k + 1) (k + 1) (.slice (some ⟨g5, 0, none⟩) (k + 1) cap5) (.slice (some ⟨g8, 0, none⟩) (k + 1) cap8) (fun j => if j = k then b else bk j) w8) := (HC.out.old' ((Old.refl _).alloc _)).bas HM.out.2.2.2.2 (HFc.out.old ((Old.refl _).alloc _)) hvb.out HM.out.2.1 HM.out.2.2.1 HM.out.2.2.2.1 hown8 hgrow8 (by simpa using hat8)
   have HDr : Hid (w8.heap[s]? = some (.cells #[.int .i64 (n : Int), .slice (some ⟨g5, 0, none⟩) (k + 1) cap5, u] 109 (0, 0))) := by
    unfold Hid
    rw [hgrow8.block s (by simp; omega) (fun e => by have := (World.ownsRow.lt HC.out.own _ e.symm).1; omega), Below.heap_alloc _ _ _ (by omega)]
    exact HCr.out
   clear hown8 hgrow8 hat8 HC HCr c2 hs6 HFc
   have q1 : w8.cell? ⟨s, 2, none⟩ = some u := Y2 HDr.out
   have f1 : w8.frozen? ⟨s, 2, none⟩ = false := zac HDr.out 2
   have HE : Hid (LayS W s n Ks T Bo (k + 1) (.slice (some ⟨g5, 0, none⟩) (k + 1) cap5) (.slice (some ⟨g8, 0, none⟩) (k + 1) cap8) (fun j => if j = k then b else bk j) (w8.setCell ⟨s, 2, none⟩ (.slice (some ⟨g8, 0, none⟩) (k + 1) cap8))) := ⟨by have := HD.out.set 2 (.slice (some ⟨g8, 0, none⟩) (k + 1) cap8); rwa [HNe.out] at this, by have := zaq HDr.out 2 (.slice (some ⟨g8, 0, none⟩) (k + 1) cap8); simpa using this⟩
   clear HD HDr
   go_wp2_with fail
   go_ret
   refine ⟨.slice (some ⟨g5, 0, none⟩) (k + 1) cap5, .slice (some ⟨g8, 0, none⟩) (k + 1) cap8, b, by rw [<- HNe.out]; rfl, ?_⟩
   rw [<- HBo.out]
   exact HE.out
def hidI (Q : Int) (F : NI) (v : Int) (T : NI) : Nat -> Int
 | 0 => v
 | i + 1 => addI (mulI (hidI Q F v T i) (F (i + 1)) Q) (T (i + 1)) Q
theorem hid_u64 {Q v : Int} (hv : U64 v) (F T : NI) : ∀ i, U64 (hidI Q F v T i)
 | 0 => hv
 | _ + 1 => zba _ _ _
def bakI (Q : Int) (B : NI) (R : NN) (w : Nat) : Nat -> Int
 | 0 => 0
 | i + 1 => subI (bakI Q B R w i) (mulI (B i) (R i w) Q) Q
theorem zcQ (a b m : Int) : U64 (subI a b m) := ⟨(zec _ _ _).1, Int.le_trans (zec _ _ _).2 (by decide)⟩
theorem bak_u64 (Q : Int) (B : NI) (R : NN) (w : Nat) : ∀ i, U64 (bakI Q B R w i)
 | 0 => ⟨by show (0 : Int) <= 0; omega, by show (0 : Int) <= _; omega⟩
 | _ + 1 => zcQ _ _ _
theorem slast_any (P Q G H : Int) (a : OA) (n cap : Nat) (b1 : OA) (m c1 : Nat) (F : NI) (v0 : Int) (b2 : OA) (m2 c2 : Nat) (T : NI) (w : World) (m0 : 0 < m) (mm : m <= 80) (h2 : m <= m2) (hv : U64 v0) (h : FacsIn w b1 m F) (hT : FacsIn w b2 m2 T) :
  Calls prog 75 #[gv P Q G H a n cap, .slice b1 m c1, .int .u64 v0, .slice b2 m2 c2] w (Ret w (.int .u64 (hidI Q F v0 T (m - 1)))) := by
 have HF := hid h
 have HTT := hid hT
 have HZ := lain1 w (gc P Q G H a n cap) 25
 have HG0 := fun w' ho => (HZ.then (W' := w') ho).row 0 (by simp)
 have HW0 := hid HZ.old
 clear HZ h hT
 go_enter func75, ntmps75
 go_upto_region 1 with fail
 generalize w.alloc (.cells (gc P Q G H a n cap) 25) = W at *
 have HG := hid HG0
 clear HG0
 go_upto_region 3 with fail
 go_loopw [9, 10] (fun v iv wx => ∃ i : Nat, iv = .int .i64 ((i + 1 : Nat) : Int) /\ i + 1 <= m /\ v = .int .u64 (hidI Q F v0 T i) /\ Hid (Old W wx)) (fun _ iv _ => m - (intOf iv).toNat)
 case atStart => exact ⟨0, rfl, by omega, rfl, Old.refl _⟩
 case round =>
  obtain ⟨i, rfl, hi, rfl, HO⟩ := hrel
  by_cases hlt : i + 1 < m
  ·rcases HF.out with h0 | ⟨bx, ox, rfl, _, hrx⟩
   ·omega
   rcases HTT.out with h0 | ⟨by_, oy, rfl, _, hry⟩
   ·omega
   have HA : ∀ wx, Old wr wx -> wx.cell? ⟨bx, ox + (i + 1), none⟩ = some (.int .u64 (F (i + 1))) := fun wx hx => ((HW0.out.trans HO.out).trans hx).cellOf (hrx (i + 1) hlt).1
   have HB : ∀ wx, Old wr wx -> wx.cell? ⟨by_, oy + (i + 1), none⟩ = some (.int .u64 (T (i + 1))) := fun wx hx => ((HW0.out.trans HO.out).trans hx).cellOf (hry (i + 1) (by omega)).1
   have HGr : ∀ wx, Old wr wx -> wx.heap[w.heap.size]? = some (.cells (gc P Q G H a n cap) 25 (0, 0)) := fun wx hx => HG.out _ (HO.out.trans hx)
   have HAu := hid ((hrx (i + 1) hlt).2)
   have HBu := hid ((hry (i + 1) (by omega)).2)
   clear hrx hry
   go_upto_region 5 with fail
   refine zaa 15 [.k (.int .u64 (hidI Q F v0 T i)), .k (.slice (some ⟨bx, ox, none⟩) m c1), .k (.int .i64 ((i + 1 : Nat) : Int)), .k (.pointer (some ⟨bx, ox + (i + 1), none⟩)), .k (.int .u64 (F (i + 1))), .k (.pointer (some ⟨w.heap.size, 1, none⟩)), .k (.int .u64 Q), .k (.int .u64 (mulI (hidI Q F v0 T i) (F (i + 1)) Q)), .k (.slice (some ⟨by_, oy, none⟩) m2 c2), .k (.int .i64 ((i + 1 : Nat) : Int)), .k (.pointer (some ⟨by_, oy + (i + 1), none⟩)), .k (.int .u64 (T (i + 1))), .k (.pointer (some ⟨w.heap.size, 1, none⟩)), .k (.int .u64 Q), .k (.int .u64 (hidI Q F v0 T (i + 1)))] (Old wr) (by kernel_rfl) (by kernel_rfl) rfl ((Old.refl _).drew) ?st ?_
   case st =>
    refine .p <| .p <| .p <| .c (sti (n := m) (c := c1) (i := i + 1) hlt U29) <| .c (stl U22 HA) <| .p <| .c (stf 1 U22 HGr) <| .c (stK old_R func72 (fun wx _ => zdf _ _ Q (hid_u64 hv F T i) HAu.out wx)) <| .p <| .p <| .c (sti (n := m2) (c := c2) (i := i + 1) (by omega) U29) <| .c (stl U22 HB) <| .p <| .c (stf 1 U22 HGr) <| .c (stK old_R func71 (fun wx _ => sadd_any _ _ Q (zaI _ _ _) HBu.out wx)) .n
   intro t wx hR hk
   simp only [fill, Ent.val, zs0, zs1, zd1, zd0, zdn]
   have HO2 := hid (HO.out.trans hR)
   clear hR hk HA HB HGr
   go_wp2_with fail
   go_roundw
   case rel => exact ⟨i + 1, by simp, by omega, rfl, HO2⟩
   case measure => simp [intOf]; omega
  ·obtain ⟨q, rfl⟩ : ∃ q, m = q + 1 := ⟨m - 1, by omega⟩
   have he : q = i := by omega
   subst he
   go_wp2_with fail
   go_ret
   exact ⟨rfl, HW0.out.trans HO.out⟩
theorem sback_any (P Q G H : Int) (a : OA) (n cap : Nat) (b1 : OA) (m c1 : Nat) (B : NI) (b2 : OA) (m2 c2 : Nat) (Rh : NN) (w : World) (mm : m <= 80) (h2 : m <= m2) (h : FacsIn w b1 m B) (hR0 : RhoIn w b2 m2 Rh) :
  Calls prog 76 #[gv P Q G H a n cap, .slice b1 m c1, .slice b2 m2 c2] w (GivF w 3 (fun k => bakI Q B Rh k m)) := by
 have HB := hid h
 have HRh := hid hR0
 have HZ := lain1 w (gc P Q G H a n cap) 25
 have HG0 := fun w' ho => (HZ.then (W' := w') ho).row 0 (by simp)
 have HW0 := hid HZ.old
 clear HZ h hR0
 obtain ⟨F, hF⟩ : ∃ F : Nat -> Nat -> Int, F = fun i k => bakI Q B Rh k i := ⟨_, rfl⟩
 have HFe : Hid (∀ i k, F i k = bakI Q B Rh k i) := fun i k => by rw [hF]
 have e0 : (fun k => bakI Q B Rh k m) = F m := by rw [hF]
 rw [e0]
 clear e0 hF
 have hmk : ∀ wx, (Instr.makeSlice 29 (.int .i64 3) (.int .i64 3)).run prog wx = .ok (.slice (some ⟨wx.heap.size, 0, none⟩) 3 3) (wx.alloc (.cells (madeCells #[Value.int .u64 0] 3) 22)) := zaP 3 (by omega)
 go_enter func76, ntmps76
 go_upto_region 1 with fail
 generalize w.alloc (.cells (gc P Q G H a n cap) 25) = W at *
 have HG := hid HG0
 clear HG0
 go_upto_region 2 with fail
 have HFu := zaC W 3 (F m)
 have HW1 : Hid (Old W (W.alloc (.cells (madeCells #[Value.int .u64 0] 3) 22))) := (Old.refl W).alloc _
 generalize W.alloc (.cells (madeCells #[Value.int .u64 0] 3) 22) = W1 at *
 go_upto_region 3 with fail
 go_loopw [14] (fun iv wx => ∃ q : Nat, iv = .int .i64 (q : Int) /\ q <= 3 /\ Hid (Full wx W.heap.size 3 (upTo q (F m))) /\ Hid (Old W wx)) (fun iv _ => 3 - (intOf iv).toNat)
 case atStart => exact ⟨0, rfl, Nat.zero_le _, HFu, HW1⟩
 case round =>
  obtain ⟨q, rfl, hq, HN, HO⟩ := hrel
  by_cases hlt : q < 3
  ·have k1 : (q : Int) < 3 := by omega
   have HS0 : Hid (Full wr W.heap.size 3 (fun k => if k = q then F 0 q else upTo q (F m) k)) := HN.out.congr fun k hk => by
    by_cases hkq : k = q
    ·subst hkq
     rw [if_pos rfl, HFe.out]
     simp [upTo, bakI]
    ·rw [if_neg hkq]
   clear HN
   go_upto_region 6 with fail
   go_loopw [19] (fun iv wx => ∃ i : Nat, iv = .int .i64 (i : Int) /\ i <= m /\ Hid (Full wx W.heap.size 3 (fun k => if k = q then F i q else upTo q (F m) k)) /\ Hid (Old W wx)) (fun iv _ => m - (intOf iv).toNat)
   case atStart => exact ⟨0, rfl, Nat.zero_le _, HS0, HO⟩
   case round =>
    obtain ⟨i, rfl, hi, HN, HO⟩ := hrel
    by_cases hil : i < m
    ·rcases HB.out with h0 | ⟨bx, ox, hqx, _, hrx⟩
     ·omega
     rcases HRh.out with h0 | ⟨by_, oy, hqy, _, hry⟩
     ·omega
     have cx := (HW0.out.trans HO.out).cellOf (hrx i hil).1
     have HBu := hid ((hrx i hil).2)
     have HRu := hid ((hry i (by omega) q hlt).2)
     have HRc := hid fun wx (hx : Old wr wx) => ((HW0.out.trans HO.out).trans hx).cellOf (hry i (by omega) q hlt).1
     have HLc : Hid (∀ wx, Old wr wx -> wx.cell? ⟨W.heap.size, q, none⟩ = some (.int .u64 (F i q))) := fun wx hx => by have := (HN.out.old hx).cell q hlt; rwa [if_pos rfl] at this
     have HGr := hid fun wx (hx : Old wr wx) => HG.out _ (HO.out.trans hx)
     clear hrx hry
     subst hqx hqy
     go_upto_region 8 with fail
     refine zaa 20 [.k (.slice (some ⟨W.heap.size, 0, none⟩) 3 3), .k (.int .i64 (q : Int)), .k (.slice (some ⟨W.heap.size, 0, none⟩) 3 3), .k (.int .i64 (q : Int)), .k (.pointer (some ⟨W.heap.size, q, none⟩)), .k (.int .u64 (F i q)), .k (.int .u64 (B i)), .k (.slice (some ⟨by_, oy, none⟩) m2 c2), .k (.int .i64 (i : Int)), .k (.int .i64 (q : Int)), .k (.pointer (some ⟨by_, oy + i * 3, none⟩)), .k (.pointer (some ⟨by_, oy + i * 3 + q, none⟩)), .k (.int .u64 (Rh i q)), .k (.pointer (some ⟨w.heap.size, 1, none⟩)), .k (.int .u64 Q), .k (.int .u64 (mulI (B i) (Rh i q) Q)), .k (.pointer (some ⟨w.heap.size, 1, none⟩)), .k (.int .u64 Q), .k (.int .u64 (F (i + 1) q)), .k (.pointer (some ⟨W.heap.size, q, none⟩))] (Old wr) (by kernel_rfl) (by kernel_rfl) rfl ((Old.refl _).drew) ?st ?_
     case st =>
      refine .p <| .p <| .p <| .p <| .c (sti0 (n := 3) (c := 3) hlt U29) <| .c (stl U22 HLc.out) <| .p <| .p <| .p <| .p <| .c (stj (n := m2) (c := c2) 3 (by omega) U28) <| .c (sai hlt U63) <| .c (stl U22 HRc.out) <| .p <| .c (stf 1 U22 HGr.out) <| .c (stK old_R func72 (fun wx _ => zdf _ _ Q HBu.out HRu.out wx)) <| .p <| .c (stf 1 U22 HGr.out) <| .c (stK old_R func108 (fun wx _ => by have h := ssub_any (F i q) (mulI (B i) (Rh i q) Q) Q (by rw [HFe.out]; exact bak_u64 Q B Rh q i) (zaI _ _ _) wx; rwa [show subI (F i q) (mulI (B i) (Rh i q) Q) Q = F (i + 1) q by rw [HFe.out, HFe.out]; rfl] at h)) <| .c (sti0 (n := 3) (c := 3) hlt U29) .n
     intro t wx hR hk
     simp only [fill, Ent.val, zs0, zs1, zd1, zd0, zdn]
     have HNx := HN.out.old hR
     have q0 := HNx.cell q hlt
     have f0 := HNx.free q
     have HG1 : Hid (Full (wx.setCell ⟨W.heap.size, q, none⟩ (.int .u64 (F (i + 1) q))) W.heap.size 3 (fun k => if k = q then F (i + 1) q else upTo q (F m) k)) := (HNx.set q _).congr fun k hk => by
      by_cases hkq : k = q
      ·rw [if_pos hkq, if_pos hkq]
      ·rw [if_neg hkq, if_neg hkq, if_neg hkq]
     have HG2 : Hid (Old W (wx.setCell ⟨W.heap.size, q, none⟩ (.int .u64 (F (i + 1) q)))) := (HO.out.trans hR).setCell (Nat.le_refl _) _
     clear hR hk HNx HRc HLc HGr
     go_wp2_with fail
     go_roundw
     case rel => exact ⟨i + 1, zab i, by omega, HG1, HG2⟩
     case measure => simp [intOf]; omega
    ·have he : m = i := by omega
     subst he
     have HD : Hid (Full wr W.heap.size 3 (upTo (q + 1) (F m))) := HN.out.congr fun k hk => by
      by_cases hkq : k = q
      ·subst hkq
       simp [upTo]
      ·rw [if_neg hkq]
       unfold upTo
       by_cases h : k < q
       ·rw [if_pos h, if_pos (by omega)]
       ·rw [if_neg h, if_neg (by omega)]
     go_wp2_with fail
     go_roundw
     case rel => exact ⟨q + 1, zab q, by omega, HD, HO⟩
     case measure => simp [intOf]; omega
  ·have he : q = 3 := by omega
   subst he
   have HD := hid HN.out.done
   go_wp2_with fail
   go_ret
   exact ⟨HW0.out.trans HO.out, W.heap.size, HW0.out.size, rfl, HD.out⟩
abbrev dv (bρ : OA) (nρ cρ : Nat) (bR : OA) (nR cR : Nat) (bS : OA) (nS cS : Nat) (bT : OA) (nT cT : Nat) (bD : OA) (nD cD : Nat) : Value := .agg #[.slice bρ nρ cρ, .slice bR nR cR, .slice bS nS cS, .slice bT nT cT, .slice bD nD cD]
abbrev dvc (bρ : OA) (nρ cρ : Nat) (bR : OA) (nR cR : Nat) (bS : OA) (nS cS : Nat) (bT : OA) (nT cT : Nat) (bD : OA) (nD cD : Nat) : Array Value := #[.slice bρ nρ cρ, .slice bR nR cR, .slice bS nS cS, .slice bT nT cT, .slice bD nD cD]
def thiI (P Q G H X Y Z : Int) (A B O T : NI) : Nat -> Int
 | 0 => bigI P Q G (A 0) (B 0) Y Z
 | i + 1 => mulI (expI P Q (thiI P Q G H X Y Z A B O T i) (facI Q X Y Z (O (i + 1) + 1))) (expI P Q H (T (i + 1))) P
theorem zb5 (P Q G H X Y Z : Int) (A B O T : NI) : ∀ i, U64 (thiI P Q G H X Y Z A B O T i)
 | 0 => u64_over _ _ _
 | _ + 1 => zaI _ _ _
theorem u64_fac (Q X Y Z j : Int) : U64 (facI Q X Y Z j) := zcQ _ _ _
theorem zdk (q : Nat) (h : q <= 1000) : Value.int .i64 (IntKind.i64.wrap (((q + 1 : Nat) : Int) - 1)) = .int .i64 (q : Int) := by
 rw [IntKind.wrap_i64]
 congr 1
 omega
theorem sthird_any (P Q G H : Int) (a : OA) (n cap : Nat) (bo : OA) (no co : Nat) (O : NI) (ba : OA) (na ca : Nat) (A : NI) (X : Int) (bb : OA) (nb cb : Nat) (B : NI) (Y Z : Int) (bp : OA) (np cp : Nat) (bρ : OA) (nρ cρ : Nat) (bR : OA) (nR cR : Nat) (bS : OA) (nS cS : Nat) (bT : OA) (nT cT : Nat) (T : NI) (bD : OA) (nD cD : Nat) (w : World) (h4 : Four P Q G H) (hr : Righ P Q G) (hX : U64 X) (hY : U64 Y) (hZ : U64 Z) (mo : no <= 80) (ma : na <= 80) (mb : nb <= 80) (mT : nT <= 80) (hO : IntsIn w bo no O) (hA : FacsIn w ba na A) (hB : FacsIn w bb nb B) (hT : FacsIn w bT nT T) :
  Calls prog 24 #[gv P Q G H a n cap, .slice bo no co, tk ba na ca X bb nb cb Y Z bp np cp, dv bρ nρ cρ bR nR cR bS nS cS bT nT cT bD nD cD] w (GivL w (if ordB no O && (decide (na = no) && (decide (nb = no) && decide (nT = no))) then no else 0) (thiI P Q G H X Y Z A B O T)) := by
 have HX := hid hT
 have HZ := lain3 w (gc P Q G H a n cap) (tkc ba na ca X bb nb cb Y Z bp np cp) (dvc bρ nρ cρ bR nR cR bS nS cS bT nT cT bD nD cD) 25 41 31
 have HG0 := fun w' ho => (HZ.then (W' := w') ho).row 0 (by simp)
 have HT0 := fun w' ho => (HZ.then (W' := w') ho).row 1 (by simp)
 have HD0 := fun w' ho => (HZ.then (W' := w') ho).row 2 (by simp)
 have HW0 := hid HZ.old
 have HOr := hid fun wx (ho : Old w wx) => zbU bo no co O wx (by omega) (hO.old ho)
 have hneg : ordB no O = false ∨ (ordB no O = true /\ na ≠ no) ∨ (ordB no O = true /\ na = no /\ nb ≠ no) ∨ (ordB no O = true /\ na = no /\ nb = no /\ nT ≠ no) ∨ (ordB no O = true /\ na = no /\ nb = no /\ nT = no) := by
  cases ordB no O
  ·exact Or.inl rfl
  ·by_cases h1 : na = no
   ·by_cases h2 : nb = no
    ·by_cases h3 : nT = no
     ·exact Or.inr (Or.inr (Or.inr (Or.inr ⟨rfl, h1, h2, h3⟩)))
     ·exact Or.inr (Or.inr (Or.inr (Or.inl ⟨rfl, h1, h2, h3⟩)))
    ·exact Or.inr (Or.inr (Or.inl ⟨rfl, h1, h2⟩))
   ·exact Or.inr (Or.inl ⟨rfl, h1⟩)
 rcases hneg with ho | ⟨ho, h1⟩ | ⟨ho, rfl, h2⟩ | ⟨ho, rfl, rfl, h3⟩ | ⟨ho, rfl, rfl, rfl⟩
 ·rw [ho] at HOr
  rw [ho, Bool.false_and, if_neg (by simp)]
  clear ho hO hA hB hT h4 hr
  go_enter func24, ntmps24
  go_upto_region 1 with fail
  generalize ((w.alloc (.cells (gc P Q G H a n cap) 25)).alloc (.cells (tkc ba na ca X bb nb cb Y Z bp np cp) 41)).alloc (.cells (dvc bρ nρ cρ bR nR cR bS nS cS bT nT cT bD nD cD) 31) = W at *
  have d0 := Y0 (HT0 _ (Old.refl _))
  have d2 := Y2 (HT0 _ (Old.refl _))
  have e3 := Y3 (HD0 _ (Old.refl _))
  clear HG0
  go_wp2_with (go_at_call 50; refine (HOr.out _ HW0.out).mono ?_; rintro e w1 ⟨rfl, o1⟩; have d0 := Y0 (HT0 _ o1); have d2 := Y2 (HT0 _ o1); have e3 := Y3 (HD0 _ o1))
  go_ret
  exact zaG _ (HW0.out.trans o1)
 ·rw [ho] at HOr
  have k1 : ((na : Int) != (no : Int)) = true := by simp; omega
  have k2 : ¬ (na : Int) = (no : Int) := by omega
  rw [show (ordB no O && (decide (na = no) && (decide (nb = no) && decide (nT = no)))) = false by simp [h1], if_neg (by simp)]
  clear ho hO hA hB hT h4 hr
  go_enter func24, ntmps24
  go_upto_region 1 with fail
  generalize ((w.alloc (.cells (gc P Q G H a n cap) 25)).alloc (.cells (tkc ba na ca X bb nb cb Y Z bp np cp) 41)).alloc (.cells (dvc bρ nρ cρ bR nR cR bS nS cS bT nT cT bD nD cD) 31) = W at *
  have d0 := Y0 (HT0 _ (Old.refl _))
  have d2 := Y2 (HT0 _ (Old.refl _))
  have e3 := Y3 (HD0 _ (Old.refl _))
  clear HG0
  go_wp2_with (go_at_call 50; refine (HOr.out _ HW0.out).mono ?_; rintro e w1 ⟨rfl, o1⟩; have d0 := Y0 (HT0 _ o1); have d2 := Y2 (HT0 _ o1); have e3 := Y3 (HD0 _ o1))
  go_ret
  exact zaG _ (HW0.out.trans o1)
 ·rw [ho] at HOr
  have k1 : ((nb : Int) != (na : Int)) = true := by simp; omega
  have k2 : ¬ (nb : Int) = (na : Int) := by omega
  rw [show (ordB na O && (decide (na = na) && (decide (nb = na) && decide (nT = na)))) = false by simp [h2], if_neg (by simp)]
  clear ho hO hA hB hT h4 hr
  go_enter func24, ntmps24
  go_upto_region 1 with fail
  generalize ((w.alloc (.cells (gc P Q G H a n cap) 25)).alloc (.cells (tkc ba na ca X bb nb cb Y Z bp np cp) 41)).alloc (.cells (dvc bρ nρ cρ bR nR cR bS nS cS bT nT cT bD nD cD) 31) = W at *
  have d0 := Y0 (HT0 _ (Old.refl _))
  have d2 := Y2 (HT0 _ (Old.refl _))
  have e3 := Y3 (HD0 _ (Old.refl _))
  clear HG0
  go_wp2_with (go_at_call 50; refine (HOr.out _ HW0.out).mono ?_; rintro e w1 ⟨rfl, o1⟩; have d0 := Y0 (HT0 _ o1); have d2 := Y2 (HT0 _ o1); have e3 := Y3 (HD0 _ o1))
  go_ret
  exact zaG _ (HW0.out.trans o1)
 ·rw [ho] at HOr
  have k1 : ((nT : Int) != (nb : Int)) = true := by simp; omega
  have k2 : ¬ (nT : Int) = (nb : Int) := by omega
  rw [show (ordB nb O && (decide (nb = nb) && (decide (nb = nb) && decide (nT = nb)))) = false by simp [h3], if_neg (by simp)]
  clear ho hO hA hB hT h4 hr
  go_enter func24, ntmps24
  go_upto_region 1 with fail
  generalize ((w.alloc (.cells (gc P Q G H a n cap) 25)).alloc (.cells (tkc ba nb ca X bb nb cb Y Z bp np cp) 41)).alloc (.cells (dvc bρ nρ cρ bR nR cR bS nS cS bT nT cT bD nD cD) 31) = W at *
  have d0 := Y0 (HT0 _ (Old.refl _))
  have d2 := Y2 (HT0 _ (Old.refl _))
  have e3 := Y3 (HD0 _ (Old.refl _))
  clear HG0
  go_wp2_with (go_at_call 50; refine (HOr.out _ HW0.out).mono ?_; rintro e w1 ⟨rfl, o1⟩; have d0 := Y0 (HT0 _ o1); have d2 := Y2 (HT0 _ o1); have e3 := Y3 (HD0 _ o1))
  go_ret
  exact zaG _ (HW0.out.trans o1)
 ·rw [ho] at HOr
  have hP := zaA.1 ho
  rw [show (ordB nT O && (decide (nT = nT) && (decide (nT = nT) && decide (nT = nT)))) = true by simp [ho], if_pos rfl]
  clear ho
  have HB0 : Hid (∀ i, i < nT -> 0 <= O i /\ O i < 1000) := fun i hi => by have := hP.2.1 i hi; omega
  have m0 : 0 < nT := hP.1
  have HCo := hid fun wx (hx : Old w wx) => zbK bo nT co O wx mT (hO.old hx) HB0.out
  obtain ⟨F, hF⟩ : ∃ F : Nat -> Int, F = thiI P Q G H X Y Z A B O T := ⟨_, rfl⟩
  have HF0 : Hid (F 0 = bigI P Q G (A 0) (B 0) Y Z) := by rw [hF]; exact rfl
  obtain ⟨K, hK0⟩ : ∃ K : Nat -> Int, K = fun i => O i + 1 := ⟨_, rfl⟩
  have HFs : Hid (∀ i, F (i + 1) = mulI (expI P Q (F i) (facI Q X Y Z (K (i + 1)))) (expI P Q H (T (i + 1))) P) := fun i => by rw [hF, hK0]; exact rfl
  have HFu : Hid (∀ i, U64 (F i)) := fun i => by rw [hF]; exact zb5 _ _ _ _ _ _ _ _ _ _ _ i
  have HKu : Hid (∀ i, i < nT -> U64 (K i)) := fun i hi => by rw [hK0]; have := HB0.out i hi; exact ⟨by show 0 <= O i + 1; omega, by show O i + 1 <= _; omega⟩
  have HTu : Hid (∀ i, i < nT -> U64 (T i)) := hT.u64
  have HJ : Hid (∀ wx, Old w wx -> Calls prog 63 #[gv P Q G H a n cap, tk ba nT ca X bb nT cb Y Z bp np cp, .int .i64 0] wx (Ret wx (.int .u64 (F 0)))) := fun wx hx => by rw [HF0.out]; exact zcT P Q G H a n cap ba nT ca A X bb nT cb B Y Z bp np cp 0 wx h4 hr hY hZ (hA.old hx) (hB.old hx) m0 m0
  have HEx : Hid (∀ i wx, i + 1 < nT -> Calls prog 65 #[gv P Q G H a n cap, .int .u64 (F i), .int .u64 (facI Q X Y Z (K (i + 1)))] wx (Ret wx (.int .u64 (expI P Q (F i) (facI Q X Y Z (K (i + 1))))))) := fun i wx _ => za8 P Q G H (F i) _ a n cap wx h4 hr (HFu.out i).1 (HFu.out i).2 (u64_fac _ _ _ _ _).1 (u64_fac _ _ _ _ _).2
  have HEh := hid fun i wx (hi : i < nT) => za8 P Q G H H (T i) a n cap wx h4 hr h4.h0 h4.h1 (HTu.out i hi).1 (HTu.out i hi).2
  rw [<- hF]
  rw [<- hK0] at HCo
  have H4 := hid h4
  have HRi := hid hr
  clear hF hK0 hP HB0 hO hA hB hT h4 hr HF0
  have hmk := zaP nT mT
  go_enter func24, ntmps24
  go_upto_region 1 with fail
  generalize ((w.alloc (.cells (gc P Q G H a n cap) 25)).alloc (.cells (tkc ba nT ca X bb nT cb Y Z bp np cp) 41)).alloc (.cells (dvc bρ nρ cρ bR nR cR bS nS cS bT nT cT bD nD cD) 31) = W at *
  have HG : Hid (∀ wx, Old W wx -> wx.heap[w.heap.size]? = some (.cells (gc P Q G H a n cap) 25 (0, 0))) := HG0
  have HT : Hid (∀ wx, Old W wx -> wx.heap[w.heap.size + 1]? = some (.cells (tkc ba nT ca X bb nT cb Y Z bp np cp) 41 (0, 0))) := HT0
  have HD : Hid (∀ wx, Old W wx -> wx.heap[w.heap.size + 1 + 1]? = some (.cells (dvc bρ nρ cρ bR nR cR bS nS cS bT nT cT bD nD cD) 31 (0, 0))) := HD0
  clear HG0 HT0 HD0
  have d0 := Y0 (HT.out _ (Old.refl _))
  have d2 := Y2 (HT.out _ (Old.refl _))
  have e3 := Y3 (HD.out _ (Old.refl _))
  go_upto_region 4 with (go_at_call 50; refine (HOr.out _ HW0.out).mono ?_; rintro e w1 ⟨rfl, o1⟩; have d0 := Y0 (HT.out _ o1); have d2 := Y2 (HT.out _ o1); have e3 := Y3 (HD.out _ o1))
  clear d0 d2 e3
  go_upto_region 5 with (go_at_call 58; refine (HCo.out _ (HW0.out.trans o1)).mono ?_; rintro e w2 ⟨o2, bk, hbk, rfl, hful⟩; have HK2 : Hid (Full w2 bk nT K) := hful; have HW2 : Hid (Old W w2) := o1.trans o2; clear hful)
  clear d0 d2 e3
  go_upto_region 6 with fail
  have HFz := zaC w2 nT F
  have HW3 : Hid (Old W (w2.alloc (.cells (madeCells #[Value.int .u64 0] nT) 22))) := HW2.out.alloc _
  have HK3 : Hid (Full (w2.alloc (.cells (madeCells #[Value.int .u64 0] nT) 22)) bk nT K) := HK2.out.old ((Old.refl _).alloc _)
  have hs2 := HW2.out.size
  have hne : bk ≠ w2.heap.size := by have := HK2.out.lt; omega
  generalize w2.alloc (.cells (madeCells #[Value.int .u64 0] nT) 22) = W3 at *
  generalize w2.heap.size = bl at *
  have g0 := HG.out _ HW3.out
  have t0 := HT.out _ HW3.out
  have i0 : (0 : Int) < (nT : Int) := by omega
  have dd0 := Y0 g0
  have dd1 := Y1 g0
  have dd2 := Y2 g0
  have dd3 := Y3 g0
  have dd4 := Y4 g0
  have tt0 := Y0 t0
  have tt1 := Y1 t0
  have tt2 := Y2 t0
  have tt3 := Y3 t0
  have tt4 := Y4 t0
  have tt5 := Y5 t0
  go_upto_region 7 with (go_at_call 63; refine (HJ.out _ (HW0.out.trans HW3.out)).mono ?_; rintro e w4 ⟨rfl, o4⟩; have HF4 : Hid (Full w4 bl nT (upTo 0 F)) := HFz.old o4; have q0 := HF4.out.cell 0 m0; have f0 := HF4.out.free 0)
  have HF5 : Hid (Full (w4.setCell ⟨bl, 0, none⟩ (.int .u64 (F 0))) bl nT (upTo (0 + 1) F)) := HF4.out.next
  have HK5 : Hid (Full (w4.setCell ⟨bl, 0, none⟩ (.int .u64 (F 0))) bk nT K) := (HK3.out.old o4).other (p := ⟨bl, 0, none⟩) hne _
  have HW5 : Hid (Old W (w4.setCell ⟨bl, 0, none⟩ (.int .u64 (F 0)))) := (HW3.out.trans o4).setCell hs2 _
  generalize w4.setCell ⟨bl, 0, none⟩ (.int .u64 (F 0)) = W5 at *
  clear g0 t0 dd0 dd1 dd2 dd3 dd4 tt0 tt1 tt2 tt3 tt4 tt5 q0 f0 o4 HF4 HFz
  go_upto_region 8 with fail
  go_loopw [12] (fun iv wx => ∃ i : Nat, iv = .int .i64 ((i + 1 : Nat) : Int) /\ i + 1 <= nT /\ Hid (Full wx bl nT (upTo (i + 1) F)) /\ Hid (Full wx bk nT K) /\ Hid (Old W wx)) (fun iv _ => nT - (intOf iv).toNat)
  case atStart => exact ⟨0, rfl, by omega, HF5, HK5, HW5⟩
  case round =>
   obtain ⟨i, rfl, hi1, HN, HKx, HW⟩ := hrel
   by_cases hlt : i + 1 < nT
   ·rcases HX.out with h0 | ⟨bx, ox, hqx, _, hrx⟩
    ·omega
    have HTc := hid fun wx (hx : Old wr wx) => ((HW0.out.trans HW.out).trans hx).cellOf (hrx (i + 1) hlt).1
    have HLc : Hid (∀ wx, Old wr wx -> wx.cell? ⟨bl, i, none⟩ = some (.int .u64 (F i))) := fun wx hx => by have := (HN.out.old hx).cell i (by omega); rwa [show upTo (i + 1) F i = F i by simp [upTo]] at this
    have HKc := hid fun wx (hx : Old wr wx) => (HKx.out.old hx).cell (i + 1) hlt
    have HGr := hid fun wx (hx : Old wr wx) => HG.out _ (HW.out.trans hx)
    have HTr := hid fun wx (hx : Old wr wx) => HT.out _ (HW.out.trans hx)
    have HDr : Hid (∀ wx, Old wr wx -> wx.heap[w.heap.size + 1 + 1]? = some (.cells (dvc bρ nρ cρ bR nR cR bS nS cS (some ⟨bx, ox, none⟩) nT cT bD nD cD) 31 (0, 0))) := fun wx hx => by have := HD.out _ (HW.out.trans hx); rwa [hqx] at this
    clear hrx
    subst hqx
    go_upto_region 10 with fail
    refine zaa 29 [.k (.slice (some ⟨bl, 0, none⟩) nT nT), .k (.int .i64 ((i + 1 : Nat) : Int)), .k (gv P Q G H a n cap), .k (gv P Q G H a n cap), .k (.slice (some ⟨bl, 0, none⟩) nT nT), .k (.int .i64 ((i + 1 : Nat) : Int)), .k (.int .i64 (i : Int)), .k (.pointer (some ⟨bl, i, none⟩)), .k (.int .u64 (F i)), .k (gv P Q G H a n cap), .k (tk ba nT ca X bb nT cb Y Z bp np cp), .k (.slice (some ⟨bk, 0, none⟩) nT nT), .k (.int .i64 ((i + 1 : Nat) : Int)), .k (.pointer (some ⟨bk, i + 1, none⟩)), .k (.int .u64 (K (i + 1))), .k (.int .u64 (facI Q X Y Z (K (i + 1)))), .k (.int .u64 (expI P Q (F i) (facI Q X Y Z (K (i + 1))))), .k (gv P Q G H a n cap), .k (.pointer (some ⟨w.heap.size, 3, none⟩)), .k (.int .u64 H), .k (.pointer (some ⟨w.heap.size + 1 + 1, 3, none⟩)), .k (.slice (some ⟨bx, ox, none⟩) nT cT), .k (.int .i64 ((i + 1 : Nat) : Int)), .k (.pointer (some ⟨bx, ox + (i + 1), none⟩)), .k (.int .u64 (T (i + 1))), .k (.int .u64 (expI P Q H (T (i + 1)))), two8 W.heap.size (expI P Q (F i) (facI Q X Y Z (K (i + 1)))) (expI P Q H (T (i + 1))), .k (.int .u64 (F (i + 1))), .k (.pointer (some ⟨bl, i + 1, none⟩))] (Old wr) (by kernel_rfl) (by kernel_rfl) rfl ((Old.refl _).drew) ?st ?_
    case st =>
     refine .p <| .p <| .c (sts U25 HGr.out) <| .c (sts U25 HGr.out) <| .p <| .p <| .c (stv (v' := .int .i64 (IntKind.i64.wrap (((i + 1 : Nat) : Int) - 1))) (zdk i (by omega))) <| .c (sti0 (n := nT) (c := nT) (by omega) U29) <| .c (stl U22 HLc.out) <| .c (sts U25 HGr.out) <| .c (sts U41 HTr.out) <| .p <| .p <| .c (sti0 (n := nT) (c := nT) (i := i + 1) hlt U29) <| .c (stl U22 HKc.out) <| .c (stK old_R func66 (fun wx _ => zcZ P Q G H a n cap ba nT ca X bb nT cb Y Z bp np cp _ wx hX hY hZ (HKu.out _ hlt))) <| .c (stK old_R func65 (fun wx _ => HEx.out i wx hlt)) <| .c (sts U25 HGr.out) <| .p <| .c (stf 3 U22 HGr.out) <| .p <| .c (stf 3 U29 HDr.out) <| .p <| .c (sti (n := nT) (c := cT) (i := i + 1) hlt U29) <| .c (stl U22 HTc.out) <| .c (stK old_R func65 (fun wx _ => HEh.out (i + 1) wx hlt)) <| .c (stm (ob := fun t => .cells #[.int .u64 (expI P Q (F i) (facI Q X Y Z (K (i + 1)))), .int .u64 (expI P Q H (T (i + 1)))] 22) (v := fun s => .slice (some ⟨s, 0, none⟩) 2 2) old_R fun t wx hR hd => ⟨_, rfl, zbG wx W.heap.size 2 [.int .u64 (expI P Q (F i) (facI Q X Y Z (K (i + 1)))), .int .u64 (expI P Q H (T (i + 1)))] (two7 _ _) (HW.out.trans hR).size (by omega) rfl⟩) <| .c (stC (args := fun t => #[gv P Q G H a n cap, t 26]) old_R func64 fun t wx hR hd => ?_) <| .c (sti0 (n := nT) (c := nT) (i := i + 1) hlt U29) .n
     obtain ⟨b, e, hN⟩ := hd 26 (by kernel_rfl)
     rw [e] at hN ⊢
     exact (gprod7 P Q G H a n cap _ _ H4.out HRi.out (zaz _ _ _ _) (zaz _ _ _ _) hN).mono fun r w' ⟨h, k⟩ => ⟨_, h, k, by rw [<- HFs.out i]; exact rfl⟩
    intro t wx hR hk
    simp only [fill, Ent.val, two8, zs0, zs1, zd1, zd0, zdn]
    have HNx := hid (HN.out.old hR)
    have HG1 := hid HNx.out.next
    have HKn : Hid (Full (wx.setCell ⟨bl, i + 1, none⟩ (.int .u64 (F (i + 1)))) bk nT K) := (HKx.out.old hR).other (p := ⟨bl, i + 1, none⟩) hne _
    have HG2 : Hid (Old W (wx.setCell ⟨bl, i + 1, none⟩ (.int .u64 (F (i + 1))))) := (HW.out.trans hR).setCell hs2 _
    have q0 := HNx.out.cell (i + 1) hlt
    have f0 := HNx.out.free (i + 1)
    clear hR hk HTc HLc HKc HGr HTr HDr
    go_wp2_with fail
    go_roundw
    case rel => exact ⟨i + 1, by simp, by omega, HG1, HKn, HG2⟩
    case measure => simp [intOf]; omega
   ·obtain ⟨q, rfl⟩ : ∃ q, nT = q + 1 := ⟨nT - 1, by omega⟩
    have he : q = i := by omega
    subst he
    have HDn := hid (HN.out.done.nums (Nat.le_trans HW0.out.size hs2) (by omega))
    go_wp2_with fail
    go_ret
    exact ⟨HW0.out.trans HW.out, _, rfl, HDn.out⟩
theorem cgrow_any (n : Nat) (w : World) (h0 : 0 < n) (hn : n <= 1000) :
  Calls prog 112 #[.slice none 0 0, .int .i64 (n : Int)] w fun e w' => Old w w' /\ ∃ v, e = .returned v /\ Nums w' w.heap.size v 0 (fun _ => 0) := by
 obtain ⟨i0, hi0, hz0, hz1, hz2⟩ := info_parts zbj
 have hrz : ∀ ty, (Builtin.append_ #[29, 3] ty #[.slice none 0 0, .int .i64 (n : Int)]).run prog w = .ok (.slice (some ⟨w.heap.size, 0, none⟩) n (grownCap w n 0 22)) (w.drew.alloc (.cells (#[] ++ Builtin.zeroCells #[.int .u64 0] n ++ Builtin.zeroCells #[.int .u64 0] (grownCap w n 0 22 - n)) 22)) := fun ty => by
  have h := Lib.run_append_grow_zeros (P := prog) w 29 3 ty 22 i0 (.int .u64 0) .i64 .i64 U29 U3 hi0 hz0 none 0 0 [] (run_firstCells_none w.drew _ 0 0 0) n h0 (by rw [hz1]; omega) (by omega) (by omega) (by rw [hz2]; omega) (growslice_fits (by omega) (by rw [hz2]; omega))
  rw [Nat.zero_add] at h
  exact h
 have hGn : n <= grownCap w n 0 22 := by have := grownCap_ge w n 0 22; exact this
 have hGm := grownCap_le_maxLen w n 0 22 (by unfold maxLen; omega)
 obtain ⟨G, hG⟩ : ∃ G, G = grownCap w n 0 22 := ⟨_, rfl⟩
 rw [<- hG] at hrz hGn hGm
 clear hG
 have hnum : Nums (w.drew.alloc (.cells (#[] ++ Builtin.zeroCells #[.int .u64 0] n ++ Builtin.zeroCells #[.int .u64 0] (G - n)) 22)) w.heap.size (.slice (some ⟨w.heap.size, 0, none⟩) 0 G) 0 (fun _ => 0) := World.ownsRow_made w.drew _ G (Nat.le_refl _) hGm (by simp [Builtin.zeroCells]; omega)
 have hold : Old w (w.drew.alloc (.cells (#[] ++ Builtin.zeroCells #[.int .u64 0] n ++ Builtin.zeroCells #[.int .u64 0] (G - n)) 22)) := (Old.refl w).drew.alloc _
 have hG63 : G <= 9223372036854775807 := by unfold maxLen at hGm; omega
 obtain ⟨W1, hW1⟩ : ∃ W1, W1 = w.drew.alloc (.cells (#[] ++ Builtin.zeroCells #[.int .u64 0] n ++ Builtin.zeroCells #[.int .u64 0] (G - n)) 22) := ⟨_, rfl⟩
 rw [<- hW1] at hrz hold hnum
 have HN : Hid (Old w W1 /\ Nums W1 w.heap.size (.slice (some ⟨w.heap.size, 0, none⟩) 0 G) 0 (fun _ => 0)) := ⟨hold, hnum⟩
 clear hold hnum hW1
 go_enter func112, ntmps112
 go_wp2_with (at_builtin; refine Lib.wpList_append_run _ rfl _ _ _ _ rfl _ _ rfl rfl _ _ (hrz _) ?_)
 go_ret
 exact ⟨HN.out.1, _, rfl, HN.out.2⟩
def lenS (L : Nat -> Nat) : Nat -> Nat
 | 0 => 0
 | i + 1 => lenS L i + L i
def catF (L : Nat -> Nat) (B : NN) : Nat -> Nat -> Int
 | 0 => fun _ => 0
 | i + 1 => fun k => if k < lenS L i then catF L B i k else B i (k - lenS L i)
theorem cat_low {L : Nat -> Nat} {B : NN} {i k : Nat} (h : k < lenS L i) : catF L B (i + 1) k = catF L B i k := if_pos h
theorem lenS_le {L : Nat -> Nat} {n : Nat} (h : ∀ j, j < n -> L j <= 100) : ∀ i, i <= n -> lenS L i <= 100 * i
 | 0, _ => Nat.le_refl _
 | i + 1, hi => by
  show lenS L i + L i <= _
  have := lenS_le h i (by omega)
  have := h i (by omega)
  omega
theorem nums_cat {w : World} {base k m : Nat} {v : Value} {F : NI} {G D : NI} (h : w.ownsRow base 22 1 v (k + m) ((List.range k).map (fun i => Value.int .u64 (F i)) ++ (List.range m).map (fun i => Value.int .u64 (D i)))) (h1 : ∀ i, i < k -> G i = F i) (h2 : ∀ i, i < m -> G (k + i) = D i) : Nums w base v (k + m) G := by
 unfold Nums
 have e : (List.range (k + m)).map (fun i => Value.int .u64 (G i)) = (List.range k).map (fun i => Value.int .u64 (F i)) ++ (List.range m).map (fun i => Value.int .u64 (D i)) := by
  rw [List.range_add, List.map_append, List.map_map]
  congr 1
  ·exact List.map_congr_left fun i hi => by rw [h1 i (List.mem_range.1 hi)]
  ·exact List.map_congr_left fun i hi => by show Value.int .u64 (G (k + i)) = _; rw [h2 i (List.mem_range.1 hi)]
 rw [e]
 exact h
theorem concat_any (bb : OA) (nb cb : Nat) (BA : Nat -> Option Addr) (L C : Nat -> Nat) (B : NN) (w : World) (hnb : nb <= 9) (hL : ∀ j, j < nb -> L j <= 100) (hpos : 0 < lenS L nb) (hA : ∀ j, j < nb -> ∃ b o, BA j = some ⟨b, o, none⟩) (hB : ListsIn w bb nb BA L C B) :
  Calls prog 73 #[.slice bb nb cb] w (GivL w (lenS L nb) (catF L B nb)) := by
 have HB := hid hB
 have HL := hid hL
 have HP := hid hpos
 have HA := hid hA
 obtain ⟨i0, hi0, hz0, hz1, hz2⟩ := info_parts zbj
 clear hB hL hpos hA
 go_enter func73, ntmps73
 go_upto_region 3 with fail
 go_loopw [3, 11] (fun sv iv wx => ∃ i : Nat, iv = .int .i64 (i : Int) /\ i <= nb /\ sv = .int .i64 (lenS L i : Nat) /\ Hid (Old w wx)) (fun _ iv _ => nb - (intOf iv).toNat)
 case atStart => exact ⟨0, rfl, Nat.zero_le _, rfl, Old.refl _⟩
 case round =>
  obtain ⟨i, rfl, hi, rfl, HO⟩ := hrel
  by_cases hlt : i < nb
  ·rcases HB.out with h0 | ⟨bx, ox, hqx, _, hrx⟩
   ·omega
   have cx := HO.out.cellOf (hrx i hlt).1
   have l1 := HL.out i hlt
   have l2 := lenS_le HL.out i hi
   have HE : Hid (lenS L (i + 1) = lenS L i + L i) := rfl
   clear hrx
   subst hqx
   generalize L i = Li at *
   generalize hs : lenS L i = Si at *
   have HS := hid HE.out
   clear hs HE
   have k1 : IntKind.i64.wrap ((Si : Int) + (Li : Int)) = ((Si + Li : Nat) : Int) := by rw [IntKind.wrap_i64]; omega
   have k2 : ¬ ((Si + Li : Nat) : Int) < 0 := by omega
   have k3 : wrap64 ((Si : Int) + (Li : Int)) = ((Si + Li : Nat) : Int) := by unfold wrap64; omega
   go_wp2_with fail
   go_roundw
   case rel => exact ⟨i + 1, zab i, by omega, by rw [HS.out]; first | rfl | simp, HO⟩
   case measure => simp [intOf]; omega
  ·have he : nb = i := by omega
   subst he
   have l2 := lenS_le HL.out nb (Nat.le_refl _)
   have HG : Hid (∀ wx, Calls prog 112 #[.slice none 0 0, .int .i64 (lenS L nb : Nat)] wx fun e w' => Old wx w' /\ ∃ v, e = .returned v /\ Nums w' wx.heap.size v 0 (fun _ => 0)) := fun wx => cgrow_any (lenS L nb) wx HP.out (by omega)
   go_upto_region 10 with (go_at_call 112; refine (HG.out _).mono ?_; rintro e w1 ⟨o1, v, rfl, hN⟩; have HN1 : Hid (Nums w1 w.heap.size v 0 (catF L B 0)) := hN.mono HO.out.size; have HO1 : Hid (Old w w1) := HO.out.trans o1; clear hN o1)
   go_upto_region 11 with fail
   go_loopw [6, 27] (fun v iv wx => ∃ i : Nat, iv = .int .i64 (i : Int) /\ i <= nb /\ Hid (Nums wx w.heap.size v (lenS L i) (catF L B i)) /\ Hid (Old w wx)) (fun _ iv _ => nb - (intOf iv).toNat)
   case atStart => exact ⟨0, rfl, Nat.zero_le _, HN1, HO1⟩
   case round =>
    obtain ⟨i, rfl, hi, HN, HO2⟩ := hrel
    by_cases hlt : i < nb
    ·rcases HB.out with h0 | ⟨bx, ox, hqx, _, hrx⟩
     ·omega
     have cx := HO2.out.cellOf (hrx i hlt).1
     have HFi := hid ((hrx i hlt).2.2.2.old HO2.out)
     have l1 := HL.out i hlt
     have l2 := lenS_le HL.out i hi
     clear hrx
     subst hqx
     obtain ⟨ba, oa, hba⟩ := HA.out i hlt
     rw [hba] at cx HFi
     have hnews : ∀ j u, ((List.range (L i)).map (fun k => Value.int .u64 (B i k)))[j]? = some u -> wr.cell? ((⟨ba, oa, none⟩ : Addr).add j) = some u := fun j u hj => by
      have hadd : (⟨ba, oa, none⟩ : Addr).add j = ⟨ba, oa + j, none⟩ := by unfold Addr.add; split <;> simp_all
      rw [hadd]
      rw [List.getElem?_map] at hj
      by_cases hjl : j < L i
      ·rw [List.getElem?_range hjl] at hj
       rcases HFi.out with h0 | ⟨b2, o2, e2, _, h2⟩
       ·omega
       ·cases e2
        simp only [Option.map_some, Option.some.injEq] at hj
        rw [(h2 j hjl).1, hj]
      ·rw [List.getElem?_eq_none (by simpa using hjl)] at hj
       cases hj
     have HNe : Hid (lenS L (i + 1) = lenS L i + L i) := rfl
     have HCe : Hid (∀ k, k < lenS L i -> catF L B (i + 1) k = catF L B i k) := fun k hk => cat_low hk
     have HCf : Hid (∀ k, k < L i -> catF L B (i + 1) (lenS L i + k) = B i k) := fun k hk => by
      show (if lenS L i + k < lenS L i then _ else B i (lenS L i + k - lenS L i)) = _
      rw [if_neg (by omega), Nat.add_sub_cancel_left]
     have HNw := hid hnews
     clear hnews hba HFi
     generalize hG1 : catF L B (i + 1) = G1 at *
     have HG1 := hid hG1
     clear hG1
     generalize catF L B i = G0 at *
     generalize hS1 : lenS L (i + 1) = S1 at *
     generalize lenS L i = S0 at *
     generalize L i = Li at *
     have HN1 := hid hS1
     clear hS1
     go_wp2_with (at_builtin; refine wpList_append_own _ rfl _ _ 29 rfl w.heap.size 22 i0 (.int .u64 0) 1 8 U29 hi0 hz0 hz1 hz2 rfl (by decide) _ _ _ rfl HN.out ⟨ba, oa, none⟩ Li _ ((List.range Li).map (fun k => Value.int .u64 (B i k))) rfl ?c1 HNw.out ?c2 ?c3 ?c4 ?c5 ?_)
     case c1 => simp
     case c2 => intro u hu; simp at hu; obtain ⟨_, _, rfl⟩ := hu; rfl
     case c3 => unfold maxLen; omega
     case c4 => omega
     case c5 => exact HO2.out.size
     intro v' w1 hown' hgrow hne
     have HN3 : Hid (Nums w1 w.heap.size v' S1 G1) := by
      have := nums_cat hown' HCe.out HCf.out
      unfold Hid
      rw [HNe.out]
      exact this
     have HO3 : Hid (Old w w1) := by
      refine HO2.out.grown hgrow fun k hk => (World.ownsRow.lt HN.out k hk).1
     clear hown' hgrow hne
     go_wp2_with fail
     go_roundw
     case rel => exact ⟨i + 1, zab i, by omega, by rw [HN1.out, HG1.out]; exact HN3, HO3⟩
     case measure => simp [intOf]; omega
    ·have he : nb = i := by omega
     subst he
     go_wp2_with fail
     go_ret
     exact ⟨HO2.out, _, rfl, HN.out⟩
end
end Go.Proofs.YtlnmjbbpenhdbaaGreat
