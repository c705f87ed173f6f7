/-
  What the proof needs, part 12.
-/
import Derived.Test.YtlnmjbbpenhdbaaGreatKp10
namespace Go.Proofs.YtlnmjbbpenhdbaaGreat
open Tryz
open List renaming set_cons_zero → Ls0, set_cons_succ → Ls1, drop_succ_cons → Ld1, drop_zero → Ld0, drop_nil → Ldn
open Tryz renaming underlying22 → U22, underlying25 → U25, underlying28 → U28, underlying29 → U29
set_option linter.unusedSimpArgs false
set_option linter.unusedVariables false
set_option maxRecDepth 100000
set_option maxHeartbeats 32000000
section
open Go.RowKit
theorem run_tail {P : Program} {a : Act} {wx : World} {dst : Option Tmp} {ty : TypeId} {pos : String} {after : Array Edge} {guard : Option (Nat × Bool)} {T e : TypeId} {x : Operand} {b off m c : Nat} (hm : 0 < m) (hc : m <= c) (h63 : c <= 9223372036854775807) (hu : P.underlying T = some (.slice e)) (hs : (P.info? e).map (·.size) = some 1) (hx : a.eval x = .slice (some ⟨b, off, none⟩) m c) : (execOp a.eval ⟨dst, .slice T x (some (.const (.int .i64 1))) none none, ty, pos, after, guard⟩).run P wx = .ok (.value (.slice (some ⟨b, if c = 1 then off else off + 1, none⟩) (m - 1) (c - 1))) wx := by
 obtain ⟨z, h1, h2⟩ := Option.map_eq_some_iff.1 hs
 have k1 : ¬ m < 1 := by omega
 have k2 : (1 : Int) <= (m : Int) := by omega
 have k3 : ¬ (m : Int) < 1 := by omega
 simp only [execOp, hx]
 by_cases hc1 : c = 1
 ·simp [Instr.sliceAt, Instr.slice, run_underlying hu, sizeOf, typeInfo, h1, h2, hc1, Act.eval, go_sem]
  intro h
  exact absurd h k3
 ·have k4 : ¬ 1 = c := fun h => hc1 h.symm
  simp [Instr.sliceAt, Instr.slice, run_underlying hu, sizeOf, typeInfo, h1, h2, hc1, k4, Act.eval, go_sem]
  intro h
  exact absurd h k3
theorem stB {P : Program} {ops : List Oper} {L0 : List Value} {E : List Ent} {R : World -> Prop} {e : Ent} {dst : Option Tmp} {ty : TypeId} {pos : String} {after : Array Edge} {guard : Option (Nat × Bool)} {T : TypeId} {n : Nat} {parts : Array (Nat × Operand)} {parts' : (Nat -> Value) -> Array (Nat × Value)} (hR : ∀ w w', R w -> Old w w' -> R w') (h : ∀ (t : Nat -> Value) (wx : World), R wx -> (∀ k, (after.any fun e => Region.binds .any e && e.on == k) = true -> okAt E k (t k) wx) -> ∃ ob v, (Instr.buildSlice T n (parts' t)).run P wx = .ok v (wx.alloc ob) /\ e.ok v (wx.alloc ob)) (hg : zao E ⟨dst, .buildSlice T n parts, ty, pos, after, guard⟩ = some true := by rfl) (hp : ∀ t, (parts.map fun (i, x) => (i, Act.eval ⟨(fill ops E t 0 L0).toArray, []⟩ x)) = parts' t := by intro _; kernel_rfl) : StepT P ops L0 E R ⟨dst, .buildSlice T n parts, ty, pos, after, guard⟩ e := by
 refine ⟨fun t wx hRx hd => ?_⟩
 obtain ⟨ob, v, h1, h2⟩ := h t wx hRx hd
 rw [hg]
 dsimp only
 have hrun : (execOp (Act.eval ⟨(fill ops E t 0 L0).toArray, []⟩) ⟨dst, .buildSlice T n parts, ty, pos, after, guard⟩).run P wx = .ok (.value v) (wx.alloc ob) := by
  simp only [execOp, hp t, Sem.run_bind, h1, Result.andThen_ok, Sem.run_pure]
 rw [hrun]
 exact ResT.old hR hRx ((Old.refl _).alloc _) h2
def fulE (base k : Nat) (F : NI) : Ent := .u (fun v w => ∃ b, v = .slice (some ⟨b, 0, none⟩) k k /\ base <= b /\ Full w b k F) fun _ _ _ ⟨b, e, hb, h⟩ ho => ⟨b, e, hb, h.old ho⟩
def l9 (n : Nat) : Nat -> Nat
 | 6 => n - 1
 | 7 => 1
 | 8 => 3
 | _ => n
def b9 (F0 F1 F2 F3 F4 F5 F6 : NI) (v : Int) (F8 : NI) : Nat -> Nat -> Int
 | 0 => F0
 | 1 => F1
 | 2 => F2
 | 3 => F3
 | 4 => F4
 | 5 => F5
 | 6 => F6
 | 7 => fun _ => v
 | _ => F8
def lst9 (b0 b1 b2 b3 b4 b5 b6 b7 b8 : Nat) : Nat -> Option Addr
 | 0 => some ⟨b0, 0, none⟩
 | 1 => some ⟨b1, 0, none⟩
 | 2 => some ⟨b2, 0, none⟩
 | 3 => some ⟨b3, 0, none⟩
 | 4 => some ⟨b4, 0, none⟩
 | 5 => some ⟨b5, 0, none⟩
 | 6 => some ⟨b6, 0, none⟩
 | 7 => some ⟨b7, 0, none⟩
 | _ => some ⟨b8, 0, none⟩
theorem lst9_some (b0 b1 b2 b3 b4 b5 b6 b7 b8 : Nat) : ∀ j, j < 9 -> ∃ b o, lst9 b0 b1 b2 b3 b4 b5 b6 b7 b8 j = some ⟨b, o, none⟩
 | 0, _ => ⟨_, _, rfl⟩
 | 1, _ => ⟨_, _, rfl⟩
 | 2, _ => ⟨_, _, rfl⟩
 | 3, _ => ⟨_, _, rfl⟩
 | 4, _ => ⟨_, _, rfl⟩
 | 5, _ => ⟨_, _, rfl⟩
 | 6, _ => ⟨_, _, rfl⟩
 | 7, _ => ⟨_, _, rfl⟩
 | 8, _ => ⟨_, _, rfl⟩
theorem l9_le {n : Nat} (h : n <= 97) (j : Nat) : l9 n j <= 100 := by
 unfold l9
 split <;> omega
def ls9E (n : Nat) (B : NN) : Ent := .u (fun v w => ∃ b BA, v = .slice (some ⟨b, 0, none⟩) 9 9 /\ ListsIn w (some ⟨b, 0, none⟩) 9 BA (l9 n) (l9 n) B /\ ∀ j, j < 9 -> ∃ b o, BA j = some ⟨b, o, none⟩) fun _ _ _ ⟨b, BA, e, h, k⟩ ho => ⟨b, BA, e, h.old ho, k⟩
theorem len9 (n : Nat) (h : 0 < n) : lenS (l9 n) 9 = 7 * n + 3 := by
 simp only [lenS, l9]
 omega
theorem cat9 {n : Nat} (h : 0 < n) {F0 F1 F2 F3 F4 F5 F6 F8 E : NI} {v : Int} (h0 : ∀ k, k < n -> F0 k = E k) (h1 : ∀ k, k < n -> F1 k = E (n + k)) (h2 : ∀ k, k < n -> F2 k = E (2 * n + k)) (h3 : ∀ k, k < n -> F3 k = E (3 * n + k)) (h4 : ∀ k, k < n -> F4 k = E (4 * n + k)) (h5 : ∀ k, k < n -> F5 k = E (5 * n + k)) (h6 : ∀ k, k + 1 < n -> F6 k = E (6 * n + k)) (h7 : v = E (7 * n - 1)) (h8 : ∀ k, k < 3 -> F8 k = E (7 * n + k)) (k : Nat) (hk : k < 7 * n + 3) : catF (l9 n) (b9 F0 F1 F2 F3 F4 F5 F6 v F8) 9 k = E k := by
 simp only [catF, lenS, l9, b9]
 by_cases c8 : 7 * n <= k
 ·rw [if_neg (by omega), h8 _ (by omega)]
  congr 1
  omega
 rw [if_pos (by omega)]
 by_cases c7 : k = 7 * n - 1
 ·rw [if_neg (by omega), h7, c7]
 rw [if_pos (by omega)]
 by_cases c6 : 6 * n <= k
 ·rw [if_neg (by omega), h6 _ (by omega)]
  congr 1
  omega
 rw [if_pos (by omega)]
 by_cases c5 : 5 * n <= k
 ·rw [if_neg (by omega), h5 _ (by omega)]
  congr 1
  omega
 rw [if_pos (by omega)]
 by_cases c4 : 4 * n <= k
 ·rw [if_neg (by omega), h4 _ (by omega)]
  congr 1
  omega
 rw [if_pos (by omega)]
 by_cases c3 : 3 * n <= k
 ·rw [if_neg (by omega), h3 _ (by omega)]
  congr 1
  omega
 rw [if_pos (by omega)]
 by_cases c2 : 2 * n <= k
 ·rw [if_neg (by omega), h2 _ (by omega)]
  congr 1
  omega
 rw [if_pos (by omega)]
 by_cases c1 : n <= k
 ·rw [if_neg (by omega), h1 _ (by omega)]
  congr 1
  omega
 rw [if_pos (by omega), if_neg (by omega), h0 _ (by omega)]
 congr 1
theorem nums_congr {w : World} {base k : Nat} {v : Value} {F G : NI} (h : Nums w base v k F) (he : ∀ i, i < k -> F i = G i) : Nums w base v k G := by
 unfold Nums at h ⊢
 rwa [List.map_congr_left (g := fun i => Value.int .u64 (G i)) fun i hi => by rw [he i (List.mem_range.1 hi)]] at h
theorem hid_vE (Q X Y Z : Int) (o : Nat -> Nat) (R S T F : NI) (n : Nat) (hF : ∀ i, i < n -> F i = dE Q X Y Z o i) : ∀ i, i < n -> hidI Q F (uE Q Y R S 0) T i = vE Q X Y Z o R S T i
 | 0, _ => rfl
 | i + 1, h => by
  show addI (mulI (hidI Q F (uE Q Y R S 0) T i) (F (i + 1)) Q) (T (i + 1)) Q = addI (mulI (vE Q X Y Z o R S T i) (dE Q X Y Z o (i + 1)) Q) (T (i + 1)) Q
  rw [hid_vE Q X Y Z o R S T F n hF i (by omega), hF (i + 1) h]
theorem bak_rhoE (Q X : Int) (o : Nat -> Nat) (Rho : NN) (B : NI) (w n : Nat) (hB : ∀ i, i < n -> B i = bE Q X o i) : ∀ i, i <= n -> bakI Q B Rho w i = rhoE Q X o Rho w i
 | 0, _ => rfl
 | i + 1, h => by
  show subI (bakI Q B Rho w i) (mulI (B i) (Rho i w) Q) Q = subI (rhoE Q X o Rho w i) (mulI (bE Q X o i) (Rho i w) Q) Q
  rw [bak_rhoE Q X o Rho B w n hB i (by omega), hB i (by omega)]
theorem red_mod {P Q G : Int} (h : Righ P Q G) (x : Int) : addI x 0 Q = x % Q := by rw [za4 h.okq, Int.add_zero]
theorem lists9 {w : World} {n b0 b1 b2 b3 b4 b5 b6 b7 b8 : Nat} {F0 F1 F2 F3 F4 F5 F6 F8 : NI} {v : Int} (t : TypeId) (f0 : Full w b0 n F0) (f1 : Full w b1 n F1) (f2 : Full w b2 n F2) (f3 : Full w b3 n F3) (f4 : Full w b4 n F4) (f5 : Full w b5 n F5) (f6 : Full w b6 (n - 1) F6) (f7 : Full w b7 1 (fun _ => v)) (f8 : Full w b8 3 F8) (hn : n <= 80) (hu : (∀ k, k < n -> U64 (F0 k) /\ U64 (F1 k) /\ U64 (F2 k) /\ U64 (F3 k) /\ U64 (F4 k) /\ U64 (F5 k)) /\ (∀ k, k < n - 1 -> U64 (F6 k)) /\ U64 v /\ ∀ k, U64 (F8 k)) :
  ListsIn (w.alloc (.cells #[.slice (some ⟨b0, 0, none⟩) n n, .slice (some ⟨b1, 0, none⟩) n n, .slice (some ⟨b2, 0, none⟩) n n, .slice (some ⟨b3, 0, none⟩) n n, .slice (some ⟨b4, 0, none⟩) n n, .slice (some ⟨b5, 0, none⟩) n n, .slice (some ⟨b6, 0, none⟩) (n - 1) (n - 1), .slice (some ⟨b7, 0, none⟩) 1 1, .slice (some ⟨b8, 0, none⟩) 3 3] t)) (some ⟨w.heap.size, 0, none⟩) 9 (lst9 b0 b1 b2 b3 b4 b5 b6 b7 b8) (l9 n) (l9 n) (b9 F0 F1 F2 F3 F4 F5 F6 v F8) := by
 obtain ⟨u1, u6, u7, u8⟩ := hu
 have ho : ∀ o : Obj, Old w (w.alloc o) := fun o => (Old.refl w).alloc o
 refine Or.inr ⟨w.heap.size, 0, rfl, by simp, fun j hj => ⟨?_, ?_, ?_, ?_⟩⟩
 ·rw [Nat.zero_add, cell_of_row _ _ j _ _ (0, 0) (heap_alloc_last _ _)]
  match j, hj with
  | 0, _ => rfl
  | 1, _ => rfl
  | 2, _ => rfl
  | 3, _ => rfl
  | 4, _ => rfl
  | 5, _ => rfl
  | 6, _ => rfl
  | 7, _ => rfl
  | 8, _ => rfl
 ·exact Nat.le_refl _
 ·match j, hj with
  | 0, _ => show n <= _; omega
  | 1, _ => show n <= _; omega
  | 2, _ => show n <= _; omega
  | 3, _ => show n <= _; omega
  | 4, _ => show n <= _; omega
  | 5, _ => show n <= _; omega
  | 6, _ => show n - 1 <= _; omega
  | 7, _ => show 1 <= _; omega
  | 8, _ => show 3 <= _; omega
 ·match j, hj with
  | 0, _ => exact (f0.old (ho _)).facs fun k hk => (u1 k hk).1
  | 1, _ => exact (f1.old (ho _)).facs fun k hk => (u1 k hk).2.1
  | 2, _ => exact (f2.old (ho _)).facs fun k hk => (u1 k hk).2.2.1
  | 3, _ => exact (f3.old (ho _)).facs fun k hk => (u1 k hk).2.2.2.1
  | 4, _ => exact (f4.old (ho _)).facs fun k hk => (u1 k hk).2.2.2.2.1
  | 5, _ => exact (f5.old (ho _)).facs fun k hk => (u1 k hk).2.2.2.2.2
  | 6, _ => exact (f6.old (ho _)).facs u6
  | 7, _ => exact (f7.old (ho _)).facs fun _ _ => u7
  | 8, _ => exact (f8.old (ho _)).facs fun k _ => u8 k
theorem made3 (w : World) (n : Nat) (F : NI) (o : Obj) (ho : o = .cells (madeCells #[Value.int .u64 0] n) 22) : Full (((w.alloc o).alloc o).alloc o).drew w.heap.size n (upTo 0 F) /\ Full (((w.alloc o).alloc o).alloc o).drew (w.heap.size + 1) n (upTo 0 F) /\ Full (((w.alloc o).alloc o).alloc o).drew (w.heap.size + 1 + 1) n (upTo 0 F) := by
 subst ho
 refine ⟨(zaC w n F).old ((((Old.refl _).alloc _).alloc _).drew), ?_, ?_⟩
 ·have := (zaC (w.alloc (.cells (madeCells #[Value.int .u64 0] n) 22)) n F).old (((Old.refl _).alloc (.cells (madeCells #[Value.int .u64 0] n) 22)).drew)
  simpa using this
 ·have := (zaC ((w.alloc (.cells (madeCells #[Value.int .u64 0] n) 22)).alloc (.cells (madeCells #[Value.int .u64 0] n) 22)) n F).old (Old.refl _).drew
  simpa using this
def expB (no : Nat) (O : NI) (nρ nR nS nT : Nat) : Bool := ordB no O && (decide (nρ = no) && (decide (nR = no) && (decide (nS = no) && decide (nT = no))))
theorem sexp_any (P Q G H : Int) (a : OA) (n cap : Nat) (bo : OA) (no co : Nat) (O : NI) (ba : OA) (na ca : Nat) (X : Int) (bb : OA) (nb cb : Nat) (Y Z : Int) (bp : OA) (np cp : Nat) (bρ : OA) (nρ cρ : Nat) (Rh : NN) (bR : OA) (nR cR : Nat) (R : NI) (bS : OA) (nS cS : Nat) (S : NI) (bT : OA) (nT cT : Nat) (T : NI) (bD : OA) (nD cD : Nat) (w : World) (hr : Righ P Q G) (hX : U64 X) (hY : U64 Y) (hZ : U64 Z) (mo : no <= 10) (mT : nT <= cT) (mc : cT <= 9223372036854775807) (hO : IntsIn w bo no O) (hρ : RhoIn w bρ nρ Rh) (hR : FacsIn w bR nR R) (hS : FacsIn w bS nS S) (hT : FacsIn w bT nT T) :
  Calls prog 26 #[gv P Q G H a n cap, .slice bo no co, tk ba na ca X bb nb cb Y Z bp np cp, dv bρ nρ cρ bR nR cR bS nS cS bT nT cT bD nD cD] w (GivL w (if expB no O nρ nR nS nT then 7 * no + 3 else 0) (exF Q X Y Z no (fun i => (O i).toNat) R S T Rh)) := by
 have HZ := lain3 w (gc P Q G H a n cap) (tkc ba na ca X bb nb cb Y Z bp np cp) (dvc bρ nρ cρ bR nR cR bS nS cS bT nT cT bD nD cD) 25 41 31
 have HG0 := fun w' ho => (HZ.then (W' := w') ho).row 0 (by simp)
 have HT0 := fun w' ho => (HZ.then (W' := w') ho).row 1 (by simp)
 have HD0 := fun w' ho => (HZ.then (W' := w') ho).row 2 (by simp)
 have HW0 := hid HZ.old
 have HOr := hid fun wx (ho : Old w wx) => zfA bo no co O wx (by omega) (hO.old ho)
 have hcases : ordB no O = false ∨ (ordB no O = true /\ nρ ≠ no) ∨ (ordB no O = true /\ nρ = no /\ nR ≠ no) ∨ (ordB no O = true /\ nρ = no /\ nR = no /\ nS ≠ no) ∨ (ordB no O = true /\ nρ = no /\ nR = no /\ nS = no /\ nT ≠ no) ∨ (ordB no O = true /\ nρ = no /\ nR = no /\ nS = no /\ nT = no) := by
  cases ordB no O
  ·exact Or.inl rfl
  ·by_cases h1 : nρ = no
   ·by_cases h2 : nR = no
    ·by_cases h3 : nS = no
     ·by_cases h4 : nT = no
      ·exact Or.inr (Or.inr (Or.inr (Or.inr (Or.inr ⟨rfl, h1, h2, h3, h4⟩))))
      ·exact Or.inr (Or.inr (Or.inr (Or.inr (Or.inl ⟨rfl, h1, h2, h3, h4⟩))))
     ·exact Or.inr (Or.inr (Or.inr (Or.inl ⟨rfl, h1, h2, h3⟩)))
    ·exact Or.inr (Or.inr (Or.inl ⟨rfl, h1, h2⟩))
   ·exact Or.inr (Or.inl ⟨rfl, h1⟩)
 rcases hcases with ho | ⟨ho, h1⟩ | ⟨ho, rfl, h2⟩ | ⟨ho, rfl, rfl, h3⟩ | ⟨ho, rfl, rfl, rfl, h4⟩ | ⟨ho, rfl, rfl, rfl, rfl⟩
 ·rw [ho] at HOr
  rw [show expB no O nρ nR nS nT = false by unfold expB; rw [ho]; rfl]
  rw [if_neg (by simp)]
  clear ho hO hρ hR hS hT hr
  go_enter func26, ntmps26
  go_upto_region 1 with fail
  generalize ((w.alloc (.cells (gc P Q G H a n cap) 25)).alloc (.cells (tkc ba na ca X bb nb cb Y Z bp np cp) 41)).alloc (.cells (dvc bρ nρ cρ bR nR cR bS nS cS bT nT cT bD nD cD) 31) = W at *
  have HD := hid HD0
  clear HD0 HG0 HT0
  go_wp2_with (go_at_call 50; refine (HOr.out _ HW0.out).mono ?_; rintro e w1 ⟨rfl, o1⟩; have e0 := Y0 (HD.out _ o1); have e1 := Y1 (HD.out _ o1); have e2 := Y2 (HD.out _ o1); have e3 := Y3 (HD.out _ o1))
  go_ret
  exact zfo _ (HW0.out.trans o1)
 ·rw [ho] at HOr
  rw [show expB no O nρ nR nS nT = false by unfold expB; simp [h1]]
  have k1 : ((nρ : Int) != (no : Int)) = true := by simp; omega
  have k2 : ¬ (nρ : Int) = (no : Int) := by omega
  rw [if_neg (by simp)]
  clear ho hO hρ hR hS hT hr
  go_enter func26, ntmps26
  go_upto_region 1 with fail
  generalize ((w.alloc (.cells (gc P Q G H a n cap) 25)).alloc (.cells (tkc ba na ca X bb nb cb Y Z bp np cp) 41)).alloc (.cells (dvc bρ nρ cρ bR nR cR bS nS cS bT nT cT bD nD cD) 31) = W at *
  have HD := hid HD0
  clear HD0 HG0 HT0
  go_wp2_with (go_at_call 50; refine (HOr.out _ HW0.out).mono ?_; rintro e w1 ⟨rfl, o1⟩; have e0 := Y0 (HD.out _ o1); have e1 := Y1 (HD.out _ o1); have e2 := Y2 (HD.out _ o1); have e3 := Y3 (HD.out _ o1))
  go_ret
  exact zfo _ (HW0.out.trans o1)
 ·rw [ho] at HOr
  rw [show expB nρ O nρ nR nS nT = false by unfold expB; simp [h2]]
  have k1 : ((nR : Int) != (nρ : Int)) = true := by simp; omega
  have k2 : ¬ (nR : Int) = (nρ : Int) := by omega
  rw [if_neg (by simp)]
  clear ho hO hρ hR hS hT hr
  go_enter func26, ntmps26
  go_upto_region 1 with fail
  generalize ((w.alloc (.cells (gc P Q G H a n cap) 25)).alloc (.cells (tkc ba na ca X bb nb cb Y Z bp np cp) 41)).alloc (.cells (dvc bρ nρ cρ bR nR cR bS nS cS bT nT cT bD nD cD) 31) = W at *
  have HD := hid HD0
  clear HD0 HG0 HT0
  go_wp2_with (go_at_call 50; refine (HOr.out _ HW0.out).mono ?_; rintro e w1 ⟨rfl, o1⟩; have e0 := Y0 (HD.out _ o1); have e1 := Y1 (HD.out _ o1); have e2 := Y2 (HD.out _ o1); have e3 := Y3 (HD.out _ o1))
  go_ret
  exact zfo _ (HW0.out.trans o1)
 ·rw [ho] at HOr
  rw [show expB nR O nR nR nS nT = false by unfold expB; simp [h3]]
  have k1 : ((nS : Int) != (nR : Int)) = true := by simp; omega
  have k2 : ¬ (nS : Int) = (nR : Int) := by omega
  rw [if_neg (by simp)]
  clear ho hO hρ hR hS hT hr
  go_enter func26, ntmps26
  go_upto_region 1 with fail
  generalize ((w.alloc (.cells (gc P Q G H a n cap) 25)).alloc (.cells (tkc ba na ca X bb nb cb Y Z bp np cp) 41)).alloc (.cells (dvc bρ nR cρ bR nR cR bS nS cS bT nT cT bD nD cD) 31) = W at *
  have HD := hid HD0
  clear HD0 HG0 HT0
  go_wp2_with (go_at_call 50; refine (HOr.out _ HW0.out).mono ?_; rintro e w1 ⟨rfl, o1⟩; have e0 := Y0 (HD.out _ o1); have e1 := Y1 (HD.out _ o1); have e2 := Y2 (HD.out _ o1); have e3 := Y3 (HD.out _ o1))
  go_ret
  exact zfo _ (HW0.out.trans o1)
 ·rw [ho] at HOr
  rw [show expB nS O nS nS nS nT = false by unfold expB; simp [h4]]
  have k1 : ((nT : Int) != (nS : Int)) = true := by simp; omega
  have k2 : ¬ (nT : Int) = (nS : Int) := by omega
  rw [if_neg (by simp)]
  clear ho hO hρ hR hS hT hr
  go_enter func26, ntmps26
  go_upto_region 1 with fail
  generalize ((w.alloc (.cells (gc P Q G H a n cap) 25)).alloc (.cells (tkc ba na ca X bb nb cb Y Z bp np cp) 41)).alloc (.cells (dvc bρ nS cρ bR nS cR bS nS cS bT nT cT bD nD cD) 31) = W at *
  have HD := hid HD0
  clear HD0 HG0 HT0
  go_wp2_with (go_at_call 50; refine (HOr.out _ HW0.out).mono ?_; rintro e w1 ⟨rfl, o1⟩; have e0 := Y0 (HD.out _ o1); have e1 := Y1 (HD.out _ o1); have e2 := Y2 (HD.out _ o1); have e3 := Y3 (HD.out _ o1))
  go_ret
  exact zfo _ (HW0.out.trans o1)
 ·rw [ho] at HOr
  have hP := zaA.1 ho
  rw [show expB nT O nT nT nT nT = true by unfold expB; simp [ho], if_pos rfl]
  clear ho
  have HB0 : Hid (∀ i, i < nT -> 0 <= O i /\ O i < 1000) := fun i hi => by have := hP.2.1 i hi; omega
  have m0 : 0 < nT := hP.1
  have HCo := hid fun wx (hx : Old w wx) => zfy bo nT co O wx (by omega) (hO.old hx) HB0.out
  obtain ⟨K, hK0⟩ : ∃ K : Nat -> Int, K = fun i => O i + 1 := ⟨_, rfl⟩
  have HKe : Hid (∀ i, i < nT -> K i = (((O i).toNat : Nat) : Int) + 1) := fun i hi => by rw [hK0]; have := HB0.out i hi; show O i + 1 = _; omega
  have HKu : Hid (∀ i, i < nT -> U64 (K i)) := fun i hi => by rw [hK0]; have := HB0.out i hi; exact ⟨by show 0 <= O i + 1; omega, by show O i + 1 <= _; omega⟩
  rw [<- hK0] at HCo
  obtain ⟨Pw, hPw⟩ : ∃ F : Nat -> Int, F = fun i => powI X (K i) Q := ⟨_, rfl⟩
  obtain ⟨Fa, hFa⟩ : ∃ F : Nat -> Int, F = fun i => facI Q X Y Z (K i) := ⟨_, rfl⟩
  obtain ⟨Hi, hHi⟩ : ∃ F : Nat -> Int, F = fun i => uE Q Y R S i := ⟨_, rfl⟩
  have HPe : Hid (∀ i, Pw i = powI X (K i) Q) := fun i => by rw [hPw]
  have HFe : Hid (∀ i, Fa i = facI Q X Y Z (K i)) := fun i => by rw [hFa]
  have HHe : Hid (∀ i, Hi i = addI (mulI Y (R i) Q) (S i) Q) := fun i => by rw [hHi]; exact rfl
  obtain ⟨E, hE⟩ : ∃ E : Nat -> Int, E = exF Q X Y Z nT (fun i => (O i).toNat) R S T Rh := ⟨_, rfl⟩
  have HEx : Hid (∀ k, k < 7 * nT + 3 -> catF (l9 nT) (b9 (fun i => addI (K i) 0 Q) (fun i => addI (R i) 0 Q) Pw (fun i => addI (S i) 0 Q) Fa Hi (fun i => addI (T (i + 1)) 0 Q) (hidI Q Fa (Hi 0) T (nT - 1)) (fun k => bakI Q Pw Rh k nT)) 9 k = E k) := by
   rw [hE]
   have hq := hr.q1'
   have eP : ∀ i, i < nT -> Pw i = bE Q X (fun i => (O i).toNat) i := fun i hi => by rw [HPe.out, HKe.out i hi]; exact rfl
   have eF : ∀ i, i < nT -> Fa i = dE Q X Y Z (fun i => (O i).toNat) i := fun i hi => by rw [HFe.out, HKe.out i hi]; exact rfl
   refine fun k hk => cat9 m0 (fun i hi => ?_) (fun i hi => ?_) (fun i hi => ?_) (fun i hi => ?_) (fun i hi => ?_) (fun i hi => ?_) (fun i hi => ?_) ?_ (fun i hi => ?_) k hk
   ·rw [red_mod hr, HKe.out i hi, exF_a hi]
   ·rw [red_mod hr, exF_r hi]
   ·rw [eP i hi, exF_b hi]
   ·rw [red_mod hr, exF_s hi]
   ·rw [eF i hi, exF_d hi]
   ·rw [hHi, exF_u hi]
   ·rw [red_mod hr, exF_t hi]
   ·rw [exF_v m0, <- hid_vE Q X Y Z (fun i => (O i).toNat) R S T Fa nT eF (nT - 1) (by omega), hHi]
   ·rw [exF_w m0]
    exact bak_rhoE Q X (fun i => (O i).toNat) Rh Pw i nT eP nT (Nat.le_refl _)
  rw [<- hE]
  have HPu : Hid (∀ i, U64 (Pw i)) := fun i => by rw [HPe.out]; exact zbi _ _ _
  have HFu : Hid (∀ i, U64 (Fa i)) := fun i => by rw [HFe.out]; exact u64_fac _ _ _ _ _
  have HHu : Hid (∀ i, U64 (Hi i)) := fun i => by rw [HHe.out]; exact zba _ _ _
  have HRx := hid hR
  have HSx := hid hS
  have HTx := hid hT
  have Hρx := hid hρ
  clear hPw hFa hHi hE hK0 hP hO hρ hR hS hT HB0
  have hmk := zaP nT (by omega)
  go_enter func26, ntmps26
  go_upto_region 1 with fail
  generalize ((w.alloc (.cells (gc P Q G H a n cap) 25)).alloc (.cells (tkc ba na ca X bb nb cb Y Z bp np cp) 41)).alloc (.cells (dvc bρ nT cρ bR nT cR bS nT cS bT nT cT bD nD cD) 31) = W at *
  have HG : Hid (∀ wx, Old W wx -> wx.heap[w.heap.size]? = some (.cells (gc P Q G H a n cap) 25 (0, 0))) := HG0
  have HT : Hid (∀ wx, Old W wx -> wx.heap[w.heap.size + 1]? = some (.cells (tkc ba na ca X bb nb cb Y Z bp np cp) 41 (0, 0))) := HT0
  have HD : Hid (∀ wx, Old W wx -> wx.heap[w.heap.size + 1 + 1]? = some (.cells (dvc bρ nT cρ bR nT cR bS nT cS bT nT cT bD nD cD) 31 (0, 0))) := HD0
  clear HG0 HT0 HD0
  go_upto_region 4 with (go_at_call 50; refine (HOr.out _ HW0.out).mono ?_; rintro e w1 ⟨rfl, o1⟩; have e0 := Y0 (HD.out _ o1); have e1 := Y1 (HD.out _ o1); have e2 := Y2 (HD.out _ o1); have e3 := Y3 (HD.out _ o1))
  clear e0 e1 e2 e3
  go_upto_region 5 with (go_at_call 58; refine (HCo.out _ (HW0.out.trans o1)).mono ?_; rintro e w2 ⟨o2, bk, hbk, rfl, hful⟩; have HK2 : Hid (Full w2 bk nT K) := hful; have HW2 : Hid (Old W w2) := o1.trans o2; clear hful)
  go_cut [11, 12, 13] from 51 to 56 (fun v1 v2 v3 wx => ∃ b1 b2 b3 : Nat, v1 = .slice (some ⟨b1, 0, none⟩) nT nT /\ v2 = .slice (some ⟨b2, 0, none⟩) nT nT /\ v3 = .slice (some ⟨b3, 0, none⟩) nT nT /\ b1 ≠ b2 /\ b1 ≠ b3 /\ b2 ≠ b3 /\ w2.heap.size <= b1 /\ w2.heap.size <= b2 /\ w2.heap.size <= b3 /\ Hid (Full wx b1 nT (upTo 0 Pw)) /\ Hid (Full wx b2 nT (upTo 0 Fa)) /\ Hid (Full wx b3 nT (upTo 0 Hi)) /\ Hid (Old w2 wx))
  case first =>
   go_region
   all_goals
    go_wp2_with fail
    go_meet
    case rel => exact ⟨_, _, _, rfl, rfl, rfl, by omega, by omega, by omega, by omega, by omega, by omega, by first | exact (made3 w2 nT Pw _ rfl).1 | exact (made3 w2 nT Pw _ rfl).2.1 | exact (made3 w2 nT Pw _ rfl).2.2, by first | exact (made3 w2 nT Fa _ rfl).1 | exact (made3 w2 nT Fa _ rfl).2.1 | exact (made3 w2 nT Fa _ rfl).2.2, by first | exact (made3 w2 nT Hi _ rfl).1 | exact (made3 w2 nT Hi _ rfl).2.1 | exact (made3 w2 nT Hi _ rfl).2.2, (((((Old.refl w2).alloc _).alloc _).alloc _).drew)⟩
  obtain ⟨b1, b2, b3, rfl, rfl, rfl, n12, n13, n23, g1, g2, g3, HF1, HF2, HF3, HO3⟩ := hcut
  have hs2 := HW2.out.size
  have hbk2 := HK2.out.lt
  have HKc0 : Hid (Full wc bk nT K) := HK2.out.old HO3.out
  have HWc : Hid (Old W wc) := HW2.out.trans HO3.out
  have nk1 : bk ≠ b1 := by omega
  have nk2 : bk ≠ b2 := by omega
  have nk3 : bk ≠ b3 := by omega
  have w1' : W.heap.size <= b1 := by omega
  have w2' : W.heap.size <= b2 := by omega
  have w3' : W.heap.size <= b3 := by omega
  clear HK2 HW2 HO3 g1 g2 g3 hbk2 hs2
  go_upto_region 7 with fail
  go_loopw [59] (fun iv wx => ∃ i : Nat, iv = .int .i64 (i : Int) /\ i <= nT /\ Hid (Full wx b1 nT (upTo i Pw)) /\ Hid (Full wx b2 nT (upTo i Fa)) /\ Hid (Full wx b3 nT (upTo i Hi)) /\ Hid (Full wx bk nT K) /\ Hid (Old W wx)) (fun iv _ => nT - (intOf iv).toNat)
  case atStart => exact ⟨0, rfl, Nat.zero_le _, HF1, HF2, HF3, HKc0, HWc⟩
  case round =>
   obtain ⟨i, rfl, hi1, HN1, HN2, HN3, HKx, HW⟩ := hrel
   by_cases hlt : i < nT
   ·have ck := HKx.out.cell i hlt
    have hPc : ∀ wx, Calls prog 61 #[.int .u64 X, .int .u64 (K i), .int .u64 Q] wx (Ret wx (.int .u64 (Pw i))) := fun wx => by rw [HPe.out]; exact zdZ X (K i) Q hX (HKu.out i hlt) wx
    have HPc : Hid (∀ wx, Calls prog 61 #[.int .u64 X, .int .u64 (K i), .int .u64 Q] wx (Ret wx (.int .u64 (Pw i)))) := hPc
    have HFc : Hid (∀ wx, Calls prog 66 #[gv P Q G H a n cap, tk ba na ca X bb nb cb Y Z bp np cp, .int .u64 (K i)] wx (Ret wx (.int .u64 (Fa i)))) := fun wx => by rw [HFe.out]; exact zcX P Q G H a n cap ba na ca X bb nb cb Y Z bp np cp (K i) wx hX hY hZ (HKu.out i hlt)
    clear hPc
    go_upto_region 9 with fail
    have x1 := Y1 (HT.out _ HW.out)
    have x2 := Y1 (HG.out _ HW.out)
    go_upto_region 10 with (go_at_call 61; refine (HPc.out _).mono ?_; rintro e w4 ⟨rfl, o4⟩; have hf4 := HN1.out.old o4; have q1 := hf4.cell i hlt; have f1 := hf4.free i)
    have HA1 : Hid (Full (w4.setCell ⟨b1, i, none⟩ (.int .u64 (Pw i))) b1 nT (upTo (i + 1) Pw)) := hf4.next
    have HA2 : Hid (Full (w4.setCell ⟨b1, i, none⟩ (.int .u64 (Pw i))) b2 nT (upTo i Fa)) := (HN2.out.old o4).other (p := ⟨b1, i, none⟩) (Ne.symm n12) _
    have HA3 : Hid (Full (w4.setCell ⟨b1, i, none⟩ (.int .u64 (Pw i))) b3 nT (upTo i Hi)) := (HN3.out.old o4).other (p := ⟨b1, i, none⟩) (Ne.symm n13) _
    have HAk : Hid (Full (w4.setCell ⟨b1, i, none⟩ (.int .u64 (Pw i))) bk nT K) := (HKx.out.old o4).other (p := ⟨b1, i, none⟩) nk1 _
    have HAW : Hid (Old W (w4.setCell ⟨b1, i, none⟩ (.int .u64 (Pw i)))) := (HW.out.trans o4).setCell w1' _
    generalize w4.setCell ⟨b1, i, none⟩ (.int .u64 (Pw i)) = w5 at *
    clear x1 x2 q1 f1 hf4 o4 ck HN1 HN2 HN3 HKx HW
    have x0 := HG.out _ HAW.out
    have y0 := HT.out _ HAW.out
    have d0 := Y0 x0
    have d1 := Y1 x0
    have d2 := Y2 x0
    have d3 := Y3 x0
    have d4 := Y4 x0
    have t0 := Y0 y0
    have t1 := Y1 y0
    have t2 := Y2 y0
    have t3 := Y3 y0
    have t4 := Y4 y0
    have t5 := Y5 y0
    clear x0 y0
    go_upto_region 11 with (go_at_call 66; refine (HFc.out _).mono ?_; rintro e w6 ⟨rfl, o6⟩; have hf6 := HA2.out.old o6; have q1 := hf6.cell i hlt; have f1 := hf6.free i)
    have HB1 : Hid (Full (w6.setCell ⟨b2, i, none⟩ (.int .u64 (Fa i))) b1 nT (upTo (i + 1) Pw)) := (HA1.out.old o6).other (p := ⟨b2, i, none⟩) n12 _
    have HB2 := hid hf6.next
    have HB3 : Hid (Full (w6.setCell ⟨b2, i, none⟩ (.int .u64 (Fa i))) b3 nT (upTo i Hi)) := (HA3.out.old o6).other (p := ⟨b2, i, none⟩) (Ne.symm n23) _
    have HBk : Hid (Full (w6.setCell ⟨b2, i, none⟩ (.int .u64 (Fa i))) bk nT K) := (HAk.out.old o6).other (p := ⟨b2, i, none⟩) nk2 _
    have HBW : Hid (Old W (w6.setCell ⟨b2, i, none⟩ (.int .u64 (Fa i)))) := (HAW.out.trans o6).setCell w2' _
    generalize w6.setCell ⟨b2, i, none⟩ (.int .u64 (Fa i)) = w7 at *
    clear q1 f1 hf6 o6 HA1 HA2 HA3 HAk HAW d0 d1 d2 d3 d4 t0 t1 t2 t3 t4 t5 HPc HFc
    rcases HRx.out with h0 | ⟨bx, ox, hqx, _, hrx⟩
    ·omega
    rcases HSx.out with h0 | ⟨by_, oy, hqy, _, hry⟩
    ·omega
    have HRc := hid fun wx (hx : Old w7 wx) => ((HW0.out.trans HBW.out).trans hx).cellOf (hrx i hlt).1
    have HSc := hid fun wx (hx : Old w7 wx) => ((HW0.out.trans HBW.out).trans hx).cellOf (hry i hlt).1
    have HRu := hid ((hrx i hlt).2)
    have HSu := hid ((hry i hlt).2)
    have HGr := hid fun wx (hx : Old w7 wx) => HG.out _ (HBW.out.trans hx)
    have HTr := hid fun wx (hx : Old w7 wx) => HT.out _ (HBW.out.trans hx)
    have HDr : Hid (∀ wx, Old w7 wx -> wx.heap[w.heap.size + 1 + 1]? = some (.cells (dvc bρ nT cρ (some ⟨bx, ox, none⟩) nT cR (some ⟨by_, oy, none⟩) nT cS bT nT cT bD nD cD) 31 (0, 0))) := fun wx hx => by have := HD.out _ (HBW.out.trans hx); rwa [hqx, hqy] at this
    clear hrx hry
    subst hqx hqy
    refine zaa 21 [.k (.slice (some ⟨b3, 0, none⟩) nT nT), .k (.int .i64 (i : Int)), .k (.pointer (some ⟨w.heap.size + 1, 3, none⟩)), .k (.int .u64 Y), .k (.pointer (some ⟨w.heap.size + 1 + 1, 1, none⟩)), .k (.slice (some ⟨bx, ox, none⟩) nT cR), .k (.int .i64 (i : Int)), .k (.pointer (some ⟨bx, ox + i, none⟩)), .k (.int .u64 (R i)), .k (.pointer (some ⟨w.heap.size, 1, none⟩)), .k (.int .u64 Q), .k (.int .u64 (mulI Y (R i) Q)), .k (.pointer (some ⟨w.heap.size + 1 + 1, 2, none⟩)), .k (.slice (some ⟨by_, oy, none⟩) nT cS), .k (.int .i64 (i : Int)), .k (.pointer (some ⟨by_, oy + i, none⟩)), .k (.int .u64 (S i)), .k (.pointer (some ⟨w.heap.size, 1, none⟩)), .k (.int .u64 Q), .k (.int .u64 (Hi i)), .k (.pointer (some ⟨b3, i, none⟩))] (Old w7) (by kernel_rfl) (by kernel_rfl) rfl ((Old.refl _).drew) ?st ?_
    case st =>
     refine .p <| .p <| .p <| .c (stf 3 U22 HTr.out) <| .p <| .c (stf 1 U29 HDr.out) <| .p <| .c (sti (n := nT) (c := cR) hlt U29) <| .c (stl U22 HRc.out) <| .p <| .c (stf 1 U22 HGr.out) <| .c (stK old_R func72 (fun wx _ => zde Y (R i) Q hY HRu.out wx)) <| .p <| .c (stf 2 U29 HDr.out) <| .p <| .c (sti (n := nT) (c := cS) hlt U29) <| .c (stl U22 HSc.out) <| .p <| .c (stf 1 U22 HGr.out) <| .c (stK old_R func71 (fun wx _ => by rw [HHe.out]; exact sadd_any _ _ Q (zaI _ _ _) HSu.out wx)) <| .c (sti0 (n := nT) (c := nT) hlt U29) .n
    intro t wx hR hk
    simp only [fill, Ent.val, Ls0, Ls1, Ld1, Ld0, Ldn]
    have hf8 := HB3.out.old hR
    have HC1 : Hid (Full (wx.setCell ⟨b3, i, none⟩ (.int .u64 (Hi i))) b1 nT (upTo (i + 1) Pw)) := (HB1.out.old hR).other (p := ⟨b3, i, none⟩) n13 _
    have HC2 : Hid (Full (wx.setCell ⟨b3, i, none⟩ (.int .u64 (Hi i))) b2 nT (upTo (i + 1) Fa)) := (HB2.out.old hR).other (p := ⟨b3, i, none⟩) n23 _
    have HC3 := hid hf8.next
    have HCk : Hid (Full (wx.setCell ⟨b3, i, none⟩ (.int .u64 (Hi i))) bk nT K) := (HBk.out.old hR).other (p := ⟨b3, i, none⟩) nk3 _
    have HCW : Hid (Old W (wx.setCell ⟨b3, i, none⟩ (.int .u64 (Hi i)))) := (HBW.out.trans hR).setCell w3' _
    have q1 := hf8.cell i hlt
    have f1 := hf8.free i
    clear hf8 hR hk HRc HSc HGr HTr HDr HB1 HB2 HB3 HBk HBW
    go_wp2_with fail
    go_roundw
    case rel => exact ⟨i + 1, zab i, by omega, HC1, HC2, HC3, HCk, HCW⟩
    case measure => simp [intOf]; omega
   ·have he : nT = i := by omega
    subst he
    have HM1 := hid HN1.out.done
    have HM2 := hid HN2.out.done
    have HM3 := hid HN3.out.done
    rcases HTx.out with h0 | ⟨bx, ox, hqx, hbx, hrx⟩
    ·omega
    have HGr := hid fun wx (hx : Old wr wx) => HG.out _ (HW.out.trans hx)
    have HDr : Hid (∀ wx, Old wr wx -> wx.heap[w.heap.size + 1 + 1]? = some (.cells (dvc bρ nT cρ bR nT cR bS nT cS (some ⟨bx, ox, none⟩) nT cT bD nD cD) 31 (0, 0))) := fun wx hx => by have := HD.out _ (HW.out.trans hx); rwa [hqx] at this
    have HTf : Hid (∀ wx, Old wr wx -> FacsIn wx (some ⟨bx, ox, none⟩) nT T) := fun wx hx => by have := HTx.out.old ((HW0.out.trans HW.out).trans hx); rwa [hqx] at this
    have HTt : Hid (∀ wx, Old wr wx -> FacsIn wx (some ⟨bx, if cT = 1 then ox else ox + 1, none⟩) (nT - 1) (fun i => T (i + 1))) := fun wx hx => by
     by_cases h1 : cT = 1
     ·exact Or.inl (by omega)
     ·rw [if_neg h1]
      exact facs_tail (HTf.out wx hx)
    have HRf := hid fun wx (hx : Old wr wx) => HRx.out.old ((HW0.out.trans HW.out).trans hx)
    have HSf := hid fun wx (hx : Old wr wx) => HSx.out.old ((HW0.out.trans HW.out).trans hx)
    have Hρf := hid fun wx (hx : Old wr wx) => Hρx.out.old ((HW0.out.trans HW.out).trans hx)
    have HKf := hid fun wx (hx : Old wr wx) => (HKx.out.old hx).facs HKu.out
    have HPf := hid fun wx (hx : Old wr wx) => (HM1.out.old hx).facs fun k _ => HPu.out k
    have HFf := hid fun wx (hx : Old wr wx) => (HM2.out.old hx).facs fun k _ => HFu.out k
    have HH0 := hid fun wx (hx : Old wr wx) => (HM3.out.old hx).cell 0 m0
    clear hrx hbx
    subst hqx
    go_upto_region 13 with fail
    refine zaa 35 ((.k (gv P Q G H a n cap)) :: (.k (.slice (some ⟨bk, 0, none⟩) nT nT)) :: (fulE wr.heap.size nT (fun i => addI (K i) 0 Q)) :: (.k (gv P Q G H a n cap)) :: (.k (.pointer (some ⟨w.heap.size + 1 + 1, 1, none⟩))) :: (.k (.slice bR nT cR)) :: (fulE wr.heap.size nT (fun i => addI (R i) 0 Q)) :: (.k (.slice (some ⟨b1, 0, none⟩) nT nT)) :: (.k (gv P Q G H a n cap)) :: (.k (.pointer (some ⟨w.heap.size + 1 + 1, 2, none⟩))) :: (.k (.slice bS nT cS)) :: (fulE wr.heap.size nT (fun i => addI (S i) 0 Q)) :: (.k (.slice (some ⟨b2, 0, none⟩) nT nT)) :: (.k (.slice (some ⟨b3, 0, none⟩) nT nT)) :: (.k (gv P Q G H a n cap)) :: (.k (.pointer (some ⟨w.heap.size + 1 + 1, 3, none⟩))) :: (.k (.slice (some ⟨bx, ox, none⟩) nT cT)) :: (.k (.slice (some ⟨bx, if cT = 1 then ox else ox + 1, none⟩) (nT - 1) (cT - 1))) :: (fulE wr.heap.size (nT - 1) (fun i => addI (T (i + 1)) 0 Q)) :: (.k (gv P Q G H a n cap)) :: (.k (.slice (some ⟨b2, 0, none⟩) nT nT)) :: (.k (.slice (some ⟨b3, 0, none⟩) nT nT)) :: (.k (.pointer (some ⟨b3, 0, none⟩))) :: (.k (.int .u64 (Hi 0))) :: (.k (.pointer (some ⟨w.heap.size + 1 + 1, 3, none⟩))) :: (.k (.slice (some ⟨bx, ox, none⟩) nT cT)) :: (.k (.int .u64 (hidI Q Fa (Hi 0) T (nT - 1)))) :: (fulE wr.heap.size 1 (fun _ => (hidI Q Fa (Hi 0) T (nT - 1)))) :: (.k (gv P Q G H a n cap)) :: (.k (.slice (some ⟨b1, 0, none⟩) nT nT)) :: (.k (.pointer (some ⟨w.heap.size + 1 + 1, 0, none⟩))) :: (.k (.slice bρ nT cρ)) :: (fulE wr.heap.size 3 (fun k => bakI Q Pw Rh k nT)) :: (ls9E nT (b9 (fun i => addI (K i) 0 Q) (fun i => addI (R i) 0 Q) Pw (fun i => addI (S i) 0 Q) Fa Hi (fun i => addI (T (i + 1)) 0 Q) (hidI Q Fa (Hi 0) T (nT - 1)) (fun k => bakI Q Pw Rh k nT))) :: (numL8 wr.heap.size (7 * nT + 3) E) :: []) (Old wr) (by kernel_rfl) (by kernel_rfl) rfl ((Old.refl _).drew) ?st ?_
    case st =>
     refine .c (sts U25 HGr.out) <| .p <| .c (stC (args := fun t => #[gv P Q G H a n cap, .slice (some ⟨bk, 0, none⟩) nT nT]) old_R func74 (fun t wx hR _ => (zbK P Q G H a n cap _ nT nT K wx (by omega) (HKf.out wx hR)).mono fun r w' ⟨ho, b, hb, hr, hf⟩ => ⟨_, hr, ho, b, rfl, Nat.le_trans hR.size hb, hf⟩)) <| .c (sts U25 HGr.out) <| .p <| .c (stf 1 U29 HDr.out) <| .c (stC (args := fun t => #[gv P Q G H a n cap, .slice bR nT cR]) old_R func74 (fun t wx hR _ => (zbK P Q G H a n cap bR nT cR R wx (by omega) (HRf.out wx hR)).mono fun r w' ⟨ho, b, hb, hr, hf⟩ => ⟨_, hr, ho, b, rfl, Nat.le_trans hR.size hb, hf⟩)) <| .p <| .c (sts U25 HGr.out) <| .p <| .c (stf 2 U29 HDr.out) <| .c (stC (args := fun t => #[gv P Q G H a n cap, .slice bS nT cS]) old_R func74 (fun t wx hR _ => (zbK P Q G H a n cap bS nT cS S wx (by omega) (HSf.out wx hR)).mono fun r w' ⟨ho, b, hb, hr, hf⟩ => ⟨_, hr, ho, b, rfl, Nat.le_trans hR.size hb, hf⟩)) <| .p <| .p <| .c (sts U25 HGr.out) <| .p <| .c (stf 3 U29 HDr.out) <| .c (stw rfl (fun t wx _ => run_tail m0 mT mc U29 (by kernel_rfl) (by kernel_rfl))) <| .c (stC (args := fun t => #[gv P Q G H a n cap, .slice (some ⟨bx, if cT = 1 then ox else ox + 1, none⟩) (nT - 1) (cT - 1)]) old_R func74 (fun t wx hR _ => (zbK P Q G H a n cap _ (nT - 1) (cT - 1) (fun i => T (i + 1)) wx (by omega) (HTt.out wx hR)).mono fun r w' ⟨ho, b, hb, hr, hf⟩ => ⟨_, hr, ho, b, rfl, Nat.le_trans hR.size hb, hf⟩)) <| .c (sts U25 HGr.out) <| .p <| .p <| .c (sti0 (n := nT) (c := nT) (i := 0) m0 U29) <| .c (stl U22 HH0.out) <| .p <| .c (stf 3 U29 HDr.out) <| .c (stK old_R func75 (fun wx hR => slast_any P Q G H a n cap (some ⟨b2, 0, none⟩) nT nT Fa (Hi 0) (some ⟨bx, ox, none⟩) nT cT T wx m0 (by omega) (Nat.le_refl _) (HHu.out 0) (HFf.out wx hR) (HTf.out wx hR))) <| .c (stm (ob := fun t => .cells #[.int .u64 (hidI Q Fa (Hi 0) T (nT - 1))] 22) (v := fun s => .slice (some ⟨s, 0, none⟩) 1 1) old_R fun t wx hR hd => ⟨_, rfl, hR.size, heap_alloc_last _ _⟩) <| .c (sts U25 HGr.out) <| .p <| .p <| .c (stf 0 U28 HDr.out) <| .c (stC (args := fun t => #[gv P Q G H a n cap, .slice (some ⟨b1, 0, none⟩) nT nT, .slice bρ nT cρ]) old_R func76 (fun t wx hR _ => (sback_any P Q G H a n cap (some ⟨b1, 0, none⟩) nT nT Pw bρ nT cρ Rh wx (by omega) (Nat.le_refl _) (HPf.out wx hR) (Hρf.out wx hR)).mono fun r w' ⟨ho, b, hb, hr, hf⟩ => ⟨_, hr, ho, b, rfl, Nat.le_trans hR.size hb, hf⟩)) <| .c (stB (parts' := fun t => #[(0, t 2), (1, t 6), (2, .slice (some ⟨b1, 0, none⟩) nT nT), (3, t 11), (4, .slice (some ⟨b2, 0, none⟩) nT nT), (5, .slice (some ⟨b3, 0, none⟩) nT nT), (6, t 18), (7, t 27), (8, t 32)]) old_R fun t wx hR hd => ?_) <| .c (stC (args := fun t => #[t 33]) old_R func73 fun t wx hR hd => ?_) .n
     ·have f2 : ∃ b, t 2 = .slice (some ⟨b, 0, none⟩) nT nT /\ wr.heap.size <= b /\ Full wx b nT (fun i => addI (K i) 0 Q) := hd 2 (by kernel_rfl)
      have f6 : ∃ b, t 6 = .slice (some ⟨b, 0, none⟩) nT nT /\ wr.heap.size <= b /\ Full wx b nT (fun i => addI (R i) 0 Q) := hd 6 (by kernel_rfl)
      have f11 : ∃ b, t 11 = .slice (some ⟨b, 0, none⟩) nT nT /\ wr.heap.size <= b /\ Full wx b nT (fun i => addI (S i) 0 Q) := hd 11 (by kernel_rfl)
      have f18 : ∃ b, t 18 = .slice (some ⟨b, 0, none⟩) (nT - 1) (nT - 1) /\ wr.heap.size <= b /\ Full wx b (nT - 1) (fun i => addI (T (i + 1)) 0 Q) := hd 18 (by kernel_rfl)
      have f27 : ∃ b, t 27 = .slice (some ⟨b, 0, none⟩) 1 1 /\ wr.heap.size <= b /\ Full wx b 1 (fun _ => (hidI Q Fa (Hi 0) T (nT - 1))) := hd 27 (by kernel_rfl)
      have f32 : ∃ b, t 32 = .slice (some ⟨b, 0, none⟩) 3 3 /\ wr.heap.size <= b /\ Full wx b 3 (fun k => bakI Q Pw Rh k nT) := hd 32 (by kernel_rfl)
      obtain ⟨c2, e2, _, f2⟩ := f2
      obtain ⟨c6, e6, _, f6⟩ := f6
      obtain ⟨c11, e11, _, f11⟩ := f11
      obtain ⟨c18, e18, _, f18⟩ := f18
      obtain ⟨c27, e27, _, f27⟩ := f27
      obtain ⟨c32, e32, _, f32⟩ := f32
      rw [e2, e6, e11, e18, e27, e32]
      exact ⟨.cells #[.slice (some ⟨c2, 0, none⟩) nT nT, .slice (some ⟨c6, 0, none⟩) nT nT, .slice (some ⟨b1, 0, none⟩) nT nT, .slice (some ⟨c11, 0, none⟩) nT nT, .slice (some ⟨b2, 0, none⟩) nT nT, .slice (some ⟨b3, 0, none⟩) nT nT, .slice (some ⟨c18, 0, none⟩) (nT - 1) (nT - 1), .slice (some ⟨c27, 0, none⟩) 1 1, .slice (some ⟨c32, 0, none⟩) 3 3] 29, .slice (some ⟨wx.heap.size, 0, none⟩) 9 9, by kernel_rfl, ⟨_, _, rfl, lists9 _ f2 f6 (HM1.out.old hR) f11 (HM2.out.old hR) (HM3.out.old hR) f18 f27 f32 (by omega) ⟨fun k _ => ⟨zba _ _ _, zba _ _ _, HPu.out k, zba _ _ _, HFu.out k, HHu.out k⟩, fun k _ => zba _ _ _, hid_u64 (HHu.out 0) _ _ _, fun k => bak_u64 _ _ _ _ _⟩, lst9_some _ _ _ _ _ _ _ _ _⟩⟩
     ·have f33 : ∃ b BA, t 33 = .slice (some ⟨b, 0, none⟩) 9 9 /\ ListsIn wx (some ⟨b, 0, none⟩) 9 BA (l9 nT) (l9 nT) _ /\ ∀ j, j < 9 -> ∃ b o, BA j = some ⟨b, o, none⟩ := hd 33 (by kernel_rfl)
      obtain ⟨bl, BA, e33, hl, hs⟩ := f33
      rw [e33]
      refine (concat_any (some ⟨bl, 0, none⟩) 9 9 BA (l9 nT) (l9 nT) _ wx (by omega) (fun j hj => l9_le (by omega) j) (by rw [len9 nT m0]; omega) hs hl).mono fun r w' ⟨ho, v, hr, hN⟩ => ⟨v, hr, ho, ?_⟩
      rw [len9 nT m0] at hN
      exact (nums_congr hN fun k hk => HEx.out k hk).mono hR.size
    intro t wx hR hk
    simp only [fill, Ent.val, fulE, numL8, ls9E, Ls0, Ls1, Ld1, Ld0, Ldn]
    have hN : Nums wx wr.heap.size (t 34) (7 * nT + 3) E := hk 34 (by omega)
    have HEn : Hid (GivL w (7 * nT + 3) E (.returned (t 34)) wx) := ⟨HW0.out.trans (HW.out.trans hR), _, rfl, hN.mono (Nat.le_trans HW0.out.size HW.out.size)⟩
    clear hk hR hN
    generalize t 34 = tv at *
    generalize (if cT = 1 then ox else ox + 1) = oT at *
    go_wp2_with fail
    go_ret
    exact HEn.out
end
end Go.Proofs.YtlnmjbbpenhdbaaGreat
