/-
  What the proof needs, part 5.
-/
import Derived.Test.YtlnmjbbpenhdbaaGreatKp04
import Derived.Deep.RegionWith
import Derived.Laws.Tables
import Derived.Laws.Rows
import Derived.Deep.RegionHeld3
import Derived.RowKit3
import Derived.Deep.Heap
import Derived.Deep.WholeRow
import Derived.Laws.AppendOwn
import Derived.Laws.OwnMore
import Derived.Maps.AppendAt
import Derived.WalkSpells
namespace Go.Proofs.YtlnmjbbpenhdbaaGreat
set_option linter.unusedSimpArgs false
set_option linter.unusedVariables false
set_option maxRecDepth 100000
set_option maxHeartbeats 32000000
section
open Go.RowKit
abbrev go (P Q G H : Int) (a : Option Addr) (n cap : Nat) (t : TypeId) : Obj := .cells #[.int .u64 P, .int .u64 Q, .int .u64 G, .int .u64 H, .slice a n cap] t
def Beh (w : World) (P Q G H : Int) (a : Option Addr) (n cap : Nat) (w' : World) : Prop := ∃ t, Old (w.alloc (go P Q G H a n cap t)) w'
theorem Beh.old {w w' : World} {P Q G H : Int} {a : Option Addr} {n cap : Nat} (h : Beh w P Q G H a n cap w') : Old w w' := by
 obtain ⟨t, h⟩ := h
 exact ((Old.refl w).alloc _).trans h
theorem Beh.new (w : World) (P Q G H : Int) (a : Option Addr) (n cap : Nat) (t : TypeId) : Beh w P Q G H a n cap (w.alloc (go P Q G H a n cap t)) := ⟨t, Old.refl _⟩
theorem Beh.then {w w1 w2 : World} {P Q G H : Int} {a : Option Addr} {n cap : Nat} (h : Beh w P Q G H a n cap w1) (k : Old w1 w2) : Beh w P Q G H a n cap w2 := by
 obtain ⟨t, h⟩ := h
 exact ⟨t, h.trans k⟩
theorem Beh.cell {w w' : World} {P Q G H : Int} {a : Option Addr} {n cap : Nat} (h : Beh w P Q G H a n cap w') {j : Nat} {v : Value} (hv : (#[.int .u64 P, .int .u64 Q, .int .u64 G, .int .u64 H, .slice a n cap] : Array Value)[j]? = some v) : w'.cell? ⟨w.heap.size, j, none⟩ = some v := by
 obtain ⟨t, h⟩ := h
 exact h.cellOf ((gcell w t j).trans hv)
theorem FacsIn.old {w w' : World} {a : Option Addr} {len : Nat} {F : Nat -> Int} (h : FacsIn w a len F) (hb : Old w w') : FacsIn w' a len F := by
 rcases h with h | ⟨b, off, ha, hl, hc⟩
 · exact Or.inl h
 · exact Or.inr ⟨b, off, ha, Nat.lt_of_lt_of_le hl hb.size, fun j hj => ⟨(hb.cell hl).trans (hc j hj).1, (hc j hj).2⟩⟩
theorem RowAt.old {w w' : World} {b off : Nat} {n A : Int} {FA : Option Addr} {L C : Nat} {F : Nat -> Int} (h : RowAt w b off n A FA L C F) (hl : b < w.heap.size) (hb : Old w w') : RowAt w' b off n A FA L C F where
 c0 := (hb.cell hl).trans h.c0
 c1 := (hb.cell hl).trans h.c1
 c2 := (hb.cell hl).trans h.c2
 n0 := h.n0
 n1 := h.n1
 a0 := h.a0
 a1 := h.a1
 l0 := h.l0
 l1 := h.l1
 facs := h.facs.old hb
theorem RowsIn.old {w w' : World} {a : Option Addr} {n : Nat} {N A : Nat -> Int} {FA : Nat -> Option Addr} {L C : Nat -> Nat} {F : Nat -> Nat -> Int} (h : RowsIn w a n N A FA L C F) (hb : Old w w') : RowsIn w' a n N A FA L C F := by
 rcases h with h | ⟨b, off, ha, hl, hc⟩
 · exact Or.inl h
 · exact Or.inr ⟨b, off, ha, Nat.lt_of_lt_of_le hl hb.size, fun i hi => (hc i hi).old hl hb⟩
def rightI (P Q G H : Int) (N A : Nat -> Int) (F : Nat -> Nat -> Int) (L : Nat -> Nat) (n : Nat) : Bool :=
 decide (5 <= Q) && decide (Q < 2305843009213693952) && (P == 2 * Q + 1) && provedB N A F L n P && provedB N A F L n Q && inI P Q G && inI P Q H && !(G == 1) && !(H == 1) && !(G == H)
theorem rright_any (P Q G H : Int) (a : Option Addr) (n cap : Nat) (N A : Nat -> Int) (FA : Nat -> Option Addr) (L C : Nat -> Nat) (F : Nat -> Nat -> Int) (w : World) (hn : n <= 80) (hin : RowsIn w a n N A FA L C F)
  (q0 : 0 <= Q) (q1 : Q <= 18446744073709551615) (g1 : G <= 18446744073709551615) (h1 : H <= 18446744073709551615) :
  Calls Tryz.prog 48 #[gv P Q G H a n cap] w fun e w' => e = .returned (.bool (rightI P Q G H N A F L n)) /\ Old w w' := by
 have HW : Hid (∀ t, Beh w P Q G H a n cap (w.alloc (go P Q G H a n cap t))) := fun t => Beh.new w P Q G H a n cap t
 have HR : Hid (∀ x wx, Beh w P Q G H a n cap wx -> Calls Tryz.prog 101 #[.int .u64 x, .slice a n cap] wx fun e w' => e = .returned (.bool (provedB N A F L n x)) /\ Beh w P Q G H a n cap w') :=
  fun x wx hb => (rproved_any x a n cap N A FA L C F wx hn (hin.old hb.old)).mono fun e w' ⟨h, k⟩ => ⟨h, hb.then (Old.ofBelow k)⟩
 have HI : Hid (∀ x wx, x <= 18446744073709551615 -> Beh w P Q G H a n cap wx -> Calls Tryz.prog 55 #[gv P Q G H a n cap, .int .u64 x] wx fun e w' => e = .returned (.bool (inI P Q x)) /\ Beh w P Q G H a n cap w') :=
  fun x wx hx hb => (rin_any P Q G H x a n cap wx q0 q1 hx).mono fun e w' ⟨h, k⟩ => ⟨h, hb.then k⟩
 have HO : Hid (∀ w', Beh w P Q G H a n cap w' -> Old w w') := fun _ h => h.old
 have HF : Hid (∀ w', Beh w P Q G H a n cap w' -> w'.cell? ⟨w.heap.size, 0, none⟩ = some (.int .u64 P) /\ w'.cell? ⟨w.heap.size, 1, none⟩ = some (.int .u64 Q) /\ w'.cell? ⟨w.heap.size, 2, none⟩ = some (.int .u64 G) /\ w'.cell? ⟨w.heap.size, 3, none⟩ = some (.int .u64 H) /\ w'.cell? ⟨w.heap.size, 4, none⟩ = some (.slice a n cap)) :=
  fun _ h => ⟨h.cell rfl, h.cell rfl, h.cell rfl, h.cell rfl, h.cell rfl⟩
 clear hin hn
 have HE : Hid (rightI P Q G H N A F L n = (decide (5 <= Q) && decide (Q < 2305843009213693952) && (P == 2 * Q + 1) && provedB N A F L n P && provedB N A F L n Q && inI P Q G && inI P Q H && !(G == 1) && !(H == 1) && !(G == H))) := rfl
 generalize rightI P Q G H N A F L n = R at *
 by_cases c1 : 5 <= Q
 case neg =>
  rw [show R = false by rw [HE.out]; simp [c1]]
  go_enter Tryz.func48, Tryz.ntmps48
  go_wp2_with fail
  go_ret
  exact ⟨rfl, HO.out _ (HW.out _)⟩
 by_cases c2 : Q < 2305843009213693952
 case neg =>
  rw [show R = false by rw [HE.out]; simp [c2]]
  go_enter Tryz.func48, Tryz.ntmps48
  go_wp2_with fail
  go_ret
  exact ⟨rfl, HO.out _ (HW.out _)⟩
 by_cases c3 : P = 2 * Q + 1
 case neg =>
  rw [show R = false by rw [HE.out]; simp [c3]]
  have c3 : (P != 2 * Q + 1) = true := by simp [c3]
  go_enter Tryz.func48, Tryz.ntmps48
  go_wp2_with fail
  go_ret
  exact ⟨rfl, HO.out _ (HW.out _)⟩
 have hE : R = (provedB N A F L n P && provedB N A F L n Q && inI P Q G && inI P Q H && !(G == 1) && !(H == 1) && !(G == H)) := by rw [HE.out]; simp [c1, c2, c3]
 clear HE
 have c4 : (P != 2 * Q + 1) = false := by simp [c3]
 clear c3
 cases pP : provedB N A F L n P
 · rw [show R = false by rw [hE]; simp [pP]]
  clear hE
  go_enter Tryz.func48, Tryz.ntmps48
  go_wp2_with (first
   | (go_at_call 101; refine (HR.out _ _ (by first | exact HW.out _ | assumption)).mono ?_; rintro e w1 ⟨rfl, hb⟩; obtain ⟨d0, d1, d2, d3, d4⟩ := HF.out _ hb; first | rw [pP])
   | (go_at_call 55; refine (HI.out _ _ (by assumption) (by first | exact HW.out _ | assumption)).mono ?_; rintro e w1 ⟨rfl, hb⟩; obtain ⟨d0, d1, d2, d3, d4⟩ := HF.out _ hb; first | fail))
  go_ret
  exact ⟨rfl, HO.out _ (by assumption)⟩
 cases pQ : provedB N A F L n Q
 · rw [show R = false by rw [hE]; simp [pQ]]
  clear hE
  go_enter Tryz.func48, Tryz.ntmps48
  go_wp2_with (first
   | (go_at_call 101; refine (HR.out _ _ (by first | exact HW.out _ | assumption)).mono ?_; rintro e w1 ⟨rfl, hb⟩; obtain ⟨d0, d1, d2, d3, d4⟩ := HF.out _ hb; first | rw [pP] | rw [pQ])
   | (go_at_call 55; refine (HI.out _ _ (by assumption) (by first | exact HW.out _ | assumption)).mono ?_; rintro e w1 ⟨rfl, hb⟩; obtain ⟨d0, d1, d2, d3, d4⟩ := HF.out _ hb; first | fail))
  go_ret
  exact ⟨rfl, HO.out _ (by assumption)⟩
 cases iG : inI P Q G
 · rw [show R = false by rw [hE]; simp [iG]]
  clear hE
  go_enter Tryz.func48, Tryz.ntmps48
  go_wp2_with (first
   | (go_at_call 101; refine (HR.out _ _ (by first | exact HW.out _ | assumption)).mono ?_; rintro e w1 ⟨rfl, hb⟩; obtain ⟨d0, d1, d2, d3, d4⟩ := HF.out _ hb; first | rw [pP] | rw [pQ])
   | (go_at_call 55; refine (HI.out _ _ (by assumption) (by first | exact HW.out _ | assumption)).mono ?_; rintro e w1 ⟨rfl, hb⟩; obtain ⟨d0, d1, d2, d3, d4⟩ := HF.out _ hb; first | rw [iG]))
  go_ret
  exact ⟨rfl, HO.out _ (by assumption)⟩
 cases iH : inI P Q H
 · rw [show R = false by rw [hE]; simp [iH]]
  clear hE
  go_enter Tryz.func48, Tryz.ntmps48
  go_wp2_with (first
   | (go_at_call 101; refine (HR.out _ _ (by first | exact HW.out _ | assumption)).mono ?_; rintro e w1 ⟨rfl, hb⟩; obtain ⟨d0, d1, d2, d3, d4⟩ := HF.out _ hb; first | rw [pP] | rw [pQ])
   | (go_at_call 55; refine (HI.out _ _ (by assumption) (by first | exact HW.out _ | assumption)).mono ?_; rintro e w1 ⟨rfl, hb⟩; obtain ⟨d0, d1, d2, d3, d4⟩ := HF.out _ hb; first | rw [iG] | rw [iH]))
  go_ret
  exact ⟨rfl, HO.out _ (by assumption)⟩
 rw [show R = (G != 1 && H != 1 && G != H) by rw [hE, pP, pQ, iG, iH]; simp [bne]]
 clear hE
 go_enter Tryz.func48, Tryz.ntmps48
 go_wp2_with (first
  | (go_at_call 101; refine (HR.out _ _ (by first | exact HW.out _ | assumption)).mono ?_; rintro e w1 ⟨rfl, hb⟩; obtain ⟨d0, d1, d2, d3, d4⟩ := HF.out _ hb; first | rw [pP] | rw [pQ])
  | (go_at_call 55; refine (HI.out _ _ (by assumption) (by first | exact HW.out _ | assumption)).mono ?_; rintro e w1 ⟨rfl, hb⟩; obtain ⟨d0, d1, d2, d3, d4⟩ := HF.out _ hb; first | rw [iG] | rw [iH]))
 all_goals (go_ret; refine ⟨?_, HO.out _ (by assumption)⟩)
 · exact ret_bool (by rw [‹G = 1›]; simp)
 · exact ret_bool (by rw [‹H = 1›]; simp)
 · rfl
end
section
open Go.RowKit
structure Righ (P Q G : Int) : Prop where
 two : P = 2 * Q + 1
 q0 : 5 <= Q
 q1 : Q < 2305843009213693952
 grp : Grp P.toNat Q.toNat
 gin : inI P Q G = true
 g1 : G ≠ 1
theorem right_righ {P Q G H : Int} {N A : Nat -> Int} {F : Nat -> Nat -> Int} {L : Nat -> Nat} {n : Nat} (hA : ∀ i, i < n -> 0 <= A i) (h : rightI P Q G H N A F L n = true) : Righ P Q G := by
 unfold rightI at h
 simp only [Bool.and_eq_true, decide_eq_true_eq, beq_iff_eq] at h
 obtain ⟨⟨⟨⟨⟨⟨⟨⟨⟨h1, h2⟩, h3⟩, h4⟩, h5⟩, h6⟩, _⟩, h7⟩, _⟩, _⟩ := h
 obtain ⟨_, p, hp, pp, pf⟩ := proved_prim hA h4
 obtain ⟨_, q, hq, qp, _⟩ := proved_prim hA h5
 refine ⟨h3, h1, h2, ?_, h6, by simpa using h7⟩
 have e1 : P.toNat = p := by omega
 have e2 : Q.toNat = q := by omega
 rw [e1, e2]
 exact ⟨by omega, by omega, pp, qp, pf⟩
theorem Righ.ok {P Q G : Int} (h : Righ P Q G) : okM P = true := by
 have := h.two; have := h.q0; have := h.q1
 exact okM_of (by omega) (by omega)
end
section
open Go.RowKit
def fewB (L : Nat -> Nat) (n : Nat) : Bool := decide (n <= 80) && (List.range n).all fun i => decide (L i <= 40)
theorem fewB_iff {L : Nat -> Nat} {n : Nat} : fewB L n = true ↔ n <= 80 /\ ∀ i, i < n -> L i <= 40 := by
 unfold fewB
 simp [List.all_eq_true]
end
section
open Go.RowKit
def prodI (P : Int) (F : Nat -> Int) : Nat -> Int
 | 0 => 1
 | k + 1 => mulI (prodI P F k) (F k) P
theorem prodI_bd (P : Int) (F : Nat -> Int) : ∀ k, 0 <= prodI P F k /\ prodI P F k <= 18446744073709551615
 | 0 => by show (0 : Int) <= 1 /\ (1 : Int) <= _; omega
 | k + 1 => by
  have := mulI_bd (prodI P F k) (F k) P
  show 0 <= mulI _ _ _ /\ mulI _ _ _ <= _
  omega
theorem rprod_any (P Q G H : Int) (a : Option Addr) (n cap : Nat) (b : Option Addr) (len c : Nat) (F : Nat -> Int) (w : World) (hl : len <= 1152921504606846976) (hin : FacsIn w b len F) :
  Calls Tryz.prog 106 #[gv P Q G H a n cap, .slice b len c] w fun e w' => e = .returned (.int .u64 (prodI P F len)) /\ Old w w' := by
 have HI : Hid (FacsIn w b len F) := hin
 clear hin
 go_enter Tryz.func106, Tryz.ntmps106
 go_wp2_with fail
 go_loopw [5, 6] (fun nv iv wx => ∃ i : Nat, nv = .int .u64 (prodI P F i) /\ iv = .int .i64 (i : Int) /\ i <= len /\ Beh w P Q G H a n cap wx) (fun _ iv _ => len - (intOf iv).toNat)
 case atStart => exact ⟨0, rfl, rfl, Nat.zero_le _, Beh.new ..⟩
 case round =>
  obtain ⟨i, rfl, rfl, hi, hbeh⟩ := hrel
  by_cases hlt : i < len
  · rcases HI.out.old hbeh.old with h0 | ⟨bb, off, rfl, hb, hr⟩
   · omega
   obtain ⟨c0, f0, f1⟩ := hr i hlt
   clear hr
   obtain ⟨m0, m1⟩ := prodI_bd P F i
   have c1 := hbeh.cell (j := 0) rfl
   have HS : Hid (prodI P F (i + 1) = mulI (prodI P F i) (F i) P) := rfl
   have HB : Hid (Beh w P Q G H a n cap wr) := hbeh
   clear hbeh
   generalize prodI P F i = m at *
   go_wp2_with fail
   go_quiet ((go_at_call 70; exact Calls.quiet_of (rmul_any _ _ _ _ m0 m1 f0 f1)))
   go_wp2_with fail
   go_roundw
   case rel => exact ⟨i + 1, by rw [HS.out], idx_next i, by omega, HB.out.then ((Old.refl _).drewN _)⟩
   case measure => simp [intOf]; omega
  · have he : i = len := by omega
   subst he
   have HB : Hid (Beh w P Q G H a n cap wr) := hbeh
   clear hbeh
   go_wp2_with fail
   go_ret
   exact ⟨rfl, HB.out.old⟩
end
section
open Go.RowKit
structure Four (P Q G H : Int) : Prop where
 p0 : 0 <= P
 p1 : P <= 18446744073709551615
 q0 : 0 <= Q
 q1 : Q <= 18446744073709551615
 g0 : 0 <= G
 g1 : G <= 18446744073709551615
 h0 : 0 <= H
 h1 : H <= 18446744073709551615
theorem gin0 (P Q G H x : Int) (a : Option Addr) (n cap : Nat) (w : World) (q0 : 0 <= Q) (q1 : Q <= 18446744073709551615) (x1 : x <= 18446744073709551615) :
  Calls Tryz.prog 52 #[gv P Q G H a n cap, .int .u64 x] w fun e w' => e = .returned (.bool (inI P Q x)) /\ Old w w' := by
 have HW : Hid (∀ o, Old w (w.alloc o)) := fun o => (Old.refl w).alloc o
 by_cases h1 : 1 <= x
 · by_cases h2 : x < P
  · have HC : Hid (∀ wx, Calls Tryz.prog 61 #[.int .u64 x, .int .u64 Q, .int .u64 P] wx fun e w' => e = .returned (.int .u64 (powI x Q P)) /\ ∃ n, w' = wx.drewN n) := fun wx => pow_any x Q P wx (by omega) x1 q0 q1
   have HE : Hid (inI P Q x = (powI x Q P == 1)) := by unfold Hid inI; simp [h1, h2]
   generalize powI x Q P = y at *
   go_enter Tryz.func52, Tryz.ntmps52
   go_wp2_with (go_at_call 61; refine (HC.out _).mono ?_; rintro e w1 ⟨rfl, k1, hw1⟩)
   go_ret
   refine ⟨by rw [HE.out]; rfl, ?_⟩
   first
    | exact (HW.out _).drewN _
    | (rw [hw1]; exact (HW.out _).drewN _)
  · have HE : Hid (inI P Q x = false) := by unfold Hid inI; simp [h2]
   go_enter Tryz.func52, Tryz.ntmps52
   go_wp2_with fail
   go_ret
   exact ⟨by rw [HE.out]; rfl, HW.out _⟩
 · have HE : Hid (inI P Q x = false) := by unfold Hid inI; simp [h1]
  go_enter Tryz.func52, Tryz.ntmps52
  go_wp2_with fail
  go_ret
  exact ⟨by rw [HE.out]; rfl, HW.out _⟩
theorem gexp_any (P Q G H x y : Int) (a : Option Addr) (n cap : Nat) (w : World) (_h4 : Four P Q G H) (hr : Righ P Q G) (x0 : 0 <= x) (x1 : x <= 18446744073709551615) (y0 : 0 <= y) (y1 : y <= 18446744073709551615) :
  Calls Tryz.prog 65 #[gv P Q G H a n cap, .int .u64 x, .int .u64 y] w fun e w' => e = .returned (.int .u64 (expI P Q x y)) /\ Old w w' := by
 have q5 := hr.q0
 have q6 := hr.q1
 have m0 : 0 <= y % Q := Int.emod_nonneg _ (by omega)
 have m1 : y % Q < Q := Int.emod_lt_of_pos _ (by omega)
 have HW : Hid (∀ o, Old w (w.alloc o)) := fun o => (Old.refl w).alloc o
 have HE : Hid (expI P Q x y = powI x (y % Q) P) := by unfold Hid expI; rw [if_neg (by omega)]
 have HA : Hid (∀ wx, Calls Tryz.prog 71 #[.int .u64 y, .int .u64 0, .int .u64 Q] wx fun e w' => e = .returned (.int .u64 (y % Q)) /\ ∃ n, w' = wx.drewN n) := fun wx => by
  have h := add_any y 0 Q wx y0 y1 (by omega) (by omega)
  rw [addI_yes (okM_of (by omega) (by omega)), Int.add_zero] at h
  exact h
 have HP : Hid (∀ wx, Calls Tryz.prog 61 #[.int .u64 x, .int .u64 (y % Q), .int .u64 P] wx fun e w' => e = .returned (.int .u64 (expI P Q x y)) /\ ∃ n, w' = wx.drewN n) := fun wx => by
  rw [HE.out]
  exact pow_any x (y % Q) P wx x0 x1 m0 (by omega)
 generalize expI P Q x y = R at *
 generalize y % Q = z at *
 clear hr q5 q6 m0 m1 HE
 go_enter Tryz.func65, Tryz.ntmps65
 go_wp2_with fail
 go_quiet (first
  | (go_at_call 71; exact Calls.quiet_of (HA.out _))
  | (go_at_call 61; exact Calls.quiet_of (HP.out _)))
 go_wp2_with fail
 go_ret
 exact ⟨rfl, (HW.out _).drewN _⟩
theorem gprod0 (P Q G H : Int) (a : Option Addr) (n cap : Nat) (b : Option Addr) (len c : Nat) (F : Nat -> Int) (w : World) (hl : len <= 1152921504606846976) (hin : FacsIn w b len F) :
  Calls Tryz.prog 64 #[gv P Q G H a n cap, .slice b len c] w fun e w' => e = .returned (.int .u64 (prodI P F len)) /\ Old w w' := by
 have HI : Hid (FacsIn w b len F) := hin
 clear hin
 go_enter Tryz.func64, Tryz.ntmps64
 go_wp2_with fail
 go_loopw [5, 10] (fun nv iv wx => ∃ i : Nat, nv = .int .u64 (prodI P F i) /\ iv = .int .i64 (i : Int) /\ i <= len /\ Beh w P Q G H a n cap wx) (fun _ iv _ => len - (intOf iv).toNat)
 case atStart => exact ⟨0, rfl, rfl, Nat.zero_le _, Beh.new ..⟩
 case round =>
  obtain ⟨i, rfl, rfl, hi, hbeh⟩ := hrel
  by_cases hlt : i < len
  · rcases HI.out.old hbeh.old with h0 | ⟨bb, off, rfl, hb, hr⟩
   · omega
   obtain ⟨c0, f0, f1⟩ := hr i hlt
   clear hr
   obtain ⟨m0, m1⟩ := prodI_bd P F i
   have c1 := hbeh.cell (j := 0) rfl
   have HS : Hid (prodI P F (i + 1) = mulI (prodI P F i) (F i) P) := rfl
   have HB : Hid (Beh w P Q G H a n cap wr) := hbeh
   clear hbeh
   generalize prodI P F i = m at *
   go_wp2_with (go_at_call 72; refine (mul_any _ _ _ _ m0 m1 f0 f1).mono ?_; rintro e w1 ⟨rfl, hd⟩)
   go_roundw
   case rel => exact ⟨i + 1, by rw [HS.out], idx_next i, by omega, HB.out.then ((Old.refl _).draws hd)⟩
   case measure => simp [intOf]; omega
  · have he : i = len := by omega
   subst he
   have HB : Hid (Beh w P Q G H a n cap wr) := hbeh
   clear hbeh
   go_wp2_with fail
   go_ret
   exact ⟨rfl, HB.out.old⟩
theorem gprod_any (P Q G H : Int) (a : Option Addr) (n cap : Nat) (b : Option Addr) (len c : Nat) (F : Nat -> Int) (w : World) (_h4 : Four P Q G H) (_hr : Righ P Q G) (_hc : len <= c) (hl : len <= 1152921504606846976) (hin : FacsIn w b len F) :
  Calls Tryz.prog 64 #[gv P Q G H a n cap, .slice b len c] w fun e w' => e = .returned (.int .u64 (prodI P F len)) /\ Old w w' := gprod0 P Q G H a n cap b len c F w hl hin
end
section
open Go.RowKit
theorem Righ.p11 {P Q G : Int} (h : Righ P Q G) : 11 <= P := by have := h.two; have := h.q0; omega
theorem Righ.ppos {P Q G : Int} (h : Righ P Q G) : 0 < P := by have := h.p11; omega
theorem Righ.in_iff {P Q G x : Int} (h : Righ P Q G) : inI P Q x = true ↔ 1 <= x /\ x < P /\ x ^ Q.toNat % P = 1 := by
 rw [inI_iff, powI_yes h.ok]
theorem Righ.one_mod {P Q G : Int} (h : Righ P Q G) : (1 : Int) % P = 1 := by
 have := h.p11
 exact Int.emod_eq_of_lt (by omega) (by omega)
theorem Righ.in_mod {P Q G z : Int} (h : Righ P Q G) (hz : z ^ Q.toNat % P = 1) : inI P Q (z % P) = true := by
 have hp := h.ppos
 have h0 := Int.emod_nonneg z (show P ≠ 0 by omega)
 have h1 := Int.emod_lt_of_pos z hp
 have hc : (z % P) ^ Q.toNat % P = 1 := by rw [cong_pow (mod_self z P) Q.toNat, hz]
 refine h.in_iff.2 ⟨?_, h1, hc⟩
 rcases Int.lt_or_le 0 (z % P) with hl | hl
 · omega
 · have e : z % P = 0 := by omega
  rw [e, show Q.toNat = (Q.toNat - 1) + 1 by have := h.q0; omega, Int.pow_succ] at hc
  simp at hc
theorem Righ.one_in {P Q G : Int} (h : Righ P Q G) : inI P Q 1 = true := by
 have := h.in_mod (z := 1) (by rw [Int.one_pow]; exact h.one_mod)
 rwa [h.one_mod] at this
theorem Righ.lt {P Q G x : Int} (h : Righ P Q G) (hx : inI P Q x = true) : 0 <= x /\ x < P := by
 obtain ⟨a, b, _⟩ := h.in_iff.1 hx
 omega
theorem Righ.self {P Q G x : Int} (h : Righ P Q G) (hx : inI P Q x = true) : x % P = x := Int.emod_eq_of_lt (h.lt hx).1 (h.lt hx).2
theorem Righ.mul_in {P Q G x y : Int} (h : Righ P Q G) (hx : inI P Q x = true) (hy : inI P Q y = true) : inI P Q (mulI x y P) = true := by
 rw [mulI_yes h.ok]
 refine h.in_mod ?_
 rw [Int.mul_pow, cong_mul (b := 1) (d := 1) (by rw [(h.in_iff.1 hx).2.2, h.one_mod]) (by rw [(h.in_iff.1 hy).2.2, h.one_mod])]
 exact h.one_mod
theorem mul_cong {P x y a b : Int} (h : okM P = true) (hx : x % P = a % P) (hy : y % P = b % P) : mulI x y P % P = a * b % P := by
 rw [mulI_yes h, mod_self]
 exact cong_mul hx hy
theorem Righ.exp_cong {P Q G x e : Int} (h : Righ P Q G) (hx : inI P Q x = true) (he : 0 <= e) : expI P Q x e % P = x ^ e.toNat % P := by
 have hq := h.q0
 unfold expI
 rw [if_neg (by omega), powI_yes h.ok, mod_self]
 have hd := Int.emod_add_mul_ediv e Q
 have r0 := Int.emod_nonneg e (show Q ≠ 0 by omega)
 have d0 := Int.ediv_nonneg he (show 0 <= Q by omega)
 have hn : e.toNat = (e % Q).toNat + Q.toNat * (e / Q).toNat := by
  apply Int.ofNat.inj
  show (e.toNat : Int) = (((e % Q).toNat + Q.toNat * (e / Q).toNat : Nat) : Int)
  rw [Int.natCast_add, Int.natCast_mul, Int.toNat_of_nonneg he, Int.toNat_of_nonneg r0, Int.toNat_of_nonneg d0, Int.toNat_of_nonneg (by omega)]
  exact hd.symm
 rw [hn, Int.pow_add, Int.pow_mul]
 have hk : (x ^ Q.toNat) ^ (e / Q).toNat % P = 1 % P := by
  rw [cong_pow (b := 1) (by rw [(h.in_iff.1 hx).2.2, h.one_mod]) _, Int.one_pow]
 have := cong_mul (a := x ^ (e % Q).toNat) (b := x ^ (e % Q).toNat) rfl hk
 rw [Int.mul_one] at this
 exact this.symm
theorem Righ.exp_in {P Q G x e : Int} (h : Righ P Q G) (hx : inI P Q x = true) : inI P Q (expI P Q x e) = true := by
 have hq := h.q0
 unfold expI
 rw [if_neg (by omega), powI_yes h.ok]
 refine h.in_mod ?_
 rw [<- Int.pow_mul, Nat.mul_comm, Int.pow_mul, cong_pow (b := 1) (by rw [(h.in_iff.1 hx).2.2, h.one_mod]) _, Int.one_pow]
 exact h.one_mod
def pr (F : Nat -> Int) : Nat -> Int
 | 0 => 1
 | k + 1 => pr F k * F k
theorem prod_cong {P : Int} (h : okM P = true) (F : Nat -> Int) : ∀ k, prodI P F k % P = pr F k % P
 | 0 => rfl
 | k + 1 => by
  show mulI (prodI P F k) (F k) P % P = pr F k * F k % P
  exact mul_cong h (prod_cong h F k) rfl
theorem Righ.prod_in {P Q G : Int} (h : Righ P Q G) {F : Nat -> Int} : ∀ k, (∀ i, i < k -> inI P Q (F i) = true) -> inI P Q (prodI P F k) = true
 | 0, _ => h.one_in
 | k + 1, hF => h.mul_in (h.prod_in k fun i hi => hF i (by omega)) (hF k (by omega))
theorem prod_two {P a b : Int} (h : okM P = true) {F : Nat -> Int} (h0 : F 0 = a) (h1 : F 1 = b) : prodI P F 2 = mulI a b P := by
 show mulI (mulI 1 (F 0) P) (F 1) P = _
 rw [h0, h1, mulI_yes h, mulI_yes h, mulI_yes h, Int.one_mul]
 exact cong_mul (mod_self a P) rfl
theorem Righ.inv {P Q G y : Int} (h : Righ P Q G) (hy : inI P Q y = true) : invB y P = true /\ inI P Q (invI y P) = true /\ y * invI y P % P = 1 := by
 have hp := h.ppos
 have hq := h.q0
 have e1 : y * (y ^ (Q.toNat - 1) % P) % P = 1 := by
  rw [cong_mul (a := y) (b := y) rfl (mod_self (y ^ (Q.toNat - 1)) P), Int.mul_comm, <- Int.pow_succ, show (Q.toNat - 1).succ = Q.toNat by omega]
  exact (h.in_iff.1 hy).2.2
 obtain ⟨b1, b2⟩ := inv_has h.ok (Int.emod_nonneg _ (by omega)) (Int.emod_lt_of_pos _ hp) e1
 refine ⟨b1, ?_, by rw [b2]; exact e1⟩
 rw [b2]
 refine h.in_mod ?_
 rw [<- Int.pow_mul, Nat.mul_comm, Int.pow_mul, cong_pow (b := 1) (by rw [(h.in_iff.1 hy).2.2, h.one_mod]) _, Int.one_pow]
 exact h.one_mod
def overI (P x y : Int) : Int := mulI x (invI y P) P
theorem Righ.over_cong {P Q G y : Int} (h : Righ P Q G) (hy : inI P Q y = true) (x : Int) : overI P x y * y % P = x % P := by
 unfold overI
 have h1 := mul_cong (x := x) (y := invI y P) (a := x) (b := invI y P) h.ok rfl rfl
 have h2 := cong_mul (c := y) (d := y) h1 rfl
 rw [h2, Int.mul_assoc, Int.mul_comm (invI y P) y]
 have := cong_mul (a := x) (b := x) (c := y * invI y P) (d := 1) (m := P) rfl (by rw [(h.inv hy).2.2, h.one_mod])
 rw [this, Int.mul_one]
theorem Righ.over_in {P Q G x y : Int} (h : Righ P Q G) (hx : inI P Q x = true) (hy : inI P Q y = true) : inI P Q (overI P x y) = true := h.mul_in hx (h.inv hy).2.1
theorem Righ.cancel {P Q G y a b : Int} (h : Righ P Q G) (hy : inI P Q y = true) (hab : a * y % P = b * y % P) : a % P = b % P := by
 have key : ∀ z : Int, z * y * invI y P % P = z % P := fun z => by
  rw [Int.mul_assoc]
  have := cong_mul (a := z) (b := z) (c := y * invI y P) (d := 1) (m := P) rfl (by rw [(h.inv hy).2.2, h.one_mod])
  rw [this, Int.mul_one]
 rw [<- key a, <- key b]
 exact cong_mul hab rfl
end
section
open Go.RowKit
abbrev pv (u v : Int) : Value := .agg #[.int .u64 u, .int .u64 v]
abbrev tv (u m v : Int) : Value := .agg #[.int .u64 u, .int .u64 m, .int .u64 v]
def U64 (x : Int) : Prop := 0 <= x /\ x <= 18446744073709551615
theorem u64_mul (x y P : Int) : U64 (mulI x y P) := by have := mulI_bd x y P; unfold U64; omega
theorem u64_exp (P Q x e : Int) : U64 (expI P Q x e) := by
 unfold U64 expI
 split
 · omega
 · have := powI_bd x (e % Q) P
  omega
theorem u64_over (P x y : Int) : U64 (overI P x y) := u64_mul _ _ _
theorem u64_prod (P : Int) (F : Nat -> Int) (k : Nat) : U64 (prodI P F k) := prodI_bd P F k
structure Lain (w : World) (l : List (Array Value × TypeId)) (W : World) : Prop where
 old : Old w W
 row : ∀ i (h : i < l.length), W.heap[w.heap.size + i]? = some (.cells (l[i]).1 (l[i]).2 (0, 0))
 size : w.heap.size + l.length <= W.heap.size
theorem Lain.nil (w : World) : Lain w [] w := ⟨Old.refl w, fun i h => by simp at h, by simp⟩
theorem Lain.add {w W : World} {l : List (Array Value × TypeId)} (h : Lain w l W) (he : W.heap.size = w.heap.size + l.length) (c : Array Value) (t : TypeId) : Lain w (l ++ [(c, t)]) (W.alloc (.cells c t)) := by
 refine ⟨h.old.alloc _, fun i hi => ?_, by simp [he]; omega⟩
 simp only [World.alloc]
 rw [Array.getElem?_push]
 by_cases hl : i < l.length
 · rw [if_neg (by omega), h.row i hl]
  simp [List.getElem_append_left hl]
 · have : i = l.length := by simp at hi; omega
  subst this
  rw [if_pos (by omega)]
  simp
theorem Lain.then {w W W' : World} {l : List (Array Value × TypeId)} (h : Lain w l W) (k : Old W W') : Lain w l W' :=
 ⟨h.old.trans k, fun i hi => (k.block _ (by have := h.size; omega)).trans (h.row i hi), Nat.le_trans h.size k.size⟩
theorem Lain.cell {w W : World} {l : List (Array Value × TypeId)} (h : Lain w l W) (i j : Nat) (hi : i < l.length) {v : Value} (hv : (l[i]).1[j]? = some v) : W.cell? ⟨w.heap.size + i, j, none⟩ = some v := by
 have := h.row i hi
 rw [cell_of_row _ _ j _ _ (0, 0) this]
 exact hv
theorem lain1 (w : World) (c : Array Value) (t : TypeId) : Lain w [(c, t)] (w.alloc (.cells c t)) := (Lain.nil w).add (by simp) c t
theorem lain2 (w : World) (c d : Array Value) (t s : TypeId) : Lain w [(c, t), (d, s)] ((w.alloc (.cells c t)).alloc (.cells d s)) := (lain1 w c t).add (by simp) d s
theorem lain3 (w : World) (c d e : Array Value) (t s r : TypeId) : Lain w [(c, t), (d, s), (e, r)] (((w.alloc (.cells c t)).alloc (.cells d s)).alloc (.cells e r)) := (lain2 w c d t s).add (by simp) e r
abbrev gc (P Q G H : Int) (a : Option Addr) (n cap : Nat) : Array Value := #[.int .u64 P, .int .u64 Q, .int .u64 G, .int .u64 H, .slice a n cap]
abbrev pc (u v : Int) : Array Value := #[.int .u64 u, .int .u64 v]
abbrev tc (u m v : Int) : Array Value := #[.int .u64 u, .int .u64 m, .int .u64 v]
theorem set_row {W : World} {b : Nat} {c : Array Value} {t : TypeId} (h : W.heap[b]? = some (.cells c t (0, 0))) (j : Nat) (v : Value) : (W.setCell ⟨b, j, none⟩ v).heap[b]? = some (.cells (c.setIfInBounds j v) t (0, 0)) := by
 simp [World.setCell, Array.getElem?_modify, h]
theorem row_frozen {W : World} {b : Nat} {c : Array Value} {t : TypeId} (h : W.heap[b]? = some (.cells c t (0, 0))) (j : Nat) : W.frozen? ⟨b, j, none⟩ = false := by
 simp [World.frozen?, h]
theorem cell_far {W : World} {b k i j : Nat} {x v : Value} (hne : k ≠ b) (h : W.cell? ⟨k, j, none⟩ = some v) : (W.setCell ⟨b, i, none⟩ x).cell? ⟨k, j, none⟩ = some v := by
 rw [World.cell?_setCell_other _ _ _ _ (fun e => hne (congrArg Addr.block e).symm)]
 exact h
theorem load_two {P : Program} {W : World} {b : Nat} {p q x y : Value} {t ty : TypeId} {fs : Array Field} (h : W.heap[b]? = some (.cells #[p, q] t (0, 0))) (hu : P.underlying ty = some (.struct fs)) (hi : (P.info? ty).map (·.size) = some 2) :
  (loadVar ty ⟨b, 0, none⟩).run P ((W.setCell ⟨b, 0, none⟩ x).setCell ⟨b, 1, none⟩ y) = .ok (.agg #[x, y]) ((W.setCell ⟨b, 0, none⟩ x).setCell ⟨b, 1, none⟩ y) :=
 run_loadVar_row _ b t ty #[x, y] (0, 0) _ (by have := set_row (set_row h 0 x) 1 y; simpa using this) hu rfl hi
theorem result5 {P : Program} {fn : Func} {s : Tmp} {t : TypeId} {tmps : Array Value} {w : World} {b : Nat} {v : Value} (h : fn.results = #[.cell s t]) (hp : tmps[s]? = some (.pointer (some ⟨b, 0, none⟩))) (hl : (loadVar t ⟨b, 0, none⟩).run P w = .ok v w) : (results fn tmps).run P w = .ok v w := by
 simp [results, h, hp, asAddr, hl]
theorem info_pair : (Tryz.prog.info? 69).map (·.size) = some 2 := by kernel_rfl
def two5 (x y : Int) : Nat -> Int | 0 => x | _ => y
theorem facs_two (w : World) (x y : Int) (t : TypeId) (hx : U64 x) (hy : U64 y) : FacsIn (w.alloc (.cells #[.int .u64 x, .int .u64 y] t)) (some ⟨w.heap.size, 0, none⟩) 2 (two5 x y) := by
 refine Or.inr ⟨_, _, rfl, by simp, fun j hj => ?_⟩
 match j, hj with
 | 0, _ => exact ⟨(World.cell?_alloc_mark w _ t (0, 0) 0).trans rfl, hx.1, hx.2⟩
 | 1, _ => exact ⟨(World.cell?_alloc_mark w _ t (0, 0) 1).trans rfl, hy.1, hy.2⟩
theorem prod5 {P Q G : Int} (h : Righ P Q G) (x y : Int) : prodI P (two5 x y) 2 = mulI x y P := prod_two h.ok rfl rfl
end
section
open Go.RowKit
theorem inI_bd5 {P Q G y : Int} (h : Righ P Q G) (hy : inI P Q y = true) : 0 <= y /\ y <= 18446744073709551615 := by
 have := h.lt hy; have := h.two; have := h.q1
 omega
theorem rover_any (P Q G H : Int) (a : Option Addr) (n cap : Nat) (x y : Int) (w : World) (hx : U64 x) (hy : U64 y) :
  Calls Tryz.prog 86 #[gv P Q G H a n cap, .int .u64 x, .int .u64 y] w fun e w' => e = .returned (.int .u64 (overI P x y)) /\ Old w w' := by
 have HI : Hid (∀ wx, Beh w P Q G H a n cap wx -> Calls Tryz.prog 124 #[.int .u64 y, .int .u64 P] wx fun e w' => e = .returned (.tuple #[.int .u64 (invI y P), .bool (invB y P)]) /\ Beh w P Q G H a n cap w') :=
  fun wx hb => (rinv_any y P wx hy.1 hy.2).mono fun e w' ⟨h, k⟩ => ⟨h, hb.then ((Old.refl _).draws k)⟩
 have HM : Hid (∀ wx, Beh w P Q G H a n cap wx -> Calls Tryz.prog 70 #[.int .u64 x, .int .u64 (invI y P), .int .u64 P] wx fun e w' => e = .returned (.int .u64 (overI P x y)) /\ Beh w P Q G H a n cap w') :=
  fun wx hb => (rmul_any x (invI y P) P wx hx.1 hx.2 (by have := invI_bd y P; omega) (by have := invI_bd y P; omega)).mono fun e w' ⟨h, k⟩ => ⟨h, hb.then ((Old.refl _).draws k)⟩
 have HN : Hid (∀ t, Beh w P Q G H a n cap (w.alloc (go P Q G H a n cap t))) := fun t => Beh.new ..
 have HF : Hid (∀ w', Beh w P Q G H a n cap w' -> w'.cell? ⟨w.heap.size, 0, none⟩ = some (.int .u64 P)) := fun _ h => h.cell rfl
 have HO : Hid (∀ w', Beh w P Q G H a n cap w' -> Old w w') := fun _ h => h.old
 generalize overI P x y = z at *
 generalize invI y P = i at *
 generalize invB y P = ib at *
 clear hx hy
 go_enter Tryz.func86, Tryz.ntmps86
 go_wp2_with (first
  | (go_at_call 124; refine (HI.out _ (by first | exact HN.out _ | assumption)).mono ?_; rintro e w1 ⟨rfl, hb1⟩; have d0 := HF.out _ hb1)
  | (go_at_call 70; refine (HM.out _ (by first | exact HN.out _ | assumption)).mono ?_; rintro e w2 ⟨rfl, hb2⟩))
 go_ret
 exact ⟨rfl, HO.out _ (by assumption)⟩
theorem ragain_any (P Q G H : Int) (a : Option Addr) (n cap : Nat) (y u v r : Int) (w : World) (h4 : Four P Q G H) (hr : Righ P Q G) (hy : U64 y) (hu : U64 u) (hv : U64 v) (hrr : U64 r) :
  Calls Tryz.prog 57 #[gv P Q G H a n cap, .int .u64 y, pv u v, .int .u64 r] w fun e w' => e = .returned (pv (mulI u (expI P Q G r) P) (mulI v (expI P Q y r) P)) /\ Old w w' := by
 have HE : Hid (∀ x e wx, U64 x -> U64 e -> Lain w [(gc P Q G H a n cap, 25), (pc u v, 69), (pc 0 0, 69)] wx -> Calls Tryz.prog 68 #[gv P Q G H a n cap, .int .u64 x, .int .u64 e] wx fun r w' => r = .returned (.int .u64 (expI P Q x e)) /\ Lain w [(gc P Q G H a n cap, 25), (pc u v, 69), (pc 0 0, 69)] w') :=
  fun x e wx hx he hb => (rexp_any P Q G H x e a n cap wx h4.q1 hx.1 hx.2 he.1 he.2).mono fun r w' ⟨h, k⟩ => ⟨h, hb.then k⟩
 have HP : Hid (∀ x y t wx, U64 x -> U64 y -> Lain w [(gc P Q G H a n cap, 25), (pc u v, 69), (pc 0 0, 69)] wx -> Calls Tryz.prog 106 #[gv P Q G H a n cap, .slice (some ⟨wx.heap.size, 0, none⟩) 2 2] (wx.alloc (.cells #[.int .u64 x, .int .u64 y] t)) fun r w' => r = .returned (.int .u64 (mulI x y P)) /\ Lain w [(gc P Q G H a n cap, 25), (pc u v, 69), (pc 0 0, 69)] w') :=
  fun x y t wx hx hy hb => (rprod_any P Q G H a n cap _ 2 2 _ _ (by decide) (facs_two wx x y t hx hy)).mono fun r w' ⟨h, k⟩ => ⟨by rw [h, prod5 hr], hb.then (((Old.refl _).alloc _).trans k)⟩
 have HD : Hid (∀ wx, Lain w [(gc P Q G H a n cap, 25), (pc u v, 69), (pc 0 0, 69)] wx -> Lain w [(gc P Q G H a n cap, 25), (pc u v, 69), (pc 0 0, 69)] wx.drew) := fun _ h => h.then (Old.refl _).drew
 have HO : Hid (∀ wx, Lain w [(gc P Q G H a n cap, 25), (pc u v, 69), (pc 0 0, 69)] wx -> Old w wx) := fun _ h => h.old
 have hG : U64 G := ⟨h4.g0, h4.g1⟩
 have HF : Hid (∀ w', Lain w [(gc P Q G H a n cap, 25), (pc u v, 69), (pc 0 0, 69)] w' -> w'.cell? ⟨w.heap.size, 0, none⟩ = some (.int .u64 P) /\ w'.cell? ⟨w.heap.size, 1, none⟩ = some (.int .u64 Q) /\ w'.cell? ⟨w.heap.size, 2, none⟩ = some (.int .u64 G) /\ w'.cell? ⟨w.heap.size, 3, none⟩ = some (.int .u64 H) /\ w'.cell? ⟨w.heap.size, 4, none⟩ = some (.slice a n cap) /\ w'.cell? ⟨w.heap.size + 1, 0, none⟩ = some (.int .u64 u) /\ w'.cell? ⟨w.heap.size + 1, 1, none⟩ = some (.int .u64 v)) := fun _ h => ⟨h.cell 0 0 (by simp) rfl, h.cell 0 1 (by simp) rfl, h.cell 0 2 (by simp) rfl, h.cell 0 3 (by simp) rfl, h.cell 0 4 (by simp) rfl, h.cell 1 0 (by simp) rfl, h.cell 1 1 (by simp) rfl⟩
 have HZ := lain3 w (gc P Q G H a n cap) (pc u v) (pc 0 0) 25 69 69
 clear h4 hr
 go_enter Tryz.func57, Tryz.ntmps57
 go_upto_region 1 with fail
 generalize hW : ((w.alloc (.cells (gc P Q G H a n cap) 25)).alloc (.cells (pc u v) 69)).alloc (.cells (pc 0 0) 69) = W at *
 clear hW
 obtain ⟨d0, d1, d2, d3, d4, e0, e1⟩ := HF.out _ HZ
 go_region_held3 (fun w' => w'.cell? ⟨w.heap.size, 0, none⟩ = some (.int .u64 P) /\ w'.cell? ⟨w.heap.size, 1, none⟩ = some (.int .u64 Q) /\ w'.cell? ⟨w.heap.size, 2, none⟩ = some (.int .u64 G) /\ w'.cell? ⟨w.heap.size, 3, none⟩ = some (.int .u64 H) /\ w'.cell? ⟨w.heap.size, 4, none⟩ = some (.slice a n cap) /\ w'.cell? ⟨w.heap.size + 1, 0, none⟩ = some (.int .u64 u) /\ w'.cell? ⟨w.heap.size + 1, 1, none⟩ = some (.int .u64 v)) (first | go_keep | exact HF.out _ (by assumption)) (first
  | (go_at_call 68; refine (HE.out _ _ _ (by assumption) (by assumption) (by first | assumption | exact HD.out _ (by assumption))).mono ?_; rintro e w1 ⟨rfl, hb⟩)
  | (go_at_call 106; refine (HP.out _ _ _ _ (by assumption) (by first | assumption | exact u64_exp _ _ _ _) (by first | assumption | exact HD.out _ (by assumption))).mono ?_; rintro e w2 ⟨rfl, hb⟩))
 clear d0 d1 d2 d3 d4 e0 e1
 obtain ⟨d0, d1, d2, d3, d4, e0, e1⟩ := HF.out _ hb
 go_upto_region 2 with fail
 go_region_held3 (fun w' => w'.cell? ⟨w.heap.size, 0, none⟩ = some (.int .u64 P) /\ w'.cell? ⟨w.heap.size, 1, none⟩ = some (.int .u64 Q) /\ w'.cell? ⟨w.heap.size, 2, none⟩ = some (.int .u64 G) /\ w'.cell? ⟨w.heap.size, 3, none⟩ = some (.int .u64 H) /\ w'.cell? ⟨w.heap.size, 4, none⟩ = some (.slice a n cap) /\ w'.cell? ⟨w.heap.size + 1, 0, none⟩ = some (.int .u64 u) /\ w'.cell? ⟨w.heap.size + 1, 1, none⟩ = some (.int .u64 v)) (first | go_keep | exact HF.out _ (by assumption)) (first
  | (go_at_call 68; refine (HE.out _ _ _ (by assumption) (by assumption) (by first | assumption | exact HD.out _ (by assumption))).mono ?_; rintro e w3 ⟨rfl, hb⟩)
  | (go_at_call 106; refine (HP.out _ _ _ _ (by assumption) (by first | assumption | exact u64_exp _ _ _ _) (by first | assumption | exact HD.out _ (by assumption))).mono ?_; rintro e w4 ⟨rfl, hb⟩))
 have hrow := hb.row 2 (by simp)
 have q0 := cell_of_row _ _ 0 _ _ (0, 0) hrow
 have q1 := cell_of_row _ _ 1 _ _ (0, 0) hrow
 have f0 := row_frozen hrow 0
 have f1 := row_frozen hrow 1
 have HL : Hid (Old w w4) := hb.old
 have HR : Hid (w4.heap[w.heap.size + 2]? = some (.cells #[.int .u64 0, .int .u64 0] 69 (0, 0))) := hrow
 simp at q0 q1
 clear hrow
 go_wp2_with fail
 exact bodyPost_ret (result5 (b := w.heap.size + 2) rfl rfl (load_two HR.out Tryz.underlying69 info_pair)) rfl ⟨rfl, (HL.out.setCell (by simp; omega) _).setCell (by simp; omega) _⟩
end
section
open Go.RowKit
theorem inv_any (a m : Int) (w : World) (a0 : 0 <= a) (a1 : a <= 18446744073709551615) :
  Calls Tryz.prog 138 #[.int .u64 a, .int .u64 m] w fun e w' => e = .returned (.tuple #[.int .u64 (invI a m), .bool (invB a m)]) /\ ∃ n, w' = w.drewN n := by
 cases hm : okM m
 · have hn := okM_no hm
  go_enter Tryz.func138, Tryz.ntmps138
  go_wp2_with (go_at_call 107; refine (isMod_no _ _ hn).mono ?_; rintro e w' ⟨rfl, rfl⟩)
  go_ret2
  exact ⟨ret_inv (inv_bad hm).2.symm (inv_bad hm).1.symm, 0, rfl⟩
 · have ⟨m0, m1⟩ := okM_yes hm
  obtain ⟨x0, x1⟩ := mod_bd a hm
  have HM : Hid (okM m = true) := hm
  clear hm
  have HS : Hid (∀ x y : Int, subI x y m = (x - y) % m /\ 0 <= subI x y m /\ subI x y m < m) := fun x y => by rw [subI_yes HM.out]; exact ⟨rfl, mod_bd _ HM.out⟩
  have HT : Hid (∀ x y : Int, mulI x y m = x * y % m /\ 0 <= mulI x y m /\ mulI x y m < m) := fun x y => by rw [mulI_yes HM.out]; exact ⟨rfl, mod_bd _ HM.out⟩
  have HZ : Hid (m ∣ a * 0 - m /\ m ∣ a * 1 - a % m /\ ∀ d : Int, d ∣ m -> d ∣ a % m -> d ∣ m /\ d ∣ a) := euclid_start a m
  go_enter Tryz.func138, Tryz.ntmps138
  go_wp2_with (go_at_call 107; refine (isMod_yes _ _ m0 m1).mono ?_; rintro e w' ⟨rfl, rfl⟩)
  go_quiet (fail)
  go_wp2_with fail
  go_loopw [6, 7, 8, 9] (fun rv xv fv gv wx => ∃ (r x f g : Int) (nd : Nat), rv = .int .u64 r /\ xv = .int .u64 x /\ fv = .int .u64 f /\ gv = .int .u64 g /\ 1 <= r /\ r <= m /\ 0 <= x /\ x <= m /\ 0 <= f /\ f < m /\ 0 <= g /\ g < m /\ Hid (m ∣ a * f - r) /\ Hid (m ∣ a * g - x) /\ Hid (∀ d : Int, d ∣ r -> d ∣ x -> d ∣ m /\ d ∣ a) /\ wx = w.drewN nd) (fun _ xv _ _ _ => (intOf xv).toNat)
  case atStart => exact ⟨_, _, 0, 1, _, rfl, rfl, rfl, rfl, by omega, by omega, x0, by omega, by omega, by omega, by omega, by omega, HZ.out.1, HZ.out.2.1, HZ.out.2.2, rfl⟩
  case round =>
   obtain ⟨r, x, f, g, nd, rfl, rfl, rfl, rfl, r0, r1, y0, y1, f0, f1, g0, g1, D1, D2, D3, rfl⟩ := hrel
   by_cases hx : 0 < x
   · have k0 := Int.ediv_nonneg (show 0 <= r by omega) y0
    have k1 : r / x <= r := Int.ediv_le_self _ (by omega)
    have k2 := Int.emod_nonneg r (show x ≠ 0 by omega)
    have k3 := Int.emod_lt_of_pos r hx
    obtain ⟨u1, u2, u3⟩ := HT.out (r / x) g
    obtain ⟨t1, t2, t3⟩ := HS.out f (mulI (r / x) g m)
    have U1 : Hid (mulI (r / x) g m = r / x * g % m) := u1
    have T1 : Hid (subI f (mulI (r / x) g m) m = (f - mulI (r / x) g m) % m) := t1
    clear u1 t1
    go_wp2_with fail
    go_quiet (fail)
    go_wp2_with (first | (go_at_call 72; refine (mul_any _ _ _ _ (by omega) (by omega) (by omega) (by omega)).mono ?_; rintro e w' ⟨rfl, n, rfl⟩) | (go_at_call 108; refine (sub_any _ _ _ _ (by omega) (by omega) (by omega) (by omega)).mono ?_; rintro e w' ⟨rfl, n, rfl⟩))
    go_roundw
    case rel => exact ⟨_, _, _, _, _, rfl, rfl, rfl, rfl, by omega, by omega, by omega, by omega, g0, g1, t2, t3, D2, by rw [T1.out, U1.out]; exact euclid_step D1.out D2.out, euclid_div D3.out, rfl⟩
    case measure => simp [intOf]; omega
   · have hz : x = 0 := by omega
    subst hz
    by_cases h1 : r = 1
    · subst h1
     have hy := euclid_yes HM.out f0 f1 D1.out
     have HY : Hid (invB a m = true /\ invI a m = f) := hy
     clear hy
     go_wp2
     go_ret2
     exact ⟨ret_inv HY.out.2.symm HY.out.1.symm, _, rfl⟩
    · have hy := euclid_no HM.out r0 h1 D3.out
     have HY : Hid (invB a m = false /\ invI a m = 0) := hy
     clear hy
     go_wp2
     go_ret2
     exact ⟨ret_inv HY.out.2.symm HY.out.1.symm, _, rfl⟩
end
section
open Go.RowKit
theorem gover_any (P Q G H : Int) (a : Option Addr) (n cap : Nat) (x y : Int) (w : World) (h4 : Four P Q G H) (hr : Righ P Q G) (hx : U64 x) (hy : inI P Q y = true) :
  Calls Tryz.prog 99 #[gv P Q G H a n cap, .int .u64 x, .int .u64 y] w fun e w' => e = .returned (.int .u64 (overI P x y)) /\ Old w w' := by
 have hy2 := inI_bd5 hr hy
 have hiv := hr.inv hy
 have hi2 := inI_bd5 hr hiv.2.1
 have HI : Hid (∀ wx, Beh w P Q G H a n cap wx -> Calls Tryz.prog 138 #[.int .u64 y, .int .u64 P] wx fun e w' => e = .returned (.tuple #[.int .u64 (invI y P), .bool true]) /\ Beh w P Q G H a n cap w') :=
  fun wx hb => (inv_any y P wx hy2.1 hy2.2).mono fun e w' ⟨h, k⟩ => ⟨by rw [h, hiv.1], hb.then ((Old.refl _).draws k)⟩
 have HN' : Hid (∀ wx, Beh w P Q G H a n cap wx -> Calls Tryz.prog 52 #[gv P Q G H a n cap, .int .u64 (invI y P)] wx fun e w' => e = .returned (.bool true) /\ Beh w P Q G H a n cap w') :=
  fun wx hb => (gin0 P Q G H (invI y P) a n cap wx h4.q0 h4.q1 hi2.2).mono fun e w' ⟨h, k⟩ => ⟨by rw [h, hiv.2.1], hb.then k⟩
 have HM : Hid (∀ wx t, Beh w P Q G H a n cap wx -> Calls Tryz.prog 64 #[gv P Q G H a n cap, .slice (some ⟨wx.heap.size, 0, none⟩) 2 2] (wx.alloc (.cells #[.int .u64 x, .int .u64 (invI y P)] t)) fun e w' => e = .returned (.int .u64 (overI P x y)) /\ Beh w P Q G H a n cap w') :=
  fun wx t hb => (gprod_any P Q G H a n cap _ 2 2 _ _ h4 hr (by decide) (by decide) (facs_two wx x (invI y P) t hx hi2)).mono fun e w' ⟨h, k⟩ => ⟨by rw [h, prod5 hr]; rfl, hb.then (((Old.refl _).alloc _).trans k)⟩
 have HN : Hid (∀ t, Beh w P Q G H a n cap (w.alloc (go P Q G H a n cap t))) := fun t => Beh.new ..
 have HF : Hid (∀ wx, Beh w P Q G H a n cap wx -> wx.cell? ⟨w.heap.size, 0, none⟩ = some (.int .u64 P) /\ wx.cell? ⟨w.heap.size, 1, none⟩ = some (.int .u64 Q) /\ wx.cell? ⟨w.heap.size, 2, none⟩ = some (.int .u64 G) /\ wx.cell? ⟨w.heap.size, 3, none⟩ = some (.int .u64 H) /\ wx.cell? ⟨w.heap.size, 4, none⟩ = some (.slice a n cap)) := fun _ hb => ⟨hb.cell rfl, hb.cell rfl, hb.cell rfl, hb.cell rfl, hb.cell rfl⟩
 have HO : Hid (∀ w', Beh w P Q G H a n cap w' -> Old w w') := fun _ h => h.old
 generalize overI P x y = z at *
 generalize invI y P = i at *
 clear h4 hr hx hy hy2 hiv hi2
 go_enter Tryz.func99, Tryz.ntmps99
 go_wp2_with (first
  | (go_at_call 138; refine (HI.out _ (by first | exact HN.out _ | assumption)).mono ?_; rintro e w1 ⟨rfl, hb⟩; obtain ⟨d0, d1, d2, d3, d4⟩ := HF.out _ hb)
  | (go_at_call 52; refine (HN'.out _ (by assumption)).mono ?_; rintro e w2 ⟨rfl, hb⟩; obtain ⟨d0, d1, d2, d3, d4⟩ := HF.out _ hb)
  | (go_at_call 64; refine (HM.out _ _ (by assumption)).mono ?_; rintro e w3 ⟨rfl, hb⟩))
 go_ret
 exact ⟨rfl, HO.out _ (by assumption)⟩
theorem gagain_any (P Q G H : Int) (a : Option Addr) (n cap : Nat) (y u v r : Int) (w : World) (h4 : Four P Q G H) (hr : Righ P Q G) (hy : U64 y) (hu : U64 u) (hv : U64 v) (hrr : U64 r) :
  Calls Tryz.prog 53 #[gv P Q G H a n cap, .int .u64 y, pv u v, .int .u64 r] w fun e w' => e = .returned (pv (mulI u (expI P Q G r) P) (mulI v (expI P Q y r) P)) /\ Old w w' := by
 have HE : Hid (∀ x e wx, U64 x -> U64 e -> Lain w [(gc P Q G H a n cap, 25), (pc u v, 69), (pc 0 0, 69)] wx -> Calls Tryz.prog 65 #[gv P Q G H a n cap, .int .u64 x, .int .u64 e] wx fun r w' => r = .returned (.int .u64 (expI P Q x e)) /\ Lain w [(gc P Q G H a n cap, 25), (pc u v, 69), (pc 0 0, 69)] w') :=
  fun x e wx hx he hb => (gexp_any P Q G H x e a n cap wx h4 hr hx.1 hx.2 he.1 he.2).mono fun r w' ⟨h, k⟩ => ⟨h, hb.then k⟩
 have HP : Hid (∀ x y t wx, U64 x -> U64 y -> Lain w [(gc P Q G H a n cap, 25), (pc u v, 69), (pc 0 0, 69)] wx -> Calls Tryz.prog 64 #[gv P Q G H a n cap, .slice (some ⟨wx.heap.size, 0, none⟩) 2 2] (wx.alloc (.cells #[.int .u64 x, .int .u64 y] t)) fun r w' => r = .returned (.int .u64 (mulI x y P)) /\ Lain w [(gc P Q G H a n cap, 25), (pc u v, 69), (pc 0 0, 69)] w') :=
  fun x y t wx hx hy hb => (gprod_any P Q G H a n cap _ 2 2 _ _ h4 hr (by decide) (by decide) (facs_two wx x y t hx hy)).mono fun r w' ⟨h, k⟩ => ⟨by rw [h, prod5 hr], hb.then (((Old.refl _).alloc _).trans k)⟩
 have HD : Hid (∀ wx, Lain w [(gc P Q G H a n cap, 25), (pc u v, 69), (pc 0 0, 69)] wx -> Lain w [(gc P Q G H a n cap, 25), (pc u v, 69), (pc 0 0, 69)] wx.drew) := fun _ h => h.then (Old.refl _).drew
 have HO : Hid (∀ wx, Lain w [(gc P Q G H a n cap, 25), (pc u v, 69), (pc 0 0, 69)] wx -> Old w wx) := fun _ h => h.old
 have hG : U64 G := ⟨h4.g0, h4.g1⟩
 have HF : Hid (∀ w', Lain w [(gc P Q G H a n cap, 25), (pc u v, 69), (pc 0 0, 69)] w' -> w'.cell? ⟨w.heap.size, 0, none⟩ = some (.int .u64 P) /\ w'.cell? ⟨w.heap.size, 1, none⟩ = some (.int .u64 Q) /\ w'.cell? ⟨w.heap.size, 2, none⟩ = some (.int .u64 G) /\ w'.cell? ⟨w.heap.size, 3, none⟩ = some (.int .u64 H) /\ w'.cell? ⟨w.heap.size, 4, none⟩ = some (.slice a n cap) /\ w'.cell? ⟨w.heap.size + 1, 0, none⟩ = some (.int .u64 u) /\ w'.cell? ⟨w.heap.size + 1, 1, none⟩ = some (.int .u64 v)) := fun _ h => ⟨h.cell 0 0 (by simp) rfl, h.cell 0 1 (by simp) rfl, h.cell 0 2 (by simp) rfl, h.cell 0 3 (by simp) rfl, h.cell 0 4 (by simp) rfl, h.cell 1 0 (by simp) rfl, h.cell 1 1 (by simp) rfl⟩
 have HG : Hid (∀ w0, Lain w [(gc P Q G H a n cap, 25), (pc u v, 69), (pc 0 0, 69)] w0 -> ∀ x y, (fun w' => w'.cell? ⟨w.heap.size, 0, none⟩ = some (.int .u64 P) /\ w'.cell? ⟨w.heap.size, 1, none⟩ = some (.int .u64 Q) /\ w'.cell? ⟨w.heap.size, 2, none⟩ = some (.int .u64 G) /\ w'.cell? ⟨w.heap.size, 3, none⟩ = some (.int .u64 H) /\ w'.cell? ⟨w.heap.size, 4, none⟩ = some (.slice a n cap) /\ w'.cell? ⟨w.heap.size + 1, 0, none⟩ = some (.int .u64 u) /\ w'.cell? ⟨w.heap.size + 1, 1, none⟩ = some (.int .u64 v)) ((w0.setCell ⟨w.heap.size + 1 + 1, 0, none⟩ x).setCell ⟨w.heap.size + 1 + 1, 1, none⟩ y)) := fun w0 h x y => by
  obtain ⟨c0, c1, c2, c3, c4, c5, c6⟩ := HF.out _ h
  exact ⟨cell_far (by omega) (cell_far (by omega) c0), cell_far (by omega) (cell_far (by omega) c1), cell_far (by omega) (cell_far (by omega) c2), cell_far (by omega) (cell_far (by omega) c3), cell_far (by omega) (cell_far (by omega) c4), cell_far (by omega) (cell_far (by omega) c5), cell_far (by omega) (cell_far (by omega) c6)⟩
 have HZ := lain3 w (gc P Q G H a n cap) (pc u v) (pc 0 0) 25 69 69
 clear h4 hr
 go_enter Tryz.func53, Tryz.ntmps53
 go_upto_region 1 with fail
 generalize hW : ((w.alloc (.cells (gc P Q G H a n cap) 25)).alloc (.cells (pc u v) 69)).alloc (.cells (pc 0 0) 69) = W at *
 clear hW
 obtain ⟨d0, d1, d2, d3, d4, e0, e1⟩ := HF.out _ HZ
 go_region_held3 (fun w' => w'.cell? ⟨w.heap.size, 0, none⟩ = some (.int .u64 P) /\ w'.cell? ⟨w.heap.size, 1, none⟩ = some (.int .u64 Q) /\ w'.cell? ⟨w.heap.size, 2, none⟩ = some (.int .u64 G) /\ w'.cell? ⟨w.heap.size, 3, none⟩ = some (.int .u64 H) /\ w'.cell? ⟨w.heap.size, 4, none⟩ = some (.slice a n cap) /\ w'.cell? ⟨w.heap.size + 1, 0, none⟩ = some (.int .u64 u) /\ w'.cell? ⟨w.heap.size + 1, 1, none⟩ = some (.int .u64 v)) (first | exact HF.out _ (by assumption) | (go_keep; done) | (and_intros <;> exact cell_far (by omega) (cell_far (by omega) (by assumption)))) (first
  | (go_at_call 65; refine (HE.out _ _ _ (by assumption) (by assumption) (by first | assumption | exact HD.out _ (by assumption))).mono ?_; rintro e w1 ⟨rfl, hb⟩)
  | (go_at_call 64; refine (HP.out _ _ _ _ (by assumption) (by first | assumption | exact u64_exp _ _ _ _) (by first | assumption | exact HD.out _ (by assumption))).mono ?_; rintro e w2 ⟨rfl, hb⟩; have hrow := hb.row 2 (by simp); have q0 : _ = some (Value.int .u64 0) := cell_of_row _ _ 0 _ _ (0, 0) hrow; have q1 : _ = some (Value.int .u64 0) := cell_of_row _ _ 1 _ _ (0, 0) hrow; have f0 := row_frozen hrow 0; have f1 := row_frozen hrow 1; clear hrow; obtain ⟨s0, s1, s2, s3, s4, s5, s6⟩ := HF.out _ hb))
 have HL : Hid (Old w w2) := hb.old
 have HR : Hid (w2.heap[w.heap.size + 2]? = some (.cells #[.int .u64 0, .int .u64 0] 69 (0, 0))) := hb.row 2 (by simp)
 go_wp2_with fail
 exact bodyPost_ret (result5 (b := w.heap.size + 2) rfl rfl (load_two HR.out Tryz.underlying69 info_pair)) rfl ⟨rfl, (HL.out.setCell (by simp; omega) _).setCell (by simp; omega) _⟩
end
section
open Go.RowKit
def sN : Nat -> Int | 0 => 5 | 1 => 11 | 2 => 23 | 3 => 1013 | _ => 2027
def sA : Nat -> Int | 0 => 2 | 1 => 2 | 2 => 5 | 3 => 3 | _ => 2
def sL : Nat -> Nat | 0 => 1 | 1 => 2 | 2 => 2 | 3 => 3 | _ => 2
def sF : Nat -> Nat -> Int | 0, _ => 2 | 1, 0 => 2 | 1, _ => 5 | 2, 0 => 2 | 2, _ => 11 | 3, 0 => 2 | 3, 1 => 11 | 3, _ => 23 | _, 0 => 2 | _, _ => 1013
def sP (k : Nat) (i : Nat) : Option Addr := some ⟨k + 1 + i, 0, none⟩
theorem small_right : rightI 2027 1013 4 9 sN sA sF sL 5 = true := by decide +kernel
theorem small_righ : Righ 2027 1013 4 := right_righ (fun i _ => by unfold sA; split <;> decide) small_right
def sW (w : World) (g : Obj) (t t' : TypeId) : World := ((((((w.alloc g).alloc (.cells #[.int .u64 2] t)).alloc (.cells #[.int .u64 2, .int .u64 5] t)).alloc (.cells #[.int .u64 2, .int .u64 11] t)).alloc (.cells #[.int .u64 2, .int .u64 11, .int .u64 23] t)).alloc (.cells #[.int .u64 2, .int .u64 1013] t)).alloc (.cells #[.int .u64 5, .int .u64 2, .slice (some ⟨w.heap.size + 1, 0, none⟩) 1 1, .int .u64 11, .int .u64 2, .slice (some ⟨w.heap.size + 1 + 1, 0, none⟩) 2 2, .int .u64 23, .int .u64 5, .slice (some ⟨w.heap.size + 1 + 1 + 1, 0, none⟩) 2 2, .int .u64 1013, .int .u64 3, .slice (some ⟨w.heap.size + 1 + 1 + 1 + 1, 0, none⟩) 3 3, .int .u64 2027, .int .u64 2, .slice (some ⟨w.heap.size + 1 + 1 + 1 + 1 + 1, 0, none⟩) 2 2] t')
theorem sW_old (w : World) (g : Obj) (t t' : TypeId) : Old (w.alloc g) (sW w g t t') := ((((((Old.refl _).alloc _).alloc _).alloc _).alloc _).alloc _).alloc _
theorem sW_size (w : World) (g : Obj) (t t' : TypeId) : (sW w g t t').heap.size = w.heap.size + 7 := by simp [sW]
theorem sW_top (w : World) (g : Obj) (t t' : TypeId) (i : Nat) : (sW w g t t').cell? ⟨w.heap.size + 1 + 1 + 1 + 1 + 1 + 1, i, none⟩ = (#[.int .u64 5, .int .u64 2, .slice (some ⟨w.heap.size + 1, 0, none⟩) 1 1, .int .u64 11, .int .u64 2, .slice (some ⟨w.heap.size + 1 + 1, 0, none⟩) 2 2, .int .u64 23, .int .u64 5, .slice (some ⟨w.heap.size + 1 + 1 + 1, 0, none⟩) 2 2, .int .u64 1013, .int .u64 3, .slice (some ⟨w.heap.size + 1 + 1 + 1 + 1, 0, none⟩) 3 3, .int .u64 2027, .int .u64 2, .slice (some ⟨w.heap.size + 1 + 1 + 1 + 1 + 1, 0, none⟩) 2 2] : Array Value)[i]? := by
 unfold sW
 rw [World.cell?_alloc_at _ _ _ _ (by simp)]
theorem sW_0 (w : World) (g : Obj) (t t' : TypeId) (i : Nat) : (sW w g t t').cell? ⟨w.heap.size + 1, i, none⟩ = (#[.int .u64 2] : Array Value)[i]? := by
 unfold sW
 rw [World.cell?_alloc_past _ _ _ (by simp <;> omega), World.cell?_alloc_past _ _ _ (by simp <;> omega), World.cell?_alloc_past _ _ _ (by simp <;> omega), World.cell?_alloc_past _ _ _ (by simp <;> omega), World.cell?_alloc_past _ _ _ (by simp <;> omega), World.cell?_alloc_at _ _ _ _ (by simp)]
theorem sW_1 (w : World) (g : Obj) (t t' : TypeId) (i : Nat) : (sW w g t t').cell? ⟨w.heap.size + 1 + 1, i, none⟩ = (#[.int .u64 2, .int .u64 5] : Array Value)[i]? := by
 unfold sW
 rw [World.cell?_alloc_past _ _ _ (by simp <;> omega), World.cell?_alloc_past _ _ _ (by simp <;> omega), World.cell?_alloc_past _ _ _ (by simp <;> omega), World.cell?_alloc_past _ _ _ (by simp <;> omega), World.cell?_alloc_at _ _ _ _ (by simp)]
theorem sW_2 (w : World) (g : Obj) (t t' : TypeId) (i : Nat) : (sW w g t t').cell? ⟨w.heap.size + 1 + 1 + 1, i, none⟩ = (#[.int .u64 2, .int .u64 11] : Array Value)[i]? := by
 unfold sW
 rw [World.cell?_alloc_past _ _ _ (by simp <;> omega), World.cell?_alloc_past _ _ _ (by simp <;> omega), World.cell?_alloc_past _ _ _ (by simp <;> omega), World.cell?_alloc_at _ _ _ _ (by simp)]
theorem sW_3 (w : World) (g : Obj) (t t' : TypeId) (i : Nat) : (sW w g t t').cell? ⟨w.heap.size + 1 + 1 + 1 + 1, i, none⟩ = (#[.int .u64 2, .int .u64 11, .int .u64 23] : Array Value)[i]? := by
 unfold sW
 rw [World.cell?_alloc_past _ _ _ (by simp <;> omega), World.cell?_alloc_past _ _ _ (by simp <;> omega), World.cell?_alloc_at _ _ _ _ (by simp)]
theorem sW_4 (w : World) (g : Obj) (t t' : TypeId) (i : Nat) : (sW w g t t').cell? ⟨w.heap.size + 1 + 1 + 1 + 1 + 1, i, none⟩ = (#[.int .u64 2, .int .u64 1013] : Array Value)[i]? := by
 unfold sW
 rw [World.cell?_alloc_past _ _ _ (by simp <;> omega), World.cell?_alloc_at _ _ _ _ (by simp)]
theorem sW_rows (w : World) (g : Obj) (t t' : TypeId) : RowsIn (sW w g t t') (some ⟨w.heap.size + 1 + 1 + 1 + 1 + 1 + 1, 0, none⟩) 5 sN sA (sP w.heap.size) sL sL sF := by
 refine Or.inr ⟨_, _, rfl, by rw [sW_size]; omega, fun i hi => ?_⟩
 match i, hi with
 | 0, _ =>
  refine ⟨(sW_top ..).trans rfl, (sW_top ..).trans rfl, (sW_top ..).trans rfl, by decide, by decide, by decide, by decide, Nat.le_refl _, by decide, Or.inr ⟨_, _, rfl, by rw [sW_size]; omega, fun j hj => ?_⟩⟩
  match j, hj with
  | 0, _ => exact ⟨(sW_0 ..).trans rfl, by decide, by decide⟩
 | 1, _ =>
  refine ⟨(sW_top ..).trans rfl, (sW_top ..).trans rfl, (sW_top ..).trans rfl, by decide, by decide, by decide, by decide, Nat.le_refl _, by decide, Or.inr ⟨_, _, rfl, by rw [sW_size]; omega, fun j hj => ?_⟩⟩
  match j, hj with
  | 0, _ => exact ⟨(sW_1 ..).trans rfl, by decide, by decide⟩
  | 1, _ => exact ⟨(sW_1 ..).trans rfl, by decide, by decide⟩
 | 2, _ =>
  refine ⟨(sW_top ..).trans rfl, (sW_top ..).trans rfl, (sW_top ..).trans rfl, by decide, by decide, by decide, by decide, Nat.le_refl _, by decide, Or.inr ⟨_, _, rfl, by rw [sW_size]; omega, fun j hj => ?_⟩⟩
  match j, hj with
  | 0, _ => exact ⟨(sW_2 ..).trans rfl, by decide, by decide⟩
  | 1, _ => exact ⟨(sW_2 ..).trans rfl, by decide, by decide⟩
 | 3, _ =>
  refine ⟨(sW_top ..).trans rfl, (sW_top ..).trans rfl, (sW_top ..).trans rfl, by decide, by decide, by decide, by decide, Nat.le_refl _, by decide, Or.inr ⟨_, _, rfl, by rw [sW_size]; omega, fun j hj => ?_⟩⟩
  match j, hj with
  | 0, _ => exact ⟨(sW_3 ..).trans rfl, by decide, by decide⟩
  | 1, _ => exact ⟨(sW_3 ..).trans rfl, by decide, by decide⟩
  | 2, _ => exact ⟨(sW_3 ..).trans rfl, by decide, by decide⟩
 | 4, _ =>
  refine ⟨(sW_top ..).trans rfl, (sW_top ..).trans rfl, (sW_top ..).trans rfl, by decide, by decide, by decide, by decide, Nat.le_refl _, by decide, Or.inr ⟨_, _, rfl, by rw [sW_size]; omega, fun j hj => ?_⟩⟩
  match j, hj with
  | 0, _ => exact ⟨(sW_4 ..).trans rfl, by decide, by decide⟩
  | 1, _ => exact ⟨(sW_4 ..).trans rfl, by decide, by decide⟩
theorem result_cell {P : Program} {fn : Func} {s : Tmp} {t : TypeId} {tmps : Array Value} {w : World} {b : Nat} {v : Value} (h : fn.results = #[.cell s t]) (hp : tmps[s]? = some (.pointer (some ⟨b, 0, none⟩))) (hl : (loadVar t ⟨b, 0, none⟩).run P w = .ok v w) : (results fn tmps).run P w = .ok v w := by
 simp [results, h, hp, asAddr, hl]
theorem small4_any (w : World) : Calls Tryz.prog 46 #[] w fun e w' => ∃ a FA, e = .returned (gv 2027 1013 4 9 a 5 5) /\ RowsIn w' a 5 sN sA FA sL sL sF /\ Old w w' := by
 have hi : (Tryz.prog.info? 25).map (·.size) = some 5 := by kernel_rfl
 go_enter Tryz.func46, Tryz.ntmps46
 go_wp2_with fail
 refine bodyPost_ret (v := gv 2027 1013 4 9 (some ⟨w.heap.size + 1 + 1 + 1 + 1 + 1 + 1, 0, none⟩) 5 5) (result_cell (b := w.heap.size) rfl rfl (run_loadVar_row _ _ 25 _ _ (0, 0) _ ?_ Tryz.underlying25 rfl hi)) rfl ⟨_, _, rfl, sW_rows w _ _ _, ((Old.refl w).alloc _).trans (sW_old w _ _ _)⟩
 refine ((sW_old w _ _ _).block _ (by simp)).trans ?_
 unfold World.alloc
 simp
end
section
open Go.RowKit
theorem group5_any (P Q G H : Int) (a : Option Addr) (n cap : Nat) (N A : Nat -> Int) (FA : Nat -> Option Addr) (L C : Nat -> Nat) (F : Nat -> Nat -> Int) (w : World) (h4 : Four P Q G H) (hin : RowsIn w a n N A FA L C F) :
  Calls Tryz.prog 13 #[gv P Q G H a n cap] w fun e w' => e = .returned (.bool (fewB L n && rightI P Q G H N A F L n)) /\ Old w w' := by
 have HI : Hid (RowsIn w a n N A FA L C F) := hin
 have HR : Hid (n <= 80 -> ∀ wx, Beh w P Q G H a n cap wx -> Calls Tryz.prog 48 #[gv P Q G H a n cap] wx fun e w' => e = .returned (.bool (rightI P Q G H N A F L n)) /\ Beh w P Q G H a n cap w') := fun hn wx hb => (rright_any P Q G H a n cap N A FA L C F wx hn (hin.old hb.old) h4.q0 h4.q1 h4.g1 h4.h1).mono fun e w' ⟨h, k⟩ => ⟨h, hb.then k⟩
 have HF : Hid (∀ wx, Beh w P Q G H a n cap wx -> wx.cell? ⟨w.heap.size, 0, none⟩ = some (.int .u64 P) /\ wx.cell? ⟨w.heap.size, 1, none⟩ = some (.int .u64 Q) /\ wx.cell? ⟨w.heap.size, 2, none⟩ = some (.int .u64 G) /\ wx.cell? ⟨w.heap.size, 3, none⟩ = some (.int .u64 H) /\ wx.cell? ⟨w.heap.size, 4, none⟩ = some (.slice a n cap)) := fun _ hb => ⟨hb.cell rfl, hb.cell rfl, hb.cell rfl, hb.cell rfl, hb.cell rfl⟩
 clear hin h4
 generalize rightI P Q G H N A F L n = R at *
 by_cases h80 : 80 < n
 · have HN : Hid (fewB L n = false) := no_of fun hc => by have := (fewB_iff.1 hc).1; omega
  go_enter Tryz.func13, Tryz.ntmps13
  go_wp2_with fail
  go_ret
  exact ⟨ret_bool (by rw [HN.out]; rfl), (Old.refl _).alloc _⟩
 go_enter Tryz.func13, Tryz.ntmps13
 go_wp2_with fail
 go_loopw [12] (fun iv wx => ∃ i : Nat, iv = .int .i64 (i : Int) /\ i <= n /\ Hid (Beh w P Q G H a n cap wx) /\ Hid (∀ j, j < i -> L j <= 40)) (fun iv _ => n - (intOf iv).toNat)
 case atStart => exact ⟨0, rfl, Nat.zero_le _, Beh.new .., fun j hj => by omega⟩
 case round =>
  obtain ⟨i, rfl, hi, HB, HJ⟩ := hrel
  by_cases hlt : i < n
  · rcases HI.out.old HB.out.old with h0 | ⟨b, off, rfl, hb, hr⟩
   · omega
   have r := hr i hlt
   clear hr
   obtain ⟨c0, c1, c2⟩ := (⟨r.c0, r.c1, r.c2⟩ : _ /\ _ /\ _)
   clear r
   by_cases h40 : 40 < L i
   · have HN : Hid (fewB L n = false) := no_of fun hc => by have := (fewB_iff.1 hc).2 i hlt; omega
    go_wp2_with fail
    go_ret
    exact ⟨ret_bool (by rw [HN.out]; rfl), HB.out.old.alloc _⟩
   · have HM : Hid (L i <= 40) := Nat.le_of_not_lt h40
    go_wp2_with fail
    go_roundw
    case rel => exact ⟨i + 1, idx_next i, by omega, HB.out.then ((Old.refl _).alloc _), upto_succ HJ.out HM.out⟩
    case measure => simp [intOf]; omega
  · have he : i = n := by omega
   subst he
   have HN : Hid (fewB L i = true) := fewB_iff.2 ⟨by omega, HJ.out⟩
   have HR' : Hid (∀ wx, Beh w P Q G H a i cap wx -> Calls Tryz.prog 48 #[gv P Q G H a i cap] wx fun e w' => e = .returned (.bool R) /\ Beh w P Q G H a i cap w') := HR.out (by omega)
   obtain ⟨d0, d1, d2, d3, d4⟩ := HF.out _ HB.out
   go_wp2_with (go_at_call 48; refine (HR'.out _ HB.out).mono ?_; rintro e w1 ⟨rfl, hb1⟩)
   go_ret
   exact ⟨ret_bool (by rw [HN.out]; rfl), hb1.old⟩
end
section
open Go.RowKit
theorem four_sm : Four 2027 1013 4 9 := ⟨by decide, by decide, by decide, by decide, by decide, by decide, by decide, by decide⟩
end
section
open Go.RowKit
theorem u64info : (Tryz.prog.info? 22).map (fun i => (i.zero, i.size, i.bytes)) = some (some (.int .u64 0), 1, 8) := by kernel_rfl
def Nums (w : World) (base : Nat) (v : Value) (k : Nat) (F : Nat -> Int) : Prop := w.ownsRow base 22 1 v k ((List.range k).map fun i => Value.int .u64 (F i))
theorem nums_nil (w : World) (base : Nat) (F : Nat -> Int) : Nums w base (.slice none 0 0) 0 F := World.ownsRow_nil _ _ _ _
theorem Nums.old {w w' : World} {base k : Nat} {v : Value} {F : Nat -> Int} (h : Nums w base v k F) (ho : Old w w') : Nums w' base v k F := by
 refine ⟨h.1, ?_⟩
 rcases h.2 with hn | ⟨g, cap, cur, hv, hb, hg, rest⟩
 · exact Or.inl hn
 · exact Or.inr ⟨g, cap, cur, hv, hb, (ho.block g (Array.getElem?_eq_some_iff.1 hg).1).trans hg, rest⟩
theorem Nums.facs {w : World} {base k : Nat} {v : Value} {F : Nat -> Int} (h : Nums w base v k F) (hF : ∀ i, i < k -> U64 (F i)) : ∃ b c, v = .slice b k c /\ k <= c /\ FacsIn w b k F := by
 have h' := h
 rcases h.2 with ⟨rfl, rfl⟩ | ⟨g, cap, cur, rfl, hb, hg, hc, _⟩
 · exact ⟨none, 0, rfl, Nat.le_refl _, Or.inl rfl⟩
 · refine ⟨some ⟨g, 0, none⟩, cap, rfl, hc, Or.inr ⟨g, 0, rfl, (Array.getElem?_eq_some_iff.1 hg).1, fun j hj => ⟨?_, hF j hj⟩⟩⟩
  rw [Nat.zero_add, World.ownsRow.cellAt h' j (by omega)]
  simp [List.getElem?_map, List.getElem?_range hj]
theorem Nums.app {w : World} {base k : Nat} {v : Value} {F : Nat -> Int} {x : Int} (h : w.ownsRow base 22 1 v (k + 1) ((List.range k).map (fun i => Value.int .u64 (F i)) ++ [.int .u64 x])) (hx : F k = x) : Nums w base v (k + 1) F := by
 unfold Nums
 rw [List.range_succ, List.map_append]
 simpa [hx] using h
theorem Old.grown {a w w' : World} {row : Option Nat} (h : Old a w) (hg : w.grownBy w' row) (hr : ∀ k, row = some k -> a.heap.size <= k) : Old a w' :=
 ⟨hg.os.trans h.os, hg.output.trans h.output, Nat.le_trans h.size hg.size, fun k hk => (hg.block k (Nat.lt_of_lt_of_le hk h.size) (fun e => by have := hr k e.symm; omega)).trans (h.block k hk)⟩
theorem Nums.grown {a w w' : World} {k : Nat} {v : Value} {F : Nat -> Int} {o : Obj} (h : Nums w a.heap.size v k F) (ho : Old a w) (hg : (w.alloc o).grownBy w' v.ownBlock) : Old a w' :=
 (ho.alloc o).grown hg fun k hk => (World.ownsRow.lt h k hk).1
theorem facs_tail {w : World} {b off l : Nat} {D : Nat -> Int} (h : FacsIn w (some ⟨b, off, none⟩) l D) : FacsIn w (some ⟨b, off + 1, none⟩) (l - 1) (fun i => D (i + 1)) := by
 rcases h with h | ⟨_, _, hq, hb, hr⟩
 · exact Or.inl (by omega)
 · cases hq
  exact Or.inr ⟨b, off + 1, rfl, hb, fun j hj => by have := hr (j + 1) (by omega); rwa [<- Nat.add_assoc, Nat.add_right_comm] at this⟩
theorem FacsIn.u64 {w : World} {b : Option Addr} {l : Nat} {D : Nat -> Int} (h : FacsIn w b l D) : ∀ i, i < l -> U64 (D i) := fun i hi => by
 rcases h with h0 | ⟨_, _, _, _, h⟩
 · omega
 · exact (h i hi).2
structure Pd (w : World) (l : List (Array Value × TypeId)) (b : Nat) (u v : Int) (W : World) : Prop where
 lain : Lain w l W
 far : w.heap.size + l.length <= b
 row : W.heap[b]? = some (.cells #[.int .u64 u, .int .u64 v] 69 (0, 0))
end
section
def imI (P Q : Int) (B W : Nat -> Int) (n : Nat) : Int := prodI P (fun k => expI P Q (B k) (W k)) n
def pw (B W : Nat -> Int) : Nat -> Int
 | 0 => 1
 | k + 1 => pw B W k * B k ^ (W k).toNat
theorem Righ.im_cong {P Q G : Int} (h : Righ P Q G) {B W : Nat -> Int} : ∀ n, (∀ k, k < n -> inI P Q (B k) = true) -> (∀ k, k < n -> 0 <= W k) -> imI P Q B W n % P = pw B W n % P
 | 0, _, _ => rfl
 | n + 1, hB, hW => by
  show mulI (imI P Q B W n) (expI P Q (B n) (W n)) P % P = pw B W n * B n ^ (W n).toNat % P
  exact mul_cong h.ok (h.im_cong n (fun k hk => hB k (by omega)) (fun k hk => hW k (by omega))) (h.exp_cong (hB n (by omega)) (hW n (by omega)))
theorem Righ.im_in {P Q G : Int} (h : Righ P Q G) {B W : Nat -> Int} (n : Nat) (hB : ∀ k, k < n -> inI P Q (B k) = true) : inI P Q (imI P Q B W n) = true :=
 h.prod_in n fun k hk => h.exp_in (hB k hk)
theorem Righ.same {P Q G a b : Int} (h : Righ P Q G) (ha : inI P Q a = true) (hb : inI P Q b = true) (he : a % P = b % P) : a = b := by
 rwa [h.self ha, h.self hb] at he
theorem Righ.okq {P Q G : Int} (h : Righ P Q G) : okM Q = true := by
 have := h.q0; have := h.q1
 exact okM_of (by omega) (by omega)
theorem exp_mod {P Q x a b : Int} (h : a % Q = b % Q) : expI P Q x a = expI P Q x b := by unfold expI; rw [h]
theorem im_mod {P Q : Int} {B V W : Nat -> Int} : ∀ n, (∀ k, k < n -> V k % Q = W k % Q) -> imI P Q B V n = imI P Q B W n
 | 0, _ => rfl
 | n + 1, h => by
  show mulI (imI P Q B V n) (expI P Q (B n) (V n)) P = mulI (imI P Q B W n) (expI P Q (B n) (W n)) P
  rw [im_mod n (fun k hk => h k (by omega)), exp_mod (h n (by omega))]
def ansI (Q e w d : Int) : Int := addI d (mulI e w Q) Q
theorem ans_mod {Q e w d : Int} (h : okM Q = true) : ansI Q e w d % Q = (d + e * w) % Q := by
 unfold ansI
 rw [addI_yes h, mod_self, mulI_yes h]
 exact cong_add rfl (mod_self _ _)
theorem pw_ans {e : Int} {B W D Z : Nat -> Int} (he : 0 <= e) : ∀ n, (∀ k, k < n -> 0 <= W k) -> (∀ k, k < n -> 0 <= D k) -> (∀ k, k < n -> Z k = D k + e * W k) -> pw B Z n = pw B D n * pw B W n ^ e.toNat
 | 0, _, _, _ => by show (1 : Int) = 1 * 1 ^ e.toNat; rw [Int.one_pow, Int.one_mul]
 | n + 1, hW, hD, hZ => by
  show pw B Z n * B n ^ (Z n).toNat = pw B D n * B n ^ (D n).toNat * (pw B W n * B n ^ (W n).toNat) ^ e.toNat
  have hw := hW n (by omega)
  have hd := hD n (by omega)
  have hew : 0 <= e * W n := Int.mul_nonneg he hw
  rw [pw_ans he n (fun k hk => hW k (by omega)) (fun k hk => hD k (by omega)) (fun k hk => hZ k (by omega)), hZ n (by omega), Int.toNat_add hd hew, Int.toNat_mul he hw, Int.pow_add, Nat.mul_comm, Int.pow_mul, Int.mul_pow]
  simp only [Int.mul_assoc, Int.mul_comm, Int.mul_left_comm]
theorem Righ.im_ans {P Q G e : Int} (h : Righ P Q G) {B W D : Nat -> Int} (n : Nat) (hB : ∀ k, k < n -> inI P Q (B k) = true) (hW : ∀ k, k < n -> 0 <= W k) (hD : ∀ k, k < n -> 0 <= D k) (he : 0 <= e) :
  imI P Q B (fun k => ansI Q e (W k) (D k)) n = mulI (imI P Q B D n) (expI P Q (imI P Q B W n) e) P := by
 rw [im_mod (W := fun k => D k + e * W k) n (fun k _ => ans_mod h.okq)]
 refine h.same (h.im_in n hB) (h.mul_in (h.im_in n hB) (h.exp_in (h.im_in n hB))) ?_
 rw [h.im_cong n hB (fun k hk => Int.add_nonneg (hD k hk) (Int.mul_nonneg he (hW k hk))), mul_cong h.ok (h.im_cong n hB hD) ((h.exp_cong (h.im_in n hB) he).trans (cong_pow (h.im_cong n hB hW) _)), pw_ans he n hW hD (fun _ _ => rfl)]
theorem subI_nn (a b m : Int) : 0 <= subI a b m := (subI_bd a b m).1
theorem sub_back {a b m : Int} (h : okM m = true) : (subI a b m + b) % m = a % m := by
 rw [subI_yes h, cong_add (mod_self (a - b) m) rfl, Int.sub_add_cancel]
end
end Go.Proofs.YtlnmjbbpenhdbaaGreat
