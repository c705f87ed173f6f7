/-
  How a claim lies in memory, and what claim is one, as plain functions (layer 6).
  The contracts of the document's functions of layer 6: the same numbers, answers, draws, what is extracted.
  The contracts of the document's functions of layer 6: the image of exponents, and whether a claim holds.
  The contracts of the document's functions of layer 6: whether a claim holds, what is faked, which talk is accepted.
  The statements' Few (layer 6).
  The statements' claim (layer 6): one that holds for the exponents.
  Rows that are 1 but at few places, and what is committed (layer 8).
  Bytes of numbers as plain lists, and the contract of the document's Bytes (layer 3).
  SHA-256 as plain functions of whole numbers.
  Texts as lists of numbers, and a text's bytes as they lie in a new row.
  The first inner loop of the document's Sum: the 64 words of a piece.
  The second inner loop of the document's Sum: the 64 rounds over a piece.
  The third inner loop of the document's Sum: the eight sums.
  The contract of the document's Sum (layer 3).
  The contract of the document's Mac (layer 3).
  The contract of the document's Number (layer 3).
  The contracts of the document's leaves and above (layer 3).
  Regions whose order is drawn, by an invariant: whatever comes up next keeps it.
  Claims that are made anew (layer 7).
-/
import Derived.Test.YtlnmjbbpenhdbaaGreatKc05
import Derived.Deep.RegionHeld3
import Derived.Deep.AppendLies
import Derived.Laws.ResultCell
import Derived.Test.YtlnmjbbpenhdbaaGreatKc01
import Derived.Test.YtlnmjbbpenhdbaaGreatProg
import Derived.WalkKit
import Derived.Laws.BytesArg
import Derived.Deep.QuietTactic
import Derived.BigQuiet
import Derived.WalkLawsBesides
import Derived.WalkSpells
import Derived.Laws.Closers25b
import Derived.Test.YtlnmjbbpenhdbaaGreatKc04
import Derived.Laws.IdiomStrings
import Derived.Deep.OwnRows
import Derived.Deep.CutRange
import Derived.Deep.CutBlock
import Derived.Deep.DeepCutAuto
import Derived.Laws.BitsAllLaws
import Derived.RowKit
import Derived.Below
namespace Go.Proofs.YtlnmjbbpenhdbaaGreat
open Go.RowKit

/-- Lists of numbers that lie one behind the other. -/
def ListsIn (w : World) (a : Option Addr) (n : Nat) (BA : Nat → Option Addr) (L C : Nat → Nat) (B : Nat → Nat → Int) : Prop :=
  n = 0 ∨ ∃ b off, a = some ⟨b, off, none⟩ ∧ b < w.heap.size ∧ ∀ j, j < n → w.cell? ⟨b, off + j, none⟩ = some (.slice (BA j) (L j) (C j)) ∧ L j ≤ C j ∧ C j ≤ 9223372036854775807 ∧ FacsIn w (BA j) (L j) (B j)
theorem ListsIn.old {w w' : World} {a : Option Addr} {n : Nat} {BA : Nat → Option Addr} {L C : Nat → Nat} {B : Nat → Nat → Int} (h : ListsIn w a n BA L C B) (ho : Old w w') : ListsIn w' a n BA L C B := by
  rcases h with h | ⟨b, off, ha, hb, hr⟩
  · exact Or.inl h
  · exact Or.inr ⟨b, off, ha, Nat.lt_of_lt_of_le hb ho.size, fun j hj => ⟨ho.cellOf (hr j hj).1, (hr j hj).2.1, (hr j hj).2.2.1, (hr j hj).2.2.2.old ho⟩⟩
theorem ListsIn.facs {w : World} {a : Option Addr} {n : Nat} {BA : Nat → Option Addr} {L C : Nat → Nat} {B : Nat → Nat → Int} (h : ListsIn w a n BA L C B) {j : Nat} (hj : j < n) : FacsIn w (BA j) (L j) (B j) := by
  rcases h with h | ⟨_, _, _, _, hr⟩
  · omega
  · exact (hr j hj).2.2.2

abbrev cv (bt : Option Addr) (nt ct : Nat) (bb : Option Addr) (nb cb : Nat) : Value := .agg #[.slice bt nt ct, .slice bb nb cb]
abbrev cc (bt : Option Addr) (nt ct : Nat) (bb : Option Addr) (nb cb : Nat) : Array Value := #[.slice bt nt ct, .slice bb nb cb]

/-- A claim in memory: targets, and rows of bases. -/
structure ClaimIn (w : World) (bt : Option Addr) (nt ct : Nat) (T : Nat → Int) (bb : Option Addr) (nb cb : Nat) (BA : Nat → Option Addr) (L C : Nat → Nat) (B : Nat → Nat → Int) : Prop where
  tc : nt ≤ ct
  tm : ct ≤ 9223372036854775807
  bc : nb ≤ cb
  bm : cb ≤ 9223372036854775807
  tar : FacsIn w bt nt T
  bas : ListsIn w bb nb BA L C B
theorem ClaimIn.old {w w' : World} {bt : Option Addr} {nt ct : Nat} {T : Nat → Int} {bb : Option Addr} {nb cb : Nat} {BA : Nat → Option Addr} {L C : Nat → Nat} {B : Nat → Nat → Int} (h : ClaimIn w bt nt ct T bb nb cb BA L C B) (ho : Old w w') : ClaimIn w' bt nt ct T bb nb cb BA L C B :=
  ⟨h.tc, h.tm, h.bc, h.bm, h.tar.old ho, h.bas.old ho⟩

/-- The rows up to k are right ones, of n bases. -/
def rowsB (P Q : Int) (T : Nat → Int) (L : Nat → Nat) (B : Nat → Nat → Int) (n k : Nat) : Bool :=
  (List.range k).all fun j => inI P Q (T j) && (decide (L j = n) && (List.range n).all fun i => inI P Q (B j i))
theorem rowsB_iff {P Q : Int} {T : Nat → Int} {L : Nat → Nat} {B : Nat → Nat → Int} {n k : Nat} : rowsB P Q T L B n k = true ↔ ∀ j, j < k → inI P Q (T j) = true ∧ L j = n ∧ ∀ i, i < n → inI P Q (B j i) = true := by
  simp [rowsB]
/-- How many exponents a claim is about. -/
def sizeN (P Q : Int) (nt : Nat) (T : Nat → Int) (nb : Nat) (L : Nat → Nat) (B : Nat → Nat → Int) : Nat :=
  if 1 ≤ nt ∧ nt ≤ 64 ∧ nb = nt ∧ 1 ≤ L 0 ∧ L 0 ≤ 64 ∧ rowsB P Q T L B (L 0) nt = true then L 0 else 0
/-- It is a claim, of n. -/
structure IsClaim (P Q : Int) (nt : Nat) (T : Nat → Int) (nb : Nat) (L : Nat → Nat) (B : Nat → Nat → Int) (n : Nat) : Prop where
  t1 : 1 ≤ nt
  t64 : nt ≤ 64
  nb : nb = nt
  n1 : 1 ≤ n
  n64 : n ≤ 64
  len : ∀ j, j < nt → L j = n
  tin : ∀ j, j < nt → inI P Q (T j) = true
  bin : ∀ j, j < nt → ∀ i, i < n → inI P Q (B j i) = true
theorem IsClaim.size {P Q : Int} {nt : Nat} {T : Nat → Int} {nb : Nat} {L : Nat → Nat} {B : Nat → Nat → Int} {n : Nat} (h : IsClaim P Q nt T nb L B n) : sizeN P Q nt T nb L B = n := by
  have h0 := h.len 0 h.t1
  unfold sizeN
  rw [if_pos ⟨h.t1, h.t64, h.nb, by rw [h0]; exact h.n1, by rw [h0]; exact h.n64, by rw [h0]; exact rowsB_iff.2 fun j hj => ⟨h.tin j hj, h.len j hj, h.bin j hj⟩⟩, h0]
theorem sizeN_claim {P Q : Int} {nt : Nat} {T : Nat → Int} {nb : Nat} {L : Nat → Nat} {B : Nat → Nat → Int} (h : sizeN P Q nt T nb L B ≠ 0) : IsClaim P Q nt T nb L B (sizeN P Q nt T nb L B) := by
  unfold sizeN at h ⊢
  split
  · rename_i hc
    obtain ⟨h1, h2, h3, h4, h5, h6⟩ := hc
    have h7 := rowsB_iff.1 h6
    exact ⟨h1, h2, h3, h4, h5, fun j hj => (h7 j hj).2.1, fun j hj => (h7 j hj).1, fun j hj => (h7 j hj).2.2⟩
  · rename_i hc
    rw [if_neg hc] at h
    exact absurd rfl h
theorem sizeN_le (P Q : Int) (nt : Nat) (T : Nat → Int) (nb : Nat) (L : Nat → Nat) (B : Nat → Nat → Int) : sizeN P Q nt T nb L B ≤ 64 := by
  unfold sizeN
  split
  · rename_i hc; exact hc.2.2.2.2.1
  · omega
theorem sizeN_no {P Q : Int} {nt : Nat} {T : Nat → Int} {nb : Nat} {L : Nat → Nat} {B : Nat → Nat → Int} (h : ¬ (1 ≤ nt ∧ nt ≤ 64 ∧ nb = nt ∧ 1 ≤ L 0 ∧ L 0 ≤ 64 ∧ rowsB P Q T L B (L 0) nt = true)) : sizeN P Q nt T nb L B = 0 := by
  unfold sizeN
  rw [if_neg h]

/-- The same numbers? -/
def sameB (n : Nat) (X : Nat → Int) (m : Nat) (Y : Nat → Int) : Bool := decide (n = m) && (List.range n).all fun i => X i == Y i
theorem sameB_iff {n m : Nat} {X Y : Nat → Int} : sameB n X m Y = true ↔ n = m ∧ ∀ i, i < n → X i = Y i := by
  simp [sameB]

end Go.Proofs.YtlnmjbbpenhdbaaGreat

namespace Go.Proofs.YtlnmjbbpenhdbaaGreat
open Go.RowKit

/-- A list of numbers of its own, and whether there is one. -/
def Gives (w : World) (ok : Bool) (k : Nat) (F : Nat → Int) (r : Ending) (w' : World) : Prop := ∃ v, r = .returned (.tuple #[v, .bool ok]) ∧ Nums w' w.heap.size v (if ok then k else 0) F ∧ Old w w'
theorem Nums.mono {w : World} {base base' k : Nat} {v : Value} {F : Nat → Int} (h : Nums w base v k F) (hb : base' ≤ base) : Nums w base' v k F := World.ownsRow.mono h hb

theorem gives_yes {w w' : World} {ok : Bool} {k : Nat} {F : Nat → Int} {v : Value} (hok : ok = true) (hN : Nums w' w.heap.size v k F) (ho : Old w w') : Gives w ok k F (.returned (.tuple #[v, .bool true])) w' := by
  subst hok
  exact ⟨v, rfl, by simpa using hN, ho⟩
theorem gives_no {w w' : World} {ok : Bool} {k : Nat} {F : Nat → Int} (hok : ok = false) (ho : Old w w') : Gives w ok k F (.returned (.tuple #[.slice none 0 0, .bool false])) w' := by
  subst hok
  exact ⟨_, rfl, by simpa using nums_nil w' w.heap.size F, ho⟩

set_option maxHeartbeats 1000000 in
theorem rsame_any (b1 : Option Addr) (n1 c1 : Nat) (X : Nat → Int) (b2 : Option Addr) (n2 c2 : Nat) (Y : Nat → Int) (w : World) (m1 : n1 ≤ 9223372036854775807) (h1 : FacsIn w b1 n1 X) (h2 : FacsIn w b2 n2 Y) :
    Calls Tryz.prog 19 #[.slice b1 n1 c1, .slice b2 n2 c2] w fun e w' => e = .returned (.bool (sameB n1 X n2 Y)) ∧ Old w w' := by
  have HX : Hid (FacsIn w b1 n1 X) := h1
  have HY : Hid (FacsIn w b2 n2 Y) := h2
  clear h1 h2
  by_cases hn : n1 = n2
  · subst hn
    go_enter Tryz.func19, Tryz.ntmps19
    go_wp2_with fail
    go_loopw [5] (fun iv wx => ∃ i : Nat, iv = .int .i64 (i : Int) ∧ i ≤ n1 ∧ Hid (Old w wx) ∧ Hid (∀ j, j < i → X j = Y j)) (fun iv _ => n1 - (intOf iv).toNat)
    case atStart => exact ⟨0, rfl, Nat.zero_le _, Old.refl _, fun j hj => by omega⟩
    case round =>
      obtain ⟨i, rfl, hi, HO, HJ⟩ := hrel
      by_cases hlt : i < n1
      · rcases HX.out.old HO.out with h0 | ⟨bx, ox, hqx, _, hrx⟩
        · omega
        rcases HY.out.old HO.out with h0 | ⟨by_, oy, hqy, _, hry⟩
        · omega
        have cx := (hrx i hlt).1
        have cy := (hry i hlt).1
        clear hrx hry
        subst hqx hqy
        by_cases he : X i = Y i
        · have HM : Hid (X i = Y i) := he
          rw [← he] at cy
          clear he
          go_upto_region 6 with fail
          go_quiet (fail)
          go_wp2_with fail
          go_roundw
          case rel => exact ⟨i + 1, idx_next i, by omega, by first | exact HO.out | exact HO.out.drew | exact HO.out.drewN _, upto_succ HJ.out HM.out⟩
          case measure => simp [intOf]; omega
        · have HN : Hid (sameB n1 X n1 Y = false) := no_of fun hc => he ((sameB_iff.1 hc).2 i hlt)
          go_upto_region 6 with fail
          go_quiet (fail)
          go_wp2_with fail
          go_ret
          exact ⟨ret_bool HN.out.symm, by first | exact HO.out | exact HO.out.drew | exact HO.out.drewN _⟩
      · have he : n1 = i := by omega
        subst he
        have HN : Hid (sameB n1 X n1 Y = true) := sameB_iff.2 ⟨rfl, HJ.out⟩
        go_wp2_with fail
        go_ret
        exact ⟨ret_bool HN.out.symm, HO.out⟩
  · have HN : Hid (sameB n1 X n2 Y = false) := no_of fun hc => hn (sameB_iff.1 hc).1
    have k1 : ¬ (n1 : Int) = (n2 : Int) := by omega
    go_enter Tryz.func19, Tryz.ntmps19
    go_wp2_with fail
    go_ret
    exact ⟨ret_bool HN.out.symm, Old.refl _⟩

end Go.Proofs.YtlnmjbbpenhdbaaGreat

namespace Go.Proofs.YtlnmjbbpenhdbaaGreat
open Go.RowKit

/-- Is there an image? -/
def fitsB (sz nw : Nat) : Bool := decide (sz ≠ 0) && decide (nw = sz)
theorem fitsB_iff {sz nw : Nat} : fitsB sz nw = true ↔ sz ≠ 0 ∧ nw = sz := by simp [fitsB]

end Go.Proofs.YtlnmjbbpenhdbaaGreat

namespace Go.Proofs.YtlnmjbbpenhdbaaGreat
open Go.RowKit

/-- Does a claim hold? -/
def holdsL (P Q : Int) (nt : Nat) (T : Nat → Int) (nb : Nat) (L : Nat → Nat) (B : Nat → Nat → Int) (nz : Nat) (X : Nat → Int) : Bool :=
  fitsB (sizeN P Q nt T nb L B) nz && sameB nt (fun j => imI P Q (B j) X (sizeN P Q nt T nb L B)) nt T

/-- Is a talk accepted? -/
def accB (P Q : Int) (nt : Nat) (T : Nat → Int) (nb : Nat) (L : Nat → Nat) (B : Nat → Nat → Int) (nk : Nat) (K : Nat → Int) (ch : Int) (nz : Nat) (X : Nat → Int) : Bool :=
  fitsB (sizeN P Q nt T nb L B) nz && (decide (nk = nt) && (List.range nt).all fun j => inI P Q (K j) && (imI P Q (B j) X (sizeN P Q nt T nb L B) == mulI (K j) (expI P Q (T j) ch) P))
theorem accB_iff {P Q : Int} {nt : Nat} {T : Nat → Int} {nb : Nat} {L : Nat → Nat} {B : Nat → Nat → Int} {nk : Nat} {K : Nat → Int} {ch : Int} {nz : Nat} {X : Nat → Int} :
    accB P Q nt T nb L B nk K ch nz X = true ↔ fitsB (sizeN P Q nt T nb L B) nz = true ∧ nk = nt ∧ ∀ j, j < nt → inI P Q (K j) = true ∧ imI P Q (B j) X (sizeN P Q nt T nb L B) = mulI (K j) (expI P Q (T j) ch) P := by
  simp [accB]

end Go.Proofs.YtlnmjbbpenhdbaaGreat

namespace Go.Proofs.YtlnmjbbpenhdbaaGreat
open Go.RowKit

/-- Lists that lie one behind the other: how long each is. -/
def LensIn (w : World) (a : Option Addr) (n : Nat) (LA : Nat → Option Addr) (M C : Nat → Nat) : Prop :=
  n = 0 ∨ ∃ b off, a = some ⟨b, off, none⟩ ∧ b < w.heap.size ∧ ∀ i, i < n → w.cell? ⟨b, off + i, none⟩ = some (.slice (LA i) (M i) (C i))
theorem LensIn.old {w w' : World} {a : Option Addr} {n : Nat} {LA : Nat → Option Addr} {M C : Nat → Nat} (h : LensIn w a n LA M C) (ho : Old w w') : LensIn w' a n LA M C := by
  rcases h with h | ⟨b, off, ha, hb, hr⟩
  · exact Or.inl h
  · exact Or.inr ⟨b, off, ha, Nat.lt_of_lt_of_le hb ho.size, fun i hi => ho.cellOf (hr i hi)⟩
end Go.Proofs.YtlnmjbbpenhdbaaGreat

namespace Go.Proofs.YtlnmjbbpenhdbaaGreat
open Go.RowKit

theorem info_claim : (Tryz.prog.info? 50).map (·.size) = some 2 := by kernel_rfl
theorem result_pair {P : Program} {fn : Func} {p u : Tmp} {t : TypeId} {tmps : Array Value} {w : World} {b : Nat} {v x : Value} (h : fn.results = #[.cell p t, .tmp u]) (hp : tmps.getD p undef = .pointer (some ⟨b, 0, none⟩)) (hu : tmps.getD u undef = x) (hl : (loadVar t ⟨b, 0, none⟩).run P w = .ok v w) :
    (results fn tmps).run P w = .ok (.tuple #[v, x]) w := by
  rw [results_cell_tmp h, hp, hu]
  simp [asAddr, hl, Result.andThen]

theorem Nums.facs2 {w : World} {base k : Nat} {v : Value} {F : Nat → Int} (h : Nums w base v k F) (hF : ∀ i, i < k → U64 (F i)) : ∃ b c, v = .slice b k c ∧ k ≤ c ∧ c ≤ 9223372036854775807 ∧ FacsIn w b k F := by
  have hm : ∀ b c, v = .slice b k c → c ≤ 9223372036854775807 := fun b c e => by
    rcases h.2 with ⟨e2, _⟩ | ⟨g, cap, cur, e2, _, _, _, hm, _⟩
    · rw [e] at e2
      cases e2
      omega
    · rw [e] at e2
      cases e2
      unfold maxLen at hm
      omega
  obtain ⟨b, c, e, h1, h2⟩ := h.facs hF
  exact ⟨b, c, e, h1, hm b c e, h2⟩

/-- The claim in its variable, with as many targets as it has come to. -/
structure Cl (W : World) (bb : Option Addr) (nb cb : Nat) (v : Value) (i : Nat) (wx : World) : Prop where
  old : Old W wx
  row : wx.heap[W.heap.size]? = some (.cells #[v, .slice bb nb cb] 50 (0, 0))
  nums : Nums wx (W.heap.size + 1) v i (fun _ => 1)
theorem Cl.size {W wx : World} {bb : Option Addr} {nb cb : Nat} {v : Value} {i : Nat} (h : Cl W bb nb cb v i wx) : W.heap.size + 1 ≤ wx.heap.size := (Array.getElem?_eq_some_iff.1 h.row).1
theorem Cl.new (W : World) (bb : Option Addr) (nb cb : Nat) : Cl W bb nb cb (.slice none 0 0) 0 (W.alloc (.cells #[.slice none 0 0, .slice bb nb cb] 50)) :=
  ⟨(Old.refl _).alloc _, heap_alloc_last W _, nums_nil _ _ _⟩
theorem Cl.old' {W wx w' : World} {bb : Option Addr} {nb cb : Nat} {v : Value} {i : Nat} (h : Cl W bb nb cb v i wx) (ho : Old wx w') : Cl W bb nb cb v i w' :=
  ⟨h.old.trans ho, (ho.block _ h.size).trans h.row, h.nums.old ho⟩
theorem Cl.set {W wx : World} {bb : Option Addr} {nb cb : Nat} {v u : Value} {i k : Nat} (h : Old W wx) (hrow : wx.heap[W.heap.size]? = some (.cells #[v, .slice bb nb cb] 50 (0, 0))) (hn : Nums wx (W.heap.size + 1) u k (fun _ => 1)) (_hi : i = k) : Cl W bb nb cb u k (wx.setCell ⟨W.heap.size, 0, none⟩ u) :=
  ⟨h.setCell (Nat.le_refl _) _, by have := set_row hrow 0 u; simpa using this, ownsRow_setCell_below hn (Nat.lt_succ_self _) _⟩
theorem Cl.grown {W wx w' : World} {bb : Option Addr} {nb cb : Nat} {v : Value} {i : Nat} {o : Obj} (h : Cl W bb nb cb v i wx) (hg : (wx.alloc o).grownBy w' v.ownBlock) : Old W w' ∧ w'.heap[W.heap.size]? = some (.cells #[v, .slice bb nb cb] 50 (0, 0)) := by
  have hk : ∀ k, v.ownBlock = some k → W.heap.size + 1 ≤ k := fun k hk => (World.ownsRow.lt h.nums k hk).1
  refine ⟨(h.old.alloc o).grown hg fun k e => by have := hk k e; omega, ?_⟩
  have hs := h.size
  rw [hg.block W.heap.size (by simp; omega) (fun e => by have := hk _ e.symm; omega), Below.heap_alloc _ _ _ (by omega)]
  exact h.row

end Go.Proofs.YtlnmjbbpenhdbaaGreat

namespace Go.Proofs.YtlnmjbbpenhdbaaGreat
open Go.RowKit

theorem Righ.im_is8 {P Q G z : Int} (h : Righ P Q G) {B X : Nat → Int} (n : Nat) (hB : ∀ k, k < n → inI P Q (B k) = true) (hX : ∀ k, k < n → 0 ≤ X k) (hz : inI P Q z = true) (hc : pw B X n % P = z % P) : imI P Q B X n = z := h.same (h.im_in n hB) hz ((h.im_cong n hB hX).trans hc)
theorem right_h {P Q G H : Int} {N A : Nat → Int} {F : Nat → Nat → Int} {L : Nat → Nat} {n : Nat} (h : rightI P Q G H N A F L n = true) : inI P Q H = true := by
  unfold rightI at h
  simp only [Bool.and_eq_true, decide_eq_true_eq, beq_iff_eq] at h
  exact h.1.1.1.2
theorem pw_congr {B C E F : Nat → Int} : ∀ n, (∀ k, k < n → B k = C k ∧ E k = F k) → pw B E n = pw C F n
  | 0, _ => rfl
  | n + 1, h => by
    show pw B E n * B n ^ (E n).toNat = pw C F n * C n ^ (F n).toNat
    rw [pw_congr n fun k hk => h k (by omega), (h n (by omega)).1, (h n (by omega)).2]
theorem pw_add (B E : Nat → Int) (m : Nat) : ∀ k, pw B E (m + k) = pw B E m * pw (fun i => B (m + i)) (fun i => E (m + i)) k
  | 0 => by show pw B E m = pw B E m * 1; rw [Int.mul_one]
  | k + 1 => by
    show pw B E (m + k) * B (m + k) ^ (E (m + k)).toNat = pw B E m * (pw (fun i => B (m + i)) (fun i => E (m + i)) k * B (m + k) ^ (E (m + k)).toNat)
    rw [pw_add B E m k, Int.mul_assoc]
theorem pw_ones {B E : Nat → Int} : ∀ n, (∀ k, k < n → B k = 1) → pw B E n = 1
  | 0, _ => rfl
  | n + 1, h => by
    show pw B E n * B n ^ (E n).toNat = 1
    rw [pw_ones n fun k hk => h k (by omega), h n (by omega), Int.one_pow, Int.mul_one]
/-- One base. -/
theorem pw_row1 {B E : Nat → Int} {p : Nat} : ∀ n, p < n → (∀ k, k < n → k ≠ p → B k = 1) → pw B E n = B p ^ (E p).toNat
  | 0, h, _ => by omega
  | n + 1, h, hB => by
    show pw B E n * B n ^ (E n).toNat = _
    by_cases hp : p = n
    · subst hp
      rw [pw_ones p fun k hk => hB k (by omega) (by omega), Int.one_mul]
    · rw [pw_row1 n (by omega) fun k hk hne => hB k (by omega) hne, hB n (by omega) (by omega), Int.one_pow, Int.mul_one]
/-- Two bases. -/
theorem pw_row2 {B E : Nat → Int} {p q : Nat} (hpq : p < q) : ∀ n, q < n → (∀ k, k < n → k ≠ p → k ≠ q → B k = 1) → pw B E n = B p ^ (E p).toNat * B q ^ (E q).toNat
  | 0, h, _ => by omega
  | n + 1, h, hB => by
    show pw B E n * B n ^ (E n).toNat = _
    by_cases hq : q = n
    · subst hq
      rw [pw_row1 q hpq fun k hk hne => hB k (by omega) hne (by omega)]
    · rw [pw_row2 hpq n (by omega) fun k hk h1 h2 => hB k (by omega) h1 h2, hB n (by omega) (by omega) (by omega), Int.one_pow, Int.mul_one]
/-- n bases from m on, and one at q behind them. -/
theorem pw_span {B E : Nat → Int} {m n q N : Nat} (hq : m + n ≤ q) (hN : q < N) (hB : ∀ k, k < N → (k < m ∨ m + n ≤ k) → k ≠ q → B k = 1) : pw B E N = pw (fun i => B (m + i)) (fun i => E (m + i)) n * B q ^ (E q).toNat := by
  obtain ⟨r, rfl⟩ : ∃ r, N = m + n + r := ⟨N - (m + n), by omega⟩
  rw [pw_add B E (m + n) r, pw_add B E m n, pw_ones m (fun k hk => hB k (by omega) (Or.inl hk) (by omega)), Int.one_mul]
  congr 1
  have h := pw_row1 (B := fun i => B (m + n + i)) (E := fun i => E (m + n + i)) (p := q - (m + n)) r (by omega) (fun k hk hne => hB (m + n + k) (by omega) (Or.inr (by omega)) (by omega))
  rw [h]
  have e : m + n + (q - (m + n)) = q := by omega
  simp only [e]

/-- A commitment. -/
def comI (P Q G H m r : Int) : Int := mulI (expI P Q G m) (expI P Q H r) P
theorem Righ.com {P Q G H m r : Int} (h : Righ P Q G) (hH : inI P Q H = true) (hm : 0 ≤ m) (hr : 0 ≤ r) : inI P Q (comI P Q G H m r) = true ∧ comI P Q G H m r % P = G ^ m.toNat * H ^ r.toNat % P :=
  ⟨h.mul_in (h.exp_in h.gin) (h.exp_in hH), mul_cong h.ok (h.exp_cong h.gin hm) (h.exp_cong hH hr)⟩
/-- Powers go by the exponent modulo Q. -/
theorem Righ.pow_mod {P Q G x : Int} (h : Righ P Q G) (hx : inI P Q x = true) {a b : Int} (ha : 0 ≤ a) (hb : 0 ≤ b) (hab : a % Q = b % Q) : x ^ a.toNat % P = x ^ b.toNat % P := by
  rw [← h.exp_cong hx ha, ← h.exp_cong hx hb, exp_mod hab]
/-- D of a place: of commitments it is one. -/
def bigI (P Q G A B Y Z : Int) : Int := overI P (mulI (expI P Q A Y) B P) (expI P Q G Z)
theorem Righ.big {P Q G H a r b s Y Z : Int} (h : Righ P Q G) (hH : inI P Q H = true) (ha : 0 ≤ a) (hr : 0 ≤ r) (hb : 0 ≤ b) (hs : 0 ≤ s) (hY : 0 ≤ Y) (hZ : 0 ≤ Z) {d u : Int} (hd0 : 0 ≤ d) (hu0 : 0 ≤ u) (hd : (d + Z) % Q = (Y * a + b) % Q) (hu : u % Q = (Y * r + s) % Q) :
    inI P Q (bigI P Q G (comI P Q G H a r) (comI P Q G H b s) Y Z) = true ∧ bigI P Q G (comI P Q G H a r) (comI P Q G H b s) Y Z % P = G ^ d.toNat * H ^ u.toNat % P := by
  have cA := h.com hH ha hr
  have cB := h.com hH hb hs
  have hG := h.exp_in h.gin (e := Z)
  have hM : inI P Q (mulI (expI P Q (comI P Q G H a r) Y) (comI P Q G H b s) P) = true := h.mul_in (h.exp_in cA.1) cB.1
  refine ⟨h.over_in hM hG, ?_⟩
  refine h.cancel hG ?_
  unfold bigI
  rw [h.over_cong hG, mul_cong h.ok ((h.exp_cong cA.1 hY).trans (cong_pow cA.2 _)) cB.2]
  have e1 : G ^ d.toNat * H ^ u.toNat * expI P Q G Z % P = G ^ d.toNat * H ^ u.toNat * G ^ Z.toNat % P := cong_mul rfl (h.exp_cong h.gin hZ)
  rw [e1]
  have e2 : G ^ d.toNat * H ^ u.toNat * G ^ Z.toNat = G ^ (d + Z).toNat * H ^ u.toNat := by
    rw [Int.toNat_add hd0 hZ, Int.pow_add]
    simp only [Int.mul_assoc, Int.mul_comm]
  have e3 : (G ^ a.toNat * H ^ r.toNat) ^ Y.toNat * (G ^ b.toNat * H ^ s.toNat) = G ^ (Y * a + b).toNat * H ^ (Y * r + s).toNat := by
    rw [Int.toNat_add (Int.mul_nonneg hY ha) hb, Int.toNat_add (Int.mul_nonneg hY hr) hs, Int.toNat_mul hY ha, Int.toNat_mul hY hr, Int.pow_add, Int.pow_add, Int.mul_pow, ← Int.pow_mul, ← Int.pow_mul, Nat.mul_comm a.toNat, Nat.mul_comm r.toNat]
    simp only [Int.mul_assoc, Int.mul_comm, Int.mul_left_comm]
  rw [e2, e3]
  exact cong_mul (h.pow_mod h.gin (Int.add_nonneg (Int.mul_nonneg hY ha) hb) (Int.add_nonneg hd0 hZ) hd.symm) (h.pow_mod hH (Int.add_nonneg (Int.mul_nonneg hY hr) hs) hu0 hu.symm)
/-- P of a place, out of the one ahead of it. -/
theorem Righ.third {P Q G H p d t x v : Int} (h : Righ P Q G) (hH : inI P Q H = true) (hp : inI P Q p = true) (hd : 0 ≤ d) (ht : 0 ≤ t) (hx : 0 ≤ x) (hv : 0 ≤ v) (hpx : p % P = G ^ x.toNat * H ^ v.toNat % P) {v' : Int} (hv' : 0 ≤ v') (hvq : v' % Q = (v * d + t) % Q) :
    inI P Q (mulI (expI P Q p d) (expI P Q H t) P) = true ∧ mulI (expI P Q p d) (expI P Q H t) P % P = G ^ (x * d).toNat * H ^ v'.toNat % P := by
  refine ⟨h.mul_in (h.exp_in hp) (h.exp_in hH), ?_⟩
  rw [mul_cong h.ok ((h.exp_cong hp hd).trans (cong_pow hpx _)) (h.exp_cong hH ht)]
  have e : (G ^ x.toNat * H ^ v.toNat) ^ d.toNat * H ^ t.toNat = G ^ (x * d).toNat * H ^ (v * d + t).toNat := by
    rw [Int.toNat_add (Int.mul_nonneg hv hd) ht, Int.toNat_mul hx hd, Int.toNat_mul hv hd, Int.pow_add, Int.mul_pow, ← Int.pow_mul, ← Int.pow_mul, Int.mul_assoc]
  rw [e]
  exact cong_mul rfl (h.pow_mod hH (Int.add_nonneg (Int.mul_nonneg hv hd) ht) hv' hvq.symm)

theorem Righ.row2 {P Q G z : Int} (h : Righ P Q G) {B E : Nat → Int} {p q N : Nat} (hpq : p < q) (hq : q < N) (hB : ∀ k, k < N → k ≠ p → k ≠ q → B k = 1) (hp : inI P Q (B p) = true) (hq1 : inI P Q (B q) = true) (hE : ∀ k, k < N → 0 ≤ E k) (hz : inI P Q z = true) (hc : B p ^ (E p).toNat * B q ^ (E q).toNat % P = z % P) : imI P Q B E N = z := by
  refine h.im_is8 N (fun k hk => ?_) hE hz (by rw [pw_row2 hpq N hq hB]; exact hc)
  by_cases h1 : k = p
  · rw [h1]; exact hp
  · by_cases h2 : k = q
    · rw [h2]; exact hq1
    · rw [hB k hk h1 h2]; exact h.one_in
theorem Righ.row1 {P Q G z : Int} (h : Righ P Q G) {B E : Nat → Int} {p N : Nat} (hp : p < N) (hB : ∀ k, k < N → k ≠ p → B k = 1) (hp1 : inI P Q (B p) = true) (hE : ∀ k, k < N → 0 ≤ E k) (hz : inI P Q z = true) (hc : B p ^ (E p).toNat % P = z % P) : imI P Q B E N = z := by
  refine h.im_is8 N (fun k hk => ?_) hE hz (by rw [pw_row1 N hp hB]; exact hc)
  by_cases h1 : k = p
  · rw [h1]; exact hp1
  · rw [hB k hk h1]; exact h.one_in
/-- The last of the P, over G to the product. -/
theorem Righ.last {P Q G H p x k v : Int} (h : Righ P Q G) (hp : inI P Q p = true) (hx : 0 ≤ x) (hk : 0 ≤ k) (hpx : p % P = G ^ x.toNat * H ^ v.toNat % P) (hxk : x % Q = k % Q) :
    inI P Q (overI P p (expI P Q G k)) = true ∧ H ^ v.toNat % P = overI P p (expI P Q G k) % P := by
  have hG := h.exp_in h.gin (e := k)
  refine ⟨h.over_in hp hG, h.cancel hG ?_⟩
  rw [h.over_cong hG, hpx]
  have e1 : H ^ v.toNat * expI P Q G k % P = H ^ v.toNat * G ^ k.toNat % P := cong_mul rfl (h.exp_cong h.gin hk)
  rw [e1, Int.mul_comm]
  exact cong_mul (h.pow_mod h.gin hk hx hxk.symm) rfl

/-- A sum of the first n. -/
def sumI8 (F : Nat → Int) : Nat → Int
  | 0 => 0
  | n + 1 => sumI8 F n + F n
theorem sumI8_nn {F : Nat → Int} : ∀ n, (∀ i, i < n → 0 ≤ F i) → 0 ≤ sumI8 F n
  | 0, _ => Int.le_refl _
  | n + 1, h => Int.add_nonneg (sumI8_nn n fun i hi => h i (by omega)) (h n (by omega))
theorem pw_fold (U c : Nat → Int) : ∀ n, pw U c n = foldN (· * ·) 1 (fun i => U i ^ (c i).toNat) n
  | 0 => rfl
  | n + 1 => by
    show pw U c n * U n ^ (c n).toNat = foldN (· * ·) 1 (fun i => U i ^ (c i).toNat) n * U n ^ (c n).toNat
    rw [pw_fold U c n]
theorem pw_order {n : Nat} {o : Nat → Nat} (ho : Ord8 n o) (U c : Nat → Int) : pw (fun i => U (o i)) (fun i => c (o i)) n = pw U c n := by
  rw [pw_fold, pw_fold]
  exact Ord8.fold Int.mul_assoc Int.mul_comm (fun j => U j ^ (c j).toNat) n o ho
theorem pw_again {P y : Int} {V W c r : Nat → Int} : ∀ n, (∀ i, i < n → 0 ≤ c i) → (∀ i, i < n → 0 ≤ r i) → (∀ i, i < n → W i % P = V i * y ^ (r i).toNat % P) → pw W c n % P = pw V c n * y ^ (sumI8 (fun i => c i * r i) n).toNat % P
  | 0, _, _, _ => by show (1 : Int) % P = 1 * y ^ (0 : Int).toNat % P; rw [show (0 : Int).toNat = 0 from rfl, Int.pow_zero, Int.mul_one]
  | n + 1, hc, hr, hW => by
    show pw W c n * W n ^ (c n).toNat % P = pw V c n * V n ^ (c n).toNat * y ^ (sumI8 (fun i => c i * r i) n + c n * r n).toNat % P
    have ih := pw_again n (fun i hi => hc i (by omega)) (fun i hi => hr i (by omega)) (fun i hi => hW i (by omega))
    have hs := sumI8_nn (F := fun i => c i * r i) n fun i hi => Int.mul_nonneg (hc i (by omega)) (hr i (by omega))
    have hcn := hc n (by omega)
    have hrn := hr n (by omega)
    rw [cong_mul ih (cong_pow (hW n (by omega)) _), Int.toNat_add hs (Int.mul_nonneg hcn hrn), Int.toNat_mul hcn hrn, Int.pow_add, Int.mul_pow, ← Int.pow_mul, Nat.mul_comm (r n).toNat]
    congr 1
    simp only [Int.mul_assoc, Int.mul_comm, Int.mul_left_comm]
/-- **What was mixed, each to its power, together with what makes up for the draws, is what there was, each to its own.** -/
theorem Righ.mixed {P Q G y : Int} (h : Righ P Q G) (hy : inI P Q y = true) {n : Nat} {o : Nat → Nat} (ho : Ord8 n o) {U W c r : Nat → Int} (hc : ∀ j, j < n → 0 ≤ c j) (hr : ∀ i, i < n → 0 ≤ r i) (hW : ∀ i, i < n → W i % P = U (o i) * y ^ (r i).toNat % P) {e : Int} (he : 0 ≤ e) (hsum : (sumI8 (fun i => c (o i) * r i) n + e) % Q = 0) :
    pw W (fun i => c (o i)) n * y ^ e.toNat % P = pw U c n % P := by
  have hs := sumI8_nn (F := fun i => c (o i) * r i) n fun i hi => Int.mul_nonneg (hc _ (ho.lt i hi)) (hr i hi)
  have h1 := pw_again (V := fun i => U (o i)) (W := W) (c := fun i => c (o i)) (r := r) (y := y) n (fun i hi => hc _ (ho.lt i hi)) hr hW
  rw [cong_mul h1 rfl, Int.mul_assoc, ← Int.pow_add, ← Int.toNat_add hs he, pw_order ho]
  have h2 : y ^ (sumI8 (fun i => c (o i) * r i) n + e).toNat % P = y ^ (0 : Int).toNat % P := h.pow_mod hy (Int.add_nonneg hs he) (Int.le_refl _) (by rw [hsum]; rfl)
  rw [cong_mul rfl h2, show (0 : Int).toNat = 0 from rfl, Int.pow_zero, Int.mul_one]

theorem pr_fold (F : Nat → Int) : ∀ n, pr F n = foldN (· * ·) 1 F n
  | 0 => rfl
  | n + 1 => by
    show pr F n * F n = foldN (· * ·) 1 F n * F n
    rw [pr_fold F n]
theorem pr_nn {F : Nat → Int} : ∀ n, (∀ i, i < n → 0 ≤ F i) → 0 ≤ pr F n
  | 0, _ => by show (0 : Int) ≤ 1; omega
  | n + 1, h => Int.mul_nonneg (pr_nn n fun i hi => h i (by omega)) (h n (by omega))
/-- The product over an order, modulo Q. -/
theorem Righ.prod_order {P Q G : Int} (h : Righ P Q G) {n : Nat} {o : Nat → Nat} (ho : Ord8 n o) (F : Nat → Int) : pr (fun i => F (o i)) n % Q = prodI Q F n % Q := by
  rw [prod_cong h.okq, pr_fold, pr_fold]
  rw [Ord8.fold Int.mul_assoc Int.mul_comm F n o ho]

end Go.Proofs.YtlnmjbbpenhdbaaGreat

namespace Go.Proofs.YtlnmjbbpenhdbaaGreat
open Go.RowKit

theorem u8info : (Tryz.prog.info? 5).map (fun i => (i.zero, i.size, i.bytes)) = some (some (.int .u8 0), 1, 1) := by kernel_rfl

/-- The byte at place i from the low end. -/
def byteAt (n : Int) (i : Nat) : Int := n / 2 ^ (8 * i) % 256
/-- The first j of k bytes, the highest first. -/
def bytesP (n : Int) (k j : Nat) : List Int := (List.range j).map fun t => byteAt n (k - 1 - t)
def bytesL (n : Int) (k : Nat) : List Int := bytesP n k k

theorem bytesP_succ (n : Int) (k j : Nat) : bytesP n k (j + 1) = bytesP n k j ++ [byteAt n (k - 1 - j)] := by
  simp [bytesP, List.range_succ]
theorem bytesP_len (n : Int) (k j : Nat) : (bytesP n k j).length = j := by simp [bytesP]

/-- What is owned lies from the base on. -/
theorem own_from {w : World} {base : Nat} {e : TypeId} {size : Nat} {v : Value} {n : Nat} {xs : List Value} (h : w.ownsRow base e size v n xs) : ∀ k, v.ownBlock = some k → base ≤ k := by
  intro k hk
  rcases h.2 with ⟨rfl, _⟩ | ⟨g, cap, cur, rfl, hg, _⟩
  · simp [Value.ownBlock] at hk
  · simp [Value.ownBlock] at hk
    omega

/-- The elements that a slice owns, at its head. -/
theorem own_cells {w : World} {base : Nat} {e : TypeId} {v : Value} {n : Nat} {xs : List Value} (h : w.ownsRow base e 1 v n xs) (hn : 0 < n) : ∃ g cap, v = .slice (some ⟨g, 0, none⟩) n cap ∧ base ≤ g ∧ g < w.heap.size ∧ n ≤ cap ∧ ∀ i, i < n → w.cell? ⟨g, i, none⟩ = xs[i]? := by
  have h' := h
  rcases h.2 with ⟨_, h0⟩ | ⟨g, cap, cur, rfl, hg, hh, hc, _⟩
  · omega
  · refine ⟨g, cap, rfl, hg, ?_, hc, fun i hi => h'.cellAt i (by omega)⟩
    refine Classical.byContradiction fun hc' => ?_
    have : w.heap[g]? = none := by simp; omega
    rw [this] at hh
    cases hh

end Go.Proofs.YtlnmjbbpenhdbaaGreat

namespace Go.Proofs.YtlnmjbbpenhdbaaGreat
open Go.RowKit

def kList : List Int := [1116352408, 1899447441, 3049323471, 3921009573, 961987163, 1508970993, 2453635748, 2870763221, 3624381080, 310598401, 607225278, 1426881987, 1925078388, 2162078206, 2614888103, 3248222580, 3835390401, 4022224774, 264347078, 604807628, 770255983, 1249150122, 1555081692, 1996064986, 2554220882, 2821834349, 2952996808, 3210313671, 3336571891, 3584528711, 113926993, 338241895, 666307205, 773529912, 1294757372, 1396182291, 1695183700, 1986661051, 2177026350, 2456956037, 2730485921, 2820302411, 3259730800, 3345764771, 3516065817, 3600352804, 4094571909, 275423344, 430227734, 506948616, 659060556, 883997877, 958139571, 1322822218, 1537002063, 1747873779, 1955562222, 2024104815, 2227730452, 2361852424, 2428436474, 2756734187, 3204031479, 3329325298]
def hList : List Int := [1779033703, 3144134277, 1013904242, 2773480762, 1359893119, 2600822924, 528734635, 1541459225]
def kS (i : Nat) : Int := kList.getD i 0
def hS (i : Nat) : Int := hList.getD i 0

def add32 (a b : Int) : Int := (a + b) % 4294967296
def or32 (a b : Int) : Int := bits .or .u32 a b
def xor32 (a b : Int) : Int := bits .xor .u32 a b
def and32 (a b : Int) : Int := bits .and .u32 a b
def not32 (a : Int) : Int := bits .xor .u32 4294967295 a
/-- Rotated to the right by n. -/
def rot (x : Int) (n : Nat) : Int := or32 (x / 2 ^ n) (x * 2 ^ (32 - n) % 4294967296)
def low0 (x : Int) : Int := xor32 (xor32 (rot x 7) (rot x 18)) (x / 8)
def low1 (x : Int) : Int := xor32 (xor32 (rot x 17) (rot x 19)) (x / 1024)
def big1 (x : Int) : Int := xor32 (xor32 (rot x 6) (rot x 11)) (rot x 25)
def big0 (x : Int) : Int := xor32 (xor32 (rot x 2) (rot x 13)) (rot x 22)
def pick (e f g : Int) : Int := or32 (and32 e f) (and32 (not32 e) g)
def most (a b c : Int) : Int := or32 (or32 (and32 a b) (and32 a c)) (and32 b c)
/-- Four bytes as a number, the highest first. -/
def four (a b c d : Int) : Int := or32 (or32 (or32 (a * 16777216) (b * 65536)) (c * 256)) d

/-- The word at place t, of the words ahead and the bytes of the piece. -/
def word (B : Nat → Int) (S : Nat → Int) (t : Nat) : Int :=
  if t < 16 then four (B (4 * t)) (B (4 * t + 1)) (B (4 * t + 2)) (B (4 * t + 3))
  else add32 (add32 (add32 (S (t - 16)) (low0 (S (t - 15)))) (S (t - 7))) (low1 (S (t - 2)))
/-- The first t words of a piece; 0 behind them. -/
def sched (B : Nat → Int) : Nat → Nat → Int
  | 0 => fun _ => 0
  | t + 1 => fun j => if j = t then word B (sched B t) t else sched B t j

def one32 (v : Nat → Int) (k w : Int) : Int := add32 (add32 (add32 (add32 (v 7) (big1 (v 4))) (pick (v 4) (v 5) (v 6))) k) w
def two32 (v : Nat → Int) : Int := add32 (big0 (v 0)) (most (v 0) (v 1) (v 2))
/-- One round over the eight numbers. -/
def round32 (v : Nat → Int) (k w : Int) : Nat → Int
  | 0 => add32 (one32 v k w) (two32 v)
  | 1 => v 0
  | 2 => v 1
  | 3 => v 2
  | 4 => add32 (v 3) (one32 v k w)
  | 5 => v 4
  | 6 => v 5
  | 7 => v 6
  | _ => 0
def rounds (W : Nat → Int) : Nat → (Nat → Int) → Nat → Int
  | 0, v => v
  | t + 1, v => round32 (rounds W t v) (kS t) (W t)

/-- The eight numbers behind c pieces of the bytes B. -/
def state (B : Nat → Int) : Nat → Nat → Int
  | 0 => hS
  | c + 1 => fun i => add32 (state B c i) (rounds (sched (fun j => B (64 * c + j)) 64) 64 (state B c) i)

/-- How many bytes 0 stand behind the byte 128. -/
def zeros (n : Nat) : Nat := (119 - n % 64) % 64
/-- A text with what stands behind it. -/
def padL (xs : List Int) : List Int := xs ++ [128] ++ List.replicate (zeros xs.length) 0 ++ bytesL (xs.length * 8) 8
def pieces (n : Nat) : Nat := (n + 1 + zeros n + 8) / 64
def outL (h : Nat → Int) : Nat → List Int
  | 0 => []
  | i + 1 => outL h i ++ bytesL (h i) 4
/-- SHA-256 of bytes. -/
def sumL (xs : List Int) : List Int := outL (state (fun i => (padL xs).getD i 0) (pieces xs.length)) 8

end Go.Proofs.YtlnmjbbpenhdbaaGreat

namespace Go.Proofs.YtlnmjbbpenhdbaaGreat
open Go.RowKit

/-- A text's bytes as numbers. -/
def numsOf (s : ByteArray) : List Int := s.data.toList.map fun b => (b.toNat : Int)
theorem numsOf_str (s : ByteArray) : strOfNums (numsOf s) = s := by
  have : ∀ l : List UInt8, (l.map fun b => (b.toNat : Int)).map (fun n => UInt8.ofNat n.toNat) = l := by
    intro l
    induction l with
    | nil => rfl
    | cons b l ih => simp only [List.map_cons, ih]; simp
  unfold strOfNums numsOf
  rw [this]
theorem numsOf_bd (s : ByteArray) : ∀ x ∈ numsOf s, 0 ≤ x ∧ x ≤ 255 := by
  intro x hx
  obtain ⟨b, _, rfl⟩ := List.mem_map.1 hx
  have := b.toNat_lt
  omega
/-- Bytes as numbers are bytes. -/
def Bts (xs : List Int) : Prop := ∀ x ∈ xs, 0 ≤ x ∧ x ≤ 255
theorem str_add (xs ys : List Int) : strOfNums xs ++ strOfNums ys = strOfNums (xs ++ ys) := by
  apply ByteArray.ext
  simp [strOfNums]
theorem byteAt_bd (n : Int) (i : Nat) : 0 ≤ byteAt n i ∧ byteAt n i ≤ 255 := by
  unfold byteAt
  omega
theorem bytesL_bd (n : Int) (k : Nat) : Bts (bytesL n k) := by
  intro x hx
  obtain ⟨t, _, rfl⟩ := List.mem_map.1 hx
  exact byteAt_bd _ _
theorem bytesL_len (n : Int) (k : Nat) : (bytesL n k).length = k := bytesP_len n k k

end Go.Proofs.YtlnmjbbpenhdbaaGreat

namespace Go.Proofs.YtlnmjbbpenhdbaaGreat
open Go.RowKit

/-- Two cells of a row hold what they held behind a store into a third. -/
theorem keep_two {w : World} {b t i j : Nat} {x y v : Value} (h : w.cell? ⟨b, i, none⟩ = some x ∧ w.cell? ⟨b, j, none⟩ = some y) (hi : t ≠ i) (hj : t ≠ j) : (w.setCell ⟨b, t, none⟩ v).cell? ⟨b, i, none⟩ = some x ∧ (w.setCell ⟨b, t, none⟩ v).cell? ⟨b, j, none⟩ = some y := by
  refine ⟨?_, ?_⟩
  · rw [World.cell?_setCell_other _ _ _ _ (fun e => hi (congrArg Addr.off e))]
    exact h.1
  · rw [World.cell?_setCell_other _ _ _ _ (fun e => hj (congrArg Addr.off e))]
    exact h.2

theorem add_four (a b c d : Int) : add32 (add32 (add32 a b) c) d = (a + b + c + d) % 4294967296 := by
  unfold add32
  omega
theorem word_low {D : Nat → Int} {S : Nat → Int} {t : Nat} (h : t < 16) : word D S t = four (D (4 * t)) (D (4 * t + 1)) (D (4 * t + 2)) (D (4 * t + 3)) := by
  unfold word
  rw [if_pos h]
theorem word_high {D : Nat → Int} {S : Nat → Int} {t : Nat} (h : ¬ t < 16) : word D S t = add32 (add32 (add32 (S (t - 16)) (low0 (S (t - 15)))) (S (t - 7))) (low1 (S (t - 2))) := by
  unfold word
  rw [if_neg h]

end Go.Proofs.YtlnmjbbpenhdbaaGreat

namespace Go.Proofs.YtlnmjbbpenhdbaaGreat
open Go.RowKit

/-- The world in which the eight numbers have turned. -/
def turned (wr : World) (b : Nat) (x0 x1 x2 x3 x4 x5 x6 x7 : Value) : World :=
  (((((((wr.setCell ⟨b, 0, none⟩ x0).setCell ⟨b, 1, none⟩ x1).setCell ⟨b, 2, none⟩ x2).setCell ⟨b, 3, none⟩ x3).setCell ⟨b, 4, none⟩ x4).setCell ⟨b, 5, none⟩ x5).setCell ⟨b, 6, none⟩ x6).setCell ⟨b, 7, none⟩ x7

theorem turned_row {wr : World} {b : Nat} {T : TypeId} {g : Nat → Value} (h : wr.rowIs b T 8 g) (f : Nat → Value) : (turned wr b (f 0) (f 1) (f 2) (f 3) (f 4) (f 5) (f 6) (f 7)).rowIs b T 8 f := by
  refine ((((((((h.set 0 _).set 1 _).set 2 _).set 3 _).set 4 _).set 5 _).set 6 _).set 7 _).congr fun i hi => ?_
  match i, hi with
  | 0, _ => rfl
  | 1, _ => rfl
  | 2, _ => rfl
  | 3, _ => rfl
  | 4, _ => rfl
  | 5, _ => rfl
  | 6, _ => rfl
  | 7, _ => rfl
theorem turned_old {W wr : World} {b : Nat} (h : Old W wr) (hb : W.heap.size ≤ b) (x0 x1 x2 x3 x4 x5 x6 x7 : Value) : Old W (turned wr b x0 x1 x2 x3 x4 x5 x6 x7) :=
  (((((((h.setCell hb _).setCell hb _).setCell hb _).setCell hb _).setCell hb _).setCell hb _).setCell hb _).setCell hb _

end Go.Proofs.YtlnmjbbpenhdbaaGreat

namespace Go.Proofs.YtlnmjbbpenhdbaaGreat
open Go.RowKit

/-- All blocks but one are as they were. -/
structure But (b : Nat) (w w' : World) : Prop where
  os : w'.os = w.os
  output : w'.output = w.output
  size : w'.heap.size = w.heap.size
  block : ∀ k, k ≠ b → w'.heap[k]? = w.heap[k]?
theorem But.refl (b : Nat) (w : World) : But b w w := ⟨rfl, rfl, rfl, fun _ _ => rfl⟩
theorem But.set {b : Nat} {w w' : World} (h : But b w w') (i : Nat) (v : Value) : But b w (w'.setCell ⟨b, i, none⟩ v) :=
  ⟨h.os, h.output, by simpa [World.setCell] using h.size, fun k hk => (Below.heap_setCell _ _ _ _ hk).trans (h.block k hk)⟩
theorem But.drew {b : Nat} {w w' : World} (h : But b w w') : But b w w'.drew := ⟨h.os, h.output, h.size, h.block⟩
theorem But.drewN {b : Nat} {w w' : World} (h : But b w w') (n : Nat) : But b w (w'.drewN n) := ⟨h.os, h.output, h.size, h.block⟩
theorem But.row {b : Nat} {w w' : World} (h : But b w w') {k : Nat} {t : TypeId} {n : Nat} {f : Nat → Value} (hr : w.rowIs k t n f) (hk : k ≠ b) : w'.rowIs k t n f := hr.of_block (h.block k hk)
theorem But.cell {b : Nat} {w w' : World} (h : But b w w') {p : Addr} (hp : p.block ≠ b) : w'.cell? p = w.cell? p := World.cell?_of_block (w := w) (h.block p.block hp)
end Go.Proofs.YtlnmjbbpenhdbaaGreat

namespace Go.Proofs.YtlnmjbbpenhdbaaGreat
open Go.RowKit

theorem zeros_lt (n : Nat) : zeros n < 64 := by unfold zeros; omega
theorem pad_pieces (n : Nat) : n + 1 + (zeros n + 8) = 64 * pieces n := by
  unfold pieces zeros
  omega
theorem pad_bd {xs : List Int} (h : Bts xs) : Bts (padL xs) := by
  intro x hx
  simp only [padL, List.mem_append, List.mem_singleton, List.mem_replicate] at hx
  rcases hx with ((hx | rfl) | ⟨_, rfl⟩) | hx
  · exact h x hx
  · omega
  · omega
  · exact bytesL_bd _ _ x hx
theorem getD_bd {xs : List Int} (h : Bts xs) (i : Nat) : 0 ≤ xs.getD i 0 ∧ xs.getD i 0 ≤ 255 := by
  by_cases hi : i < xs.length
  · have e : xs.getD i 0 = xs[i] := by simp [List.getD, hi]
    rw [e]
    exact h _ (List.getElem_mem hi)
  · have e : xs.getD i 0 = 0 := by
      rw [List.getD, List.getElem?_eq_none (by omega)]
      rfl
    rw [e]
    omega

theorem hS_bd (i : Nat) : 0 ≤ hS i ∧ hS i ≤ 4294967295 := by
  have : ∀ x ∈ hList, 0 ≤ x ∧ x ≤ 4294967295 := by decide
  unfold hS
  by_cases hi : i < hList.length
  · have e : hList.getD i 0 = hList[i] := by simp [List.getD, hi]
    rw [e]
    exact this _ (List.getElem_mem hi)
  · have e : hList.getD i 0 = 0 := by
      rw [List.getD, List.getElem?_eq_none (by omega)]
      rfl
    rw [e]
    omega
theorem state_bd (B : Nat → Int) (c i : Nat) : 0 ≤ state B c i ∧ state B c i ≤ 4294967295 := by
  cases c with
  | zero => exact hS_bd i
  | succ c =>
    show 0 ≤ add32 _ _ ∧ add32 _ _ ≤ _
    unfold add32
    omega
theorem outL_len (h : Nat → Int) : ∀ i, (outL h i).length = 4 * i
  | 0 => rfl
  | i + 1 => by
    show (outL h i ++ bytesL (h i) 4).length = _
    rw [List.length_append, outL_len h i, bytesL_len]
    omega
theorem idx_up (i : Nat) : Value.int .i64 ((i : Int) + 1) = .int .i64 ((i + 1 : Nat) : Int) := by
  rw [Int.natCast_add]
  rfl

end Go.Proofs.YtlnmjbbpenhdbaaGreat

namespace Go.Proofs.YtlnmjbbpenhdbaaGreat
open Go.RowKit

theorem bts_app {xs ys : List Int} (hx : Bts xs) (hy : Bts ys) : Bts (xs ++ ys) := by
  intro x h
  rcases List.mem_append.1 h with h | h
  · exact hx x h
  · exact hy x h
theorem outL_bd (h : Nat → Int) : ∀ i, Bts (outL h i)
  | 0 => by intro x hx; cases hx
  | i + 1 => bts_app (outL_bd h i) (bytesL_bd _ _)
theorem sumL_len (xs : List Int) : (sumL xs).length = 32 := outL_len _ 8
theorem sumL_bd (xs : List Int) : Bts (sumL xs) := outL_bd _ 8

theorem str_index {k : List Int} (h : Bts k) {i : Nat} (hi : i < (strOfNums k).size) : (((strOfNums k)[i]'hi).toNat : Int) = k.getD i 0 := by
  have hl : i < k.length := by rw [strOfNums_size] at hi; exact hi
  have e : (strOfNums k)[i]'hi = UInt8.ofNat (k[i]).toNat := by
    show (strOfNums k).data[i] = _
    simp [strOfNums]
  rw [e]
  have hb := h k[i] (List.getElem_mem hl)
  simp [List.getD, hl]
  omega

end Go.Proofs.YtlnmjbbpenhdbaaGreat

namespace Go.Proofs.YtlnmjbbpenhdbaaGreat
open Go.RowKit

/-- Texts that lie one behind the other. -/
def StrsIn (w : World) (a : Option Addr) (n : Nat) (S : Nat → List Int) : Prop :=
  n = 0 ∨ ∃ b off, a = some ⟨b, off, none⟩ ∧ b < w.heap.size ∧ ∀ i, i < n → w.cell? ⟨b, off + i, none⟩ = some (.string (strOfNums (S i))) ∧ Bts (S i)
theorem StrsIn.old {w w' : World} {a : Option Addr} {n : Nat} {S : Nat → List Int} (h : StrsIn w a n S) (ho : Old w w') : StrsIn w' a n S := by
  rcases h with h | ⟨b, off, ha, hb, hc⟩
  · exact Or.inl h
  · exact Or.inr ⟨b, off, ha, Nat.lt_of_lt_of_le hb ho.size, fun i hi => ⟨ho.cellOf (hc i hi).1, (hc i hi).2⟩⟩
theorem StrsIn.bts {w : World} {a : Option Addr} {n : Nat} {S : Nat → List Int} (h : StrsIn w a n S) {i : Nat} (hi : i < n) : Bts (S i) := by
  rcases h with h | ⟨b, off, ha, hb, hc⟩
  · omega
  · exact (hc i hi).2

/-- A label and the first i parts, with their lengths. -/
def numL (label : List Int) (S : Nat → List Int) : Nat → List Int
  | 0 => bytesL label.length 8 ++ label
  | i + 1 => numL label S i ++ (bytesL (S i).length 8 ++ S i)
/-- The first i bytes as a number modulo q. -/
def numF (h : Nat → Int) (q : Int) : Nat → Int
  | 0 => 0
  | i + 1 => addI (mulI (numF h q i) 256 q) (h i) q
def numberI (label : List Int) (S : Nat → List Int) (n : Nat) (q : Int) : Int := if okM q then numF (fun i => (sumL (numL label S n)).getD i 0) q 16 else 0

theorem numF_bd (h : Nat → Int) (q : Int) (i : Nat) : 0 ≤ numF h q i ∧ numF h q i ≤ 4611686018427387903 := by
  cases i with
  | zero =>
    show (0 : Int) ≤ 0 ∧ (0 : Int) ≤ 4611686018427387903
    omega
  | succ i => exact addI_bd _ _ _
theorem numL_succ_len (label : List Int) (S : Nat → List Int) (i : Nat) : (numL label S (i + 1)).length = (numL label S i).length + 8 + (S i).length := by
  show (numL label S i ++ (bytesL (S i).length 8 ++ S i)).length = _
  rw [List.length_append, List.length_append, bytesL_len]
  omega
theorem numL_mono (label : List Int) (S : Nat → List Int) {i : Nat} : ∀ n, i ≤ n → (numL label S i).length ≤ (numL label S n).length
  | 0, h => by
    obtain rfl : i = 0 := by omega
    exact Nat.le_refl _
  | n + 1, h => by
    by_cases he : i = n + 1
    · rw [he]; exact Nat.le_refl _
    · have := numL_mono label S (i := i) n (by omega)
      rw [numL_succ_len]
      omega
theorem numL_bd {label : List Int} {S : Nat → List Int} (hl : Bts label) : ∀ n, (∀ i, i < n → Bts (S i)) → Bts (numL label S n)
  | 0, _ => bts_app (bytesL_bd _ _) hl
  | n + 1, h => bts_app (numL_bd hl n fun i hi => h i (by omega)) (bts_app (bytesL_bd _ _) (h n (by omega)))

end Go.Proofs.YtlnmjbbpenhdbaaGreat

namespace Go.Proofs.YtlnmjbbpenhdbaaGreat
open Go.RowKit

theorem strinfo : (Tryz.prog.info? 9).map (fun i => (i.zero, i.size, i.bytes)) = some (some (.string ⟨#[]⟩), 1, 16) := by kernel_rfl

/-- The cells of n texts. -/
def cellsS (S : Nat → List Int) (n : Nat) : List Value := (List.range n).map fun i => .string (strOfNums (S i))
theorem cellsS_succ (S : Nat → List Int) (n : Nat) : cellsS S (n + 1) = cellsS S n ++ [.string (strOfNums (S n))] := by simp [cellsS, List.range_succ]
/-- What is owned stays owned behind whatever leaves old memory alone. -/
theorem own_old {w w' : World} {base : Nat} {e : TypeId} {size : Nat} {v : Value} {n : Nat} {xs : List Value} (h : w.ownsRow base e size v n xs) (ho : Old w w') : w'.ownsRow base e size v n xs := by
  refine ⟨h.1, ?_⟩
  rcases h.2 with h2 | ⟨g, cap, cur, hv, hg, hh, r⟩
  · exact Or.inl h2
  · refine Or.inr ⟨g, cap, cur, hv, hg, ?_, r⟩
    rw [ho.block g ?_]
    · exact hh
    · refine Classical.byContradiction fun hc => ?_
      have : w.heap[g]? = none := by simp; omega
      rw [this] at hh
      cases hh
theorem own_strs {w : World} {base : Nat} {e : TypeId} {v : Value} {n : Nat} {S : Nat → List Int} (h : w.ownsRow base e 1 v n (cellsS S n)) (hb : ∀ i, i < n → Bts (S i)) : ∃ a cap, v = .slice a n cap ∧ n ≤ cap ∧ StrsIn w a n S := by
  by_cases hn : n = 0
  · subst hn
    rcases h.2 with ⟨rfl, _⟩ | ⟨g, cap, cur, rfl, _, _, hc, _⟩
    · exact ⟨none, 0, rfl, Nat.le_refl _, Or.inl rfl⟩
    · exact ⟨_, cap, rfl, hc, Or.inl rfl⟩
  · obtain ⟨g, cap, rfl, _, hlt, hc, hcell⟩ := own_cells h (by omega)
    refine ⟨_, cap, rfl, hc, Or.inr ⟨g, 0, rfl, hlt, fun i hi => ⟨?_, hb i hi⟩⟩⟩
    rw [Nat.zero_add, hcell i hi]
    simp [cellsS, hi]
/-- One more element behind old memory. -/
theorem old_app {W w w' : World} {e : TypeId} {size : Nat} {v : Value} {n : Nat} {xs : List Value} {o : Obj} (hb : Old W w) (ho : w.ownsRow W.heap.size e size v n xs) (hg : (w.alloc o).grownBy w' v.ownBlock) : Old W w' := by
  have h1 := hb.alloc o
  refine ⟨hg.os.trans h1.os, hg.output.trans h1.output, Nat.le_trans h1.size hg.size, fun k hk => (hg.block k (Nat.lt_of_lt_of_le hk h1.size) fun he => ?_).trans (h1.block k hk)⟩
  have := own_from ho k he.symm
  omega

end Go.Proofs.YtlnmjbbpenhdbaaGreat

namespace Go.Proofs.YtlnmjbbpenhdbaaGreat
open Go Go.RowKit

/-- How many of the first n have not come up. -/
def wcnt (l : Nat → Bool) : Nat → Nat
  | 0 => 0
  | n + 1 => wcnt l n + (if l n then 0 else 1)
def lset (l : Nat → Bool) (i : Nat) : Nat → Bool := fun k => l k || k == i
theorem wcnt_same {l m : Nat → Bool} : ∀ n, (∀ k, k < n → l k = m k) → wcnt l n = wcnt m n
  | 0, _ => rfl
  | n + 1, h => by
    show wcnt l n + _ = wcnt m n + _
    rw [wcnt_same n fun k hk => h k (by omega), h n (by omega)]
theorem wcnt_set {l : Nat → Bool} {i : Nat} (hi : l i = false) : ∀ n, i < n → wcnt (lset l i) n + 1 = wcnt l n
  | 0, h => by omega
  | n + 1, h => by
    show wcnt (lset l i) n + (if lset l i n then 0 else 1) + 1 = wcnt l n + (if l n then 0 else 1)
    by_cases hin : i = n
    · subst hin
      rw [wcnt_same (l := lset l i) (m := l) i fun k hk => by simp [lset]; omega, hi]
      simp [lset]
    · have := wcnt_set hi n (by omega)
      have e : lset l i n = l n := by simp [lset]; omega
      rw [e]
      omega
theorem wcnt_none {l : Nat → Bool} : ∀ n, wcnt l n = 0 → ∀ k, k < n → l k = true
  | 0, _, k, hk => by omega
  | n + 1, h, k, hk => by
    have h' : wcnt l n + (if l n then 0 else 1) = 0 := h
    by_cases hkn : k = n
    · subst hkn
      cases hl : l k
      · rw [hl] at h'; simp at h'
      · rfl
    · exact wcnt_none n (by omega) k (by omega)
theorem wcnt_le (l : Nat → Bool) : ∀ n, wcnt l n ≤ n
  | 0 => Nat.le_refl _
  | n + 1 => by
    show wcnt l n + (if l n then 0 else 1) ≤ n + 1
    have := wcnt_le l n
    split <;> omega

/-- Each operation waits for earlier ones alone. -/
def backB (md : Region.Mode) (ops : Array Oper) : Bool := (List.range ops.size).all fun i => match ops[i]? with
  | some o => o.after.all fun e => !Region.binds md e || decide (e.on < i)
  | none => true
theorem backB_spec {md : Region.Mode} {ops : Array Oper} (h : backB md ops = true) {i : Nat} {o : Oper} (ho : ops[i]? = some o) : ∀ e ∈ o.after, Region.binds md e = true → e.on < i := by
  have hi := (Array.getElem?_eq_some_iff.1 ho).1
  have h1 := List.all_eq_true.1 h i (List.mem_range.2 hi)
  rw [ho] at h1
  intro e he hb
  have h2 := Array.all_eq_true_iff_forall_mem.1 h1 e he
  rw [hb] at h2
  simpa using h2

section
variable {P : Program} {ops : Array Oper} {Q : Exit → Act → World → Prop} {md : Region.Mode}

theorem least_ready {listed : Array Bool} (hb : backB md ops = true) (hs : listed.size = ops.size) : ∀ i, i < ops.size → listed.getD i false = false → Region.ready md ops listed ≠ [] := by
  intro i
  induction i using Nat.strongRecOn with
  | _ i ih =>
    intro hi hl h0
    have ho : ops[i]? = some ops[i] := Array.getElem?_eq_getElem hi
    by_cases hall : ∀ e ∈ ops[i].after, Region.binds md e = true → listed.getD e.on false = true
    · have hr : i ∈ Region.ready md ops listed := mem_ready.2 ⟨by simp [hs, hi] at hl ⊢; exact hl, ops[i], ho, hall⟩
      rw [h0] at hr
      cases hr
    · have : ∃ e, e ∈ ops[i].after ∧ Region.binds md e = true ∧ listed.getD e.on false = false := by
        refine Classical.byContradiction fun hn => hall fun e he hbd => ?_
        cases hx : listed.getD e.on false
        · exact absurd ⟨e, he, hbd, hx⟩ hn
        · rfl
      obtain ⟨e, he, hbd, hx⟩ := this
      have hlt := backB_spec hb ho e he hbd
      exact ih e.on hlt (by omega) hx h0

/-- **Whatever comes up keeps J, and J of all is enough.** -/
theorem wpAny_ways (J : (Nat → Bool) → Act → World → Prop) (hb : backB md ops = true)
    (step : ∀ l a w i o, ops[i]? = some o → l i = false → (∀ e ∈ o.after, Region.binds md e = true → l e.on = true) → J l a w → wpOp P ops Q i (J (lset l i)) a w)
    (fin : ∀ l a w, (∀ i, i < ops.size → l i = true) → J l a w → Q .normal a w) :
    ∀ (fuel : Nat) (listed : Array Bool) (m : Nat → Bool) (a : Act) (w : World), listed.size = ops.size → (∀ k, k < ops.size → m k = listed.getD k false) → wcnt m ops.size ≤ fuel → J m a w → wpAny P md ops Q fuel listed a w
  | 0, listed, m, a, w, hs, hag, hc, hJ => by
    have hall := wcnt_none ops.size (by omega : wcnt m ops.size = 0)
    refine ⟨?_, fin _ a w hall hJ⟩
    cases hr : Region.ready md ops listed with
    | nil => rfl
    | cons j _ =>
      have hj : j ∈ Region.ready md ops listed := by rw [hr]; simp
      obtain ⟨h0, o, ho, _⟩ := mem_ready.1 hj
      have hlt : j < ops.size := (Array.getElem?_eq_some_iff.1 ho).1
      have h1 : listed.getD j false = true := by rw [← hag j hlt]; exact hall j hlt
      simp [hs, hlt] at h0 h1
      rw [h0] at h1
      cases h1
  | fuel + 1, listed, m, a, w, hs, hag, hc, hJ => by
    refine ⟨fun h0 => fin _ a w (fun i hi => ?_) hJ, fun j hj => ?_⟩
    · cases hx : listed.getD i false
      · exact absurd h0 (least_ready hb hs i hi hx)
      · rw [hag i hi, hx]
    · obtain ⟨h0, o, ho, hall⟩ := mem_ready.1 hj
      have hlt : j < ops.size := (Array.getElem?_eq_some_iff.1 ho).1
      have hf : m j = false := by rw [hag j hlt]; simp [hs, hlt] at h0 ⊢; exact h0
      have hagree : ∀ k, k < ops.size → lset m j k = (listed.setIfInBounds j true).getD k false := fun k hk => by
        by_cases hjk : j = k
        · subst hjk
          simp [lset, hs, hk]
        · rw [getD_set_ne false hjk, ← hag k hk]
          have : (k == j) = false := by simp; omega
          simp [lset, this]
      refine wpOp_mono (fun a' w' h => ?_) (step m a w j o ho hf (fun e he hbd => by have := backB_spec hb ho e he hbd; rw [hag e.on (by omega)]; exact hall e he hbd) hJ)
      refine wpAny_ways J hb step fin fuel (listed.setIfInBounds j true) (lset m j) a' w' (by simp [hs]) hagree ?_ h
      have := wcnt_set (l := m) (i := j) hf ops.size hlt
      omega

def stepsOk (p : Nat → Oper → Prop) : Nat → List Oper → Prop
  | _, [] => True
  | i, o :: r => p i o ∧ stepsOk p (i + 1) r
theorem stepsOk.cons {p : Nat → Oper → Prop} {i : Nat} {o : Oper} {r : List Oper} (h : p i o) (k : stepsOk p (i + 1) r) : stepsOk p i (o :: r) := ⟨h, k⟩
end

/-- Each of the first n is waited for by a later one, up to n. -/
def sinkAt (ops : Array Oper) (n : Nat) : Bool := (List.range n).all fun i => (List.range (n + 1)).any fun j => decide (i < j) && match ops[j]? with
  | some o => o.after.any fun e => Region.binds .any e && e.on == i
  | none => false
theorem sinkAt_spec {ops : Array Oper} {n : Nat} (h : sinkAt ops n = true) {i : Nat} (hi : i < n) : ∃ j oj, i < j ∧ j ≤ n ∧ ops[j]? = some oj ∧ ∃ e ∈ oj.after, Region.binds .any e = true ∧ e.on = i := by
  have h1 := List.all_eq_true.1 h i (List.mem_range.2 hi)
  obtain ⟨j, hj, h2⟩ := List.any_eq_true.1 h1
  simp only [Bool.and_eq_true, decide_eq_true_eq] at h2
  obtain ⟨h3, h4⟩ := h2
  cases ho : ops[j]? with
  | none => rw [ho] at h4; cases h4
  | some oj =>
    rw [ho] at h4
    obtain ⟨e, he, hb⟩ := Array.any_eq_true'.1 h4
    simp only [Bool.and_eq_true, beq_iff_eq] at hb
    exact ⟨j, oj, h3, by have := List.mem_range.1 hj; omega, ho, e, he, hb.1, hb.2⟩
def closedL (ops : Array Oper) (l : Nat → Bool) : Prop := ∀ j oj, ops[j]? = some oj → l j = true → ∀ e ∈ oj.after, Region.binds .any e = true → l e.on = true
theorem closedL_set {ops : Array Oper} {l : Nat → Bool} {i : Nat} {o : Oper} (h : closedL ops l) (ho : ops[i]? = some o) (hpre : ∀ e ∈ o.after, Region.binds .any e = true → l e.on = true) : closedL ops (lset l i) := by
  intro j oj hj hl e he hb
  by_cases hij : j = i
  · subst hij
    cases hj.symm.trans ho
    simp [lset, hpre e he hb]
  · have : l j = true := by simpa [lset, hij] using hl
    simp [lset, h j oj hj this e he hb]
theorem sink_all {ops : Array Oper} {n : Nat} {l : Nat → Bool} {o : Oper} (hs : sinkAt ops n = true) (hc : closedL ops l) (ho : ops[n]? = some o) (hpre : ∀ e ∈ o.after, Region.binds .any e = true → l e.on = true) : ∀ (d i : Nat), n - i = d → i < n → l i = true := by
  intro d
  induction d using Nat.strongRecOn with
  | _ d ih =>
    intro i hd hi
    obtain ⟨j, oj, h1, h2, hj, e, he, hb, hon⟩ := sinkAt_spec hs hi
    rw [← hon]
    by_cases hjn : j = n
    · subst hjn
      cases hj.symm.trans ho
      exact hpre e he hb
    · exact hc j oj hj (ih (n - j) (by omega) j rfl (by omega)) e he hb

end Go.Proofs.YtlnmjbbpenhdbaaGreat

namespace Go.Proofs.YtlnmjbbpenhdbaaGreat
open Go.RowKit

/-- A list of its own, of lists of its own. -/
def Rws (w : World) (base : Nat) (v : Value) (nb : Nat) (L : Nat → Nat) (B : Nat → Nat → Int) : Prop :=
  ∃ (BA : Nat → Option Addr) (C : Nat → Nat), w.ownsRow base 29 1 v nb ((List.range nb).map fun j => Value.slice (BA j) (L j) (C j)) ∧ ∀ j, j < nb → Nums w base (.slice (BA j) (L j) (C j)) (L j) (B j)
theorem Rws.old {w w' : World} {base nb : Nat} {v : Value} {L : Nat → Nat} {B : Nat → Nat → Int} (h : Rws w base v nb L B) (ho : Old w w') : Rws w' base v nb L B := by
  obtain ⟨BA, C, h1, h2⟩ := h
  exact ⟨BA, C, own_old h1 ho, fun j hj => (h2 j hj).old ho⟩
theorem Rws.mono {w : World} {base base' nb : Nat} {v : Value} {L : Nat → Nat} {B : Nat → Nat → Int} (h : Rws w base v nb L B) (hb : base' ≤ base) : Rws w base' v nb L B := by
  obtain ⟨BA, C, h1, h2⟩ := h
  exact ⟨BA, C, h1.mono hb, fun j hj => (h2 j hj).mono hb⟩
theorem Rws.below {w : World} {base nb : Nat} {v : Value} {L : Nat → Nat} {B : Nat → Nat → Int} (h : Rws w base v nb L B) {p : Addr} (hp : p.block < base) (u : Value) : Rws (w.setCell p u) base v nb L B := by
  obtain ⟨BA, C, h1, h2⟩ := h
  exact ⟨BA, C, ownsRow_setCell_below h1 hp u, fun j hj => ownsRow_setCell_below (h2 j hj) hp u⟩
theorem Rws.lists {w : World} {base nb : Nat} {v : Value} {L : Nat → Nat} {B : Nat → Nat → Int} (h : Rws w base v nb L B) (hB : ∀ j, j < nb → ∀ i, i < L j → U64 (B j i)) :
    ∃ (b : Option Addr) (c : Nat) (BA : Nat → Option Addr) (C : Nat → Nat), v = .slice b nb c ∧ nb ≤ c ∧ c ≤ 9223372036854775807 ∧ ListsIn w b nb BA L C B := by
  obtain ⟨BA, C, h1, h2⟩ := h
  have h1' := h1
  rcases h1.2 with ⟨rfl, rfl⟩ | ⟨g, cap, cur, rfl, hb, hg, hc, hm, _⟩
  · exact ⟨none, 0, BA, C, rfl, Nat.le_refl _, by omega, Or.inl rfl⟩
  · refine ⟨some ⟨g, 0, none⟩, cap, BA, C, rfl, hc, by unfold maxLen at hm; omega, Or.inr ⟨g, 0, rfl, (Array.getElem?_eq_some_iff.1 hg).1, fun j hj => ?_⟩⟩
    obtain ⟨_, _, e, q1, q2, hf⟩ := (h2 j hj).facs2 (hB j hj)
    cases e
    refine ⟨?_, q1, q2, hf⟩
    rw [Nat.zero_add, World.ownsRow.cellAt h1' j (by omega)]
    simp [List.getElem?_map, List.getElem?_range hj]

theorem nums_new (w : World) (base n : Nat) (cs : List Value) (F : Nat → Int) (hb : base ≤ w.heap.size) (hn : n ≤ 1000) (h : cs = (List.range n).map fun i => Value.int .u64 (F i)) : Nums (w.alloc (.cells cs.toArray 22)) base (.slice (some ⟨w.heap.size, 0, none⟩) n n) n F := by
  have := World.ownsRow_lit (base := base) (e := 22) (size := 1) w cs.toArray n hb (by unfold maxLen; omega) (by subst h; simp)
  unfold Nums
  rw [← h]
  simpa using this
/-- A claim made anew. -/
def GivesC (w : World) (nt : Nat) (T : Nat → Int) (nb : Nat) (L : Nat → Nat) (B : Nat → Nat → Int) (r : Ending) (w' : World) : Prop :=
  Old w w' ∧ ∃ v u, r = .returned (.agg #[v, u]) ∧ Nums w' w.heap.size v nt T ∧ Rws w' w.heap.size u nb L B
/-- A claim in memory, made behind w. -/
def MadeIn (w : World) (nt : Nat) (T : Nat → Int) (nb : Nat) (L : Nat → Nat) (B : Nat → Nat → Int) (r : Ending) (w' : World) : Prop :=
  ∃ bt ct bb cb BA C, r = .returned (cv bt nt ct bb nb cb) ∧ Old w w' ∧ ClaimIn w' bt nt ct T bb nb cb BA L C B
theorem GivesC.made {w w' : World} {nt : Nat} {T : Nat → Int} {nb : Nat} {L : Nat → Nat} {B : Nat → Nat → Int} {r : Ending} (h : GivesC w nt T nb L B r w') (hT : ∀ j, j < nt → U64 (T j)) (hB : ∀ j, j < nb → ∀ i, i < L j → U64 (B j i)) : MadeIn w nt T nb L B r w' := by
  obtain ⟨ho, v, u, rfl, h1, h2⟩ := h
  obtain ⟨bt, ct, rfl, q1, q2, hf⟩ := h1.facs2 hT
  obtain ⟨bb, cb, BA, C, rfl, q3, q4, hl⟩ := h2.lists hB
  exact ⟨bt, ct, bb, cb, BA, C, rfl, ho, q1, q2, q3, q4, hf, hl⟩

/-- Functions of few values. -/
def two7 (x y : Int) : Nat → Int | 0 => x | _ => y
def tri7 (x y z : Int) : Nat → Int | 0 => x | 1 => y | _ => z
theorem u64_two {x y : Int} (hx : U64 x) (hy : U64 y) : ∀ j, U64 (two7 x y j)
  | 0 => hx
  | _ + 1 => hy
theorem lt2 {p : Nat → Prop} (h0 : p 0) (h1 : p 1) : ∀ j, j < 2 → p j
  | 0, _ => h0
  | 1, _ => h1

end Go.Proofs.YtlnmjbbpenhdbaaGreat
