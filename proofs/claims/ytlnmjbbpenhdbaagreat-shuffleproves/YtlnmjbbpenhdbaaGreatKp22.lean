/-
  What the proof needs, part 22.
-/
import Derived.Test.YtlnmjbbpenhdbaaGreatKp15
import Derived.Test.YtlnmjbbpenhdbaaGreatKp21
import Derived.Test.YtlnmjbbpenhdbaaGreatKp17
import Derived.Test.YtlnmjbbpenhdbaaGreatKp11
import Derived.Test.YtlnmjbbpenhdbaaGreatKp20
namespace Go.Proofs.YtlnmjbbpenhdbaaGreat
set_option linter.unusedSimpArgs false
set_option linter.unusedVariables false
set_option maxRecDepth 100000
set_option maxHeartbeats 32000000
section
open Go Go.RowKit
structure OldT (T : TypeId) (w w' : World) : Prop where
 os : w'.os = w.os
 output : w'.output = w.output
 size : w.heap.size <= w'.heap.size
 block : ∀ k, k < w.heap.size -> w'.heap[k]? = w.heap[k]? ∨ ∃ cs cs', w.heap[k]? = some (.cells cs T (0, 0)) /\ w'.heap[k]? = some (.cells cs' T (0, 0)) /\ cs'.size = cs.size
theorem OldT.of {T : TypeId} {w w' : World} (h : Old w w') : OldT T w w' := ⟨h.os, h.output, h.size, fun k hk => Or.inl (h.block k hk)⟩
instance (T : TypeId) : OldR (OldT T) := ⟨fun _ _ h => .of h⟩
theorem heap_setRow (w : World) (g : Nat) (cells cs : Array Value) (T : TypeId) (h : w.heap[g]? = some (.cells cs T (0, 0))) : (w.setRow g cells).heap[g]? = some (.cells cells T (0, 0)) := by
 have hlt := (Array.getElem?_eq_some_iff.1 h).1
 simp [World.setRow, Array.getElem?_modify, h]
theorem heap_setRow_ne (w : World) (g : Nat) (cells : Array Value) {k : Nat} (h : k ≠ g) : (w.setRow g cells).heap[k]? = w.heap[k]? := by
 simp [World.setRow, Array.getElem?_modify, Ne.symm h]
theorem OldT.setRow {T : TypeId} {w : World} {g : Nat} {cells cs : Array Value} (h : w.heap[g]? = some (.cells cs T (0, 0))) (hs : cells.size = cs.size) : OldT T w (w.setRow g cells) :=
 ⟨rfl, rfl, by rw [size_setRow]; exact Nat.le_refl _, fun k hk => by
  by_cases hk2 : k = g
  · subst hk2
   exact Or.inr ⟨cs, cells, h, heap_setRow _ _ _ _ _ h, hs⟩
  · exact Or.inl (heap_setRow_ne _ _ _ hk2)⟩
theorem Nums.oldT {T : TypeId} (ht : T ≠ 22) {w w' : World} {base k : Nat} {v : Value} {F : Nat -> Int} (h : Nums w base v k F) (ho : OldT T w w') : Nums w' base v k F := by
 refine ⟨h.1, ?_⟩
 rcases h.2 with hn | ⟨g, cap, cur, hv, hb, hg, rest⟩
 · exact Or.inl hn
 · refine Or.inr ⟨g, cap, cur, hv, hb, ?_, rest⟩
  rcases ho.block g (Array.getElem?_eq_some_iff.1 hg).1 with h2 | ⟨cs, cs', h2, _⟩
  · exact h2.trans hg
  · rw [hg] at h2
   cases h2
   exact absurd rfl ht
theorem BoxF.oldT {T : TypeId} (ht : T ≠ 74) {w w' : World} {a : Option Addr} {n : Nat} {C : Nat -> Nat -> Int} (h : BoxF w a n C) (ho : OldT T w w') : BoxF w' a n C := by
 rcases h with h | ⟨b, ds, rfl, hb, hr⟩
 · exact Or.inl h
 · refine Or.inr ⟨b, ds, rfl, ?_, hr⟩
  rcases ho.block b (Array.getElem?_eq_some_iff.1 hb).1 with h2 | ⟨cs, cs', h2, _⟩
  · exact h2.trans hb
  · rw [hb] at h2
   cases h2
   exact absurd rfl ht
def numE {T : TypeId} (ht : T ≠ 22) (base n : Nat) (F : Nat -> Int) : Ent2 (OldT T) := .u (fun v w => Nums w base v n F) fun _ _ _ h ho => h.oldT ht ho
def varE (T : TypeId) (n B : Nat) : Ent2 (OldT T) := .u (fun v w => ∃ b, v = .pointer (some ⟨b, 0, none⟩) /\ B <= b /\ ∃ cs, w.heap[b]? = some (.cells cs T (0, 0)) /\ cs.size = n) fun _ _ _ ⟨b, e, hb, cs, h, hs⟩ ho => ⟨b, e, hb, by
 rcases ho.block b (Array.getElem?_eq_some_iff.1 h).1 with h2 | ⟨ds, ds', h2, h3, h4⟩
 · exact ⟨cs, h2.trans h, hs⟩
 · rw [h] at h2
  cases h2
  exact ⟨ds', h3, h4.trans hs⟩⟩
def putE (T : TypeId) (i j B : Nat) : Ent2 (OldT T) := .d [i, j] (fun l _ w => ∃ b cs, l = [.pointer (some ⟨b, 0, none⟩), .agg cs] /\ B <= b /\ w.heap[b]? = some (.cells cs T (0, 0))) fun _ _ _ _ ⟨b, cs, e, hb, h⟩ ho => ⟨b, cs, e, hb, (ho.block b (Array.getElem?_eq_some_iff.1 h).1).trans h⟩
theorem run_extract8 {P : Program} {ev : Operand -> Value} {dst : Option Tmp} {x : Operand} {i : Nat} {ty : TypeId} {pos : String} {after : Array Edge} {guard : Option (Nat × Bool)} {cs : Array Value} {v : Value} {w : World} (hx : ev x = .tuple cs) (hv : cs[i]? = some v) : (execOp ev ⟨dst, .extract x i, ty, pos, after, guard⟩).run P w = .ok (.value v) w := by
 simp [execOp, hx, hv, go_sem]
section
variable {T : TypeId} {P : Program} {ops : List Oper} {L0 : List Value} {E : List (Ent2 (OldT T))} {R : World -> Prop} {i : Nat}
theorem stPy {dst : Option Tmp} {ty : TypeId} {pos : String} {after : Array Edge} {guard : Option (Nat × Bool)} {x y : Operand} {a b B n : Nat} (cs : (Nat -> Value) -> Array Value -> Prop) (hR : ∀ w g cells, R w -> B <= g -> R (w.setRow g cells)) (h : ∀ (t : Nat -> Value) (wx : World), R wx -> (∀ k, needs ⟨dst, .store T x y, ty, pos, after, guard⟩ k = true -> okAt2 E k t wx) -> ∃ g c old, t a = .pointer (some ⟨g, 0, none⟩) /\ t b = .agg c /\ B <= g /\ wx.heap[g]? = some (.cells old T (0, 0)) /\ old.size = n /\ c.size = n /\ c.all (·.oneCell') = true) (hi : (P.info? T).map (·.size) = some n := by kernel_rfl) (ho : onlyD E i = true := by kernel_rfl) (hg : guardT2 E ⟨dst, .store T x y, ty, pos, after, guard⟩ = some true := by rfl) (hx : ∀ t, Act.eval ⟨(fill2 ops E t 0 L0).toArray, []⟩ x = t a := by intro _; kernel_rfl) (hy : ∀ t, Act.eval ⟨(fill2 ops E t 0 L0).toArray, []⟩ y = t b := by intro _; kernel_rfl) : StepT2 P ops L0 E R i ⟨dst, .store T x y, ty, pos, after, guard⟩ (putE T a b B) :=
 stgy (fun t wx hRx hd => by
  obtain ⟨g, c, old, ea, eb, hB, hrow, hs, hc, hone⟩ := h t wx hRx hd
  simp only [execOp, hx t, hy t, ea, eb, Instr.storeAt, Instr.sureAddr, Sem.run_bind, Sem.run_pure, Result.andThen_ok, run_storeVar_row wx g T T old c hrow (hi.trans (by rw [hc])) (hs.trans hc.symm) hone]
  exact ⟨hR _ _ _ hRx hB, Or.inr ⟨.setRow hrow (hc.trans hs.symm), ho⟩, g, c, by rw [<- ea, <- eb]; rfl, hB, heap_setRow _ _ _ _ _ hrow⟩) hg
theorem OldT.trans {a b c : World} (h : OldT T a b) (k : OldT T b c) : OldT T a c :=
 ⟨k.os.trans h.os, k.output.trans h.output, Nat.le_trans h.size k.size, fun i hi => by
  rcases k.block i (Nat.lt_of_lt_of_le hi h.size) with h2 | ⟨ds, ds', h2, h3, h4⟩
  · rw [h2]; exact h.block i hi
  · rcases h.block i hi with h5 | ⟨cs, cs', h5, h6, h7⟩
   · exact Or.inr ⟨ds, ds', h5.symm.trans h2, h3, h4⟩
   · rw [h2] at h6
    cases h6
    exact Or.inr ⟨cs, ds', h5, h3, h4.trans h7⟩⟩
theorem OldT.row {S : TypeId} (ht : T ≠ S) {w w' : World} {b : Nat} {cs : Array Value} (ho : OldT T w w') (h : w.heap[b]? = some (.cells cs S (0, 0))) : w'.heap[b]? = some (.cells cs S (0, 0)) := by
 rcases ho.block b (Array.getElem?_eq_some_iff.1 h).1 with h2 | ⟨ds, ds', h2, _⟩
 · exact h2.trans h
 · rw [h] at h2
  cases h2
  exact absurd rfl ht
theorem OldT.kind {w w' : World} {b n : Nat} (ho : OldT T w w') (h : ∃ cs, w.heap[b]? = some (.cells cs T (0, 0)) /\ cs.size = n) : ∃ cs, w'.heap[b]? = some (.cells cs T (0, 0)) /\ cs.size = n := by
 obtain ⟨cs, h, hs⟩ := h
 rcases ho.block b (Array.getElem?_eq_some_iff.1 h).1 with h2 | ⟨ds, ds', h2, h3, h4⟩
 · exact ⟨cs, h2.trans h, hs⟩
 · rw [h] at h2
  cases h2
  exact ⟨ds', h3, h4.trans hs⟩
def rowE (T : TypeId) (g : Nat) (c : Array Value) : Ent2 (OldT T) := .d [] (fun _ _ w => w.heap[g]? = some (.cells c T (0, 0))) fun _ _ _ _ h ho => (ho.block _ (Array.getElem?_eq_some_iff.1 h).1).trans h
theorem stQy {dst : Option Tmp} {ty : TypeId} {pos : String} {after : Array Edge} {guard : Option (Nat × Bool)} {x y : Operand} {g n : Nat} {c : Array Value} (hR : ∀ w, R w -> R (w.setRow g c)) (hrow : ∀ w, R w -> ∃ old, w.heap[g]? = some (.cells old T (0, 0)) /\ old.size = n) (hc : c.size = n := by rfl) (hone : c.all (·.oneCell') = true := by simp [Value.oneCell']) (hi : (P.info? T).map (·.size) = some n := by kernel_rfl) (ho : onlyD E i = true := by kernel_rfl) (hg : guardT2 E ⟨dst, .store T x y, ty, pos, after, guard⟩ = some true := by rfl) (hx : ∀ t, Act.eval ⟨(fill2 ops E t 0 L0).toArray, []⟩ x = .pointer (some ⟨g, 0, none⟩) := by intro _; kernel_rfl) (hy : ∀ t, Act.eval ⟨(fill2 ops E t 0 L0).toArray, []⟩ y = .agg c := by intro _; kernel_rfl) : StepT2 P ops L0 E R i ⟨dst, .store T x y, ty, pos, after, guard⟩ (rowE T g c) :=
 stgy (fun t wx hRx hd => by
  obtain ⟨old, hrow, hs⟩ := hrow wx hRx
  simp only [execOp, hx t, hy t, Instr.storeAt, Instr.sureAddr, Sem.run_bind, Sem.run_pure, Result.andThen_ok, run_storeVar_row wx g T T old c hrow (hi.trans (by rw [hc])) (hs.trans hc.symm) hone]
  exact ⟨hR _ hRx, Or.inr ⟨.setRow hrow (hc.trans hs.symm), ho⟩, heap_setRow _ _ _ _ _ hrow⟩) hg
end
end
section
open Go.RowKit
set_option linter.unusedSimpArgs false in
theorem pprove_any (label : List Int) (P Q G H : Int) (a : Option Addr) (n cap : Nat) (bt : Option Addr) (nt ct : Nat) (T : Nat -> Int) (bb : Option Addr) (nb cb : Nat) (BA : Nat -> Option Addr) (L C : Nat -> Nat) (B : Nat -> Nat -> Int) (bw : Option Addr) (nw cw : Nat) (X : Nat -> Int) (bd : Option Addr) (nd cd : Nat) (Y : Nat -> Int) (F : Nat -> Int) (hF : F = fun j => imI P Q (B j) Y (sizeN P Q nt T nb L B)) (w : World) (h4 : Four P Q G H) (hr : Righ P Q G) (hlb : Bts label) (hll : label.length <= 1000) (mt : nt <= 80) (mb : nb <= 80) (mL : ∀ j, j < nb -> L j <= 80) (mw : nw <= 80) (md : nd <= 80) (hcw : nw <= cw) (hcd : nd <= cd) (hC : ClaimIn w bt nt ct T bb nb cb BA L C B) (hX : FacsIn w bw nw X) (hY : FacsIn w bd nd Y) :
  Calls Tryz.prog 90 #[gv P Q G H a n cap, .string (strOfNums label), cv bt nt ct bb nb cb, .slice bw nw cw, .slice bd nd cd] w (GivesP w (provB (sizeN P Q nt T nb L B) nw nd) nt F nw (fun k => ansI Q (chI label P Q G H nt T nb L B nt F) (X k) (Y k))) := by
 have HZ := lain3 w (gc P Q G H a n cap) (cc bt nt ct bb nb cb) (cc none 0 0 none 0 0) 25 50 55
 have HT : Hid (∀ w', Old (((w.alloc (.cells (gc P Q G H a n cap) 25)).alloc (.cells (cc bt nt ct bb nb cb) 50)).alloc (.cells (cc none 0 0 none 0 0) 55)) w' -> w'.cell? ⟨w.heap.size, 0, none⟩ = some (.int .u64 P) /\ w'.cell? ⟨w.heap.size, 1, none⟩ = some (.int .u64 Q) /\ w'.cell? ⟨w.heap.size, 2, none⟩ = some (.int .u64 G) /\ w'.cell? ⟨w.heap.size, 3, none⟩ = some (.int .u64 H) /\ w'.cell? ⟨w.heap.size, 4, none⟩ = some (.slice a n cap) /\ w'.cell? ⟨w.heap.size + 1, 0, none⟩ = some (.slice bt nt ct) /\ w'.cell? ⟨w.heap.size + 1, 1, none⟩ = some (.slice bb nb cb)) := fun w' ho => by
  have h := HZ.then ho
  exact ⟨h.cell 0 0 (by simp) rfl, h.cell 0 1 (by simp) rfl, h.cell 0 2 (by simp) rfl, h.cell 0 3 (by simp) rfl, h.cell 0 4 (by simp) rfl, h.cell 1 0 (by simp) rfl, h.cell 1 1 (by simp) rfl⟩
 have HRS : Hid (∀ w', Old (((w.alloc (.cells (gc P Q G H a n cap) 25)).alloc (.cells (cc bt nt ct bb nb cb) 50)).alloc (.cells (cc none 0 0 none 0 0) 55)) w' -> w'.heap[w.heap.size + 1 + 1]? = some (.cells #[.slice none 0 0, .slice none 0 0] 55 (0, 0))) := fun w' ho => (HZ.then ho).row 2 (by simp)
 have HIm : Hid (∀ wx, Old w wx -> Calls Tryz.prog 42 #[gv P Q G H a n cap, cv bt nt ct bb nb cb, .slice bd nd cd] wx (Gives wx (fitsB (sizeN P Q nt T nb L B) nd) nt F)) := fun wx ho => by rw [hF]; exact (limage_gen P Q G H a n cap bt nt ct T bb nb cb BA L C B bd nd cd Y wx h4 hr (hC.old ho) (hY.old ho)).mono fun e w' h => h.gives (by omega)
 have HFU : Hid (∀ j, U64 (F j)) := fun j => by rw [hF]; exact u64_prod _ _ _
 have HCh : Hid (∀ b c wx, Old w wx -> FacsIn wx b nt F -> Calls Tryz.prog 129 #[gv P Q G H a n cap, .string (strOfNums label), cv bt nt ct bb nb cb, .slice b nt c] wx fun e w' => e = .returned (.int .u64 (chI label P Q G H nt T nb L B nt F)) /\ Old wx w') := fun b c wx ho hf => pchal_any label P Q G H a n cap bt nt ct T bb nb cb BA L C B b nt c F wx h4 hlb hll mt mb mL mt (hC.old ho) hf
 have hcu := ch_u64 label P Q G H nt T nb L B nt F
 generalize chI label P Q G H nt T nb L B nt F = ch at *
 obtain ⟨Z, hZ⟩ : ∃ Z : Nat -> Int, Z = fun k => ansI Q ch (X k) (Y k) := ⟨_, rfl⟩
 rw [<- hZ]
 have HAn : Hid (∀ wx, Old w wx -> Calls Tryz.prog 43 #[gv P Q G H a n cap, .slice bw nw cw, .slice bd nd cd, .int .u64 ch] wx (Gives wx (decide (nw = nd)) nw Z)) := fun wx ho => by rw [hZ]; exact lanswer_any P Q G H a n cap bw nw cw X bd nd cd Y ch wx h4 hr hcu mw md hcw hcd (hX.old ho) (hY.old ho)
 have HZU : Hid (∀ k, U64 (Z k)) := fun k => by rw [hZ]; exact u64_ans _ _ _ _
 clear hZ hF h4 hr hlb hll mL hC hX hY hcu mt mb mw md hcw hcd
 generalize sizeN P Q nt T nb L B = sz at *
 cases hok : fitsB sz nd with
 | false =>
  have HN : Hid (provB sz nw nd = false) := by unfold Hid provB; rw [hok]; rfl
  rw [hok] at HIm
  clear hok
  go_enter Tryz.func90, Tryz.ntmps90
  go_upto_region 1 with fail
  have HW0 : Hid (Old w (((w.alloc (.cells (gc P Q G H a n cap) 25)).alloc (.cells (cc bt nt ct bb nb cb) 50)).alloc (.cells (cc none 0 0 none 0 0) 55))) := HZ.old
  generalize hW : ((w.alloc (.cells (gc P Q G H a n cap) 25)).alloc (.cells (cc bt nt ct bb nb cb) 50)).alloc (.cells (cc none 0 0 none 0 0) 55) = W at *
  clear hW
  obtain ⟨d0, d1, d2, d3, d4, z0, z1⟩ := HT.out _ (Old.refl _)
  go_upto_region 2 with (go_at_call 42; refine (HIm.out _ HW0.out).mono ?_; rintro e w2 ⟨v, rfl, hN, h2⟩)
  clear d0 d1 d2 d3 d4 z0 z1 hN
  have HR := HRS.out _ h2
  have q0 : w2.cell? ⟨w.heap.size + 1 + 1, 0, none⟩ = some (.slice none 0 0) := cell_of_row _ _ 0 _ _ (0, 0) HR
  have q1 : w2.cell? ⟨w.heap.size + 1 + 1, 1, none⟩ = some (.slice none 0 0) := cell_of_row _ _ 1 _ _ (0, 0) HR
  have f0 : w2.frozen? ⟨w.heap.size + 1 + 1, 0, none⟩ = false := row_frozen HR 0
  have f1 : w2.frozen? ⟨w.heap.size + 1 + 1, 1, none⟩ = false := row_frozen HR 1
  have HRh : Hid (w2.heap[w.heap.size + 1 + 1]? = some (.cells #[.slice none 0 0, .slice none 0 0] 55 (0, 0))) := HR
  clear HR
  go_wp2_with fail
  exact bodyPost_ret (result_pair (b := w.heap.size + 1 + 1) rfl rfl rfl (load_two HRh.out Tryz.underlying55 info_proof)) rfl (givesP_no HN.out (Old.setCell (p := ⟨w.heap.size + 1 + 1, 1, none⟩) (Old.setCell (p := ⟨w.heap.size + 1 + 1, 0, none⟩) (HW0.out.trans h2) (by show w.heap.size <= w.heap.size + 1 + 1; omega) _) (by show w.heap.size <= w.heap.size + 1 + 1; omega) _))
 | true =>
  rw [hok] at HIm
  by_cases hnn : nw = nd
  · subst hnn
   have HN : Hid (provB sz nw nw = true) := by unfold Hid provB; rw [hok]; simp
   have k1 : decide (nw = nw) = true := by simp
   rw [k1] at HAn
   clear hok k1
   go_enter Tryz.func90, Tryz.ntmps90
   go_upto_region 1 with fail
   have HW0 : Hid (Old w (((w.alloc (.cells (gc P Q G H a n cap) 25)).alloc (.cells (cc bt nt ct bb nb cb) 50)).alloc (.cells (cc none 0 0 none 0 0) 55))) := HZ.old
   have hs0 : w.heap.size + 1 + 1 < (((w.alloc (.cells (gc P Q G H a n cap) 25)).alloc (.cells (cc bt nt ct bb nb cb) 50)).alloc (.cells (cc none 0 0 none 0 0) 55)).heap.size := by simp
   generalize hW : ((w.alloc (.cells (gc P Q G H a n cap) 25)).alloc (.cells (cc bt nt ct bb nb cb) 50)).alloc (.cells (cc none 0 0 none 0 0) 55) = W at *
   clear hW
   obtain ⟨d0, d1, d2, d3, d4, z0, z1⟩ := HT.out _ (Old.refl _)
   go_upto_region 2 with (go_at_call 42; refine (HIm.out _ HW0.out).mono ?_; rintro e w2 ⟨v, rfl, hN, h2⟩)
   simp only [if_true] at hN
   obtain ⟨bf, cf, rfl, hcf, hff⟩ := hN.facs (fun j _ => HFU.out j)
   have HNu : Hid (Nums w2 W.heap.size (.slice bf nt cf) nt F) := hN
   have HFF : Hid (FacsIn w2 bf nt F) := hff
   have HW2 : Hid (Old W w2) := h2
   clear d0 d1 d2 d3 d4 z0 z1 hN hff h2
   obtain ⟨d0, d1, d2, d3, d4, z0, z1⟩ := HT.out _ HW2.out
   go_upto_region 4 with fail
   have hd : Old W w2.drew := HW2.out.drew
   go_region_held3 (fun w' => w'.cell? ⟨w.heap.size, 0, none⟩ = some (.int .u64 P) /\ w'.cell? ⟨w.heap.size, 1, none⟩ = some (.int .u64 Q) /\ w'.cell? ⟨w.heap.size, 2, none⟩ = some (.int .u64 G) /\ w'.cell? ⟨w.heap.size, 3, none⟩ = some (.int .u64 H) /\ w'.cell? ⟨w.heap.size, 4, none⟩ = some (.slice a n cap) /\ w'.cell? ⟨w.heap.size + 1, 0, none⟩ = some (.slice bt nt ct) /\ w'.cell? ⟨w.heap.size + 1, 1, none⟩ = some (.slice bb nb cb)) (first | exact HT.out _ h5 | exact HT.out _ h4 | exact HT.out _ hd) (first
    | (go_at_call 129; refine (HCh.out _ _ _ (HW0.out.trans hd) (HFF.out.old (Old.refl _).drew)).mono ?_; rintro e w4 ⟨rfl, o4⟩; have h4 : Old W w4 := hd.trans o4)
    | (go_at_call 43; refine (HAn.out _ (HW0.out.trans h4)).mono ?_; rintro e w5 ⟨u, rfl, hNz, o5⟩; have h5 : Old W w5 := h4.trans o5))
   simp only [if_true] at hNz
   obtain ⟨bu, cu, rfl, hcu2, _⟩ := hNz.facs (fun j _ => HZU.out j)
   have HNz : Hid (Nums w5 W.heap.size (.slice bu nw cu) nw Z) := hNz.mono h4.size
   have HNv : Hid (Nums w5 W.heap.size (.slice bf nt cf) nt F) := HNu.out.old (((Old.refl w2).drew.trans o4).trans o5)
   have HW5 : Hid (Old W w5) := h5
   clear d0 d1 d2 d3 d4 z0 z1 hNz
   have HR := HRS.out _ HW5.out
   have q0 : w5.cell? ⟨w.heap.size + 1 + 1, 0, none⟩ = some (.slice none 0 0) := cell_of_row _ _ 0 _ _ (0, 0) HR
   have q1 : w5.cell? ⟨w.heap.size + 1 + 1, 1, none⟩ = some (.slice none 0 0) := cell_of_row _ _ 1 _ _ (0, 0) HR
   have f0 : w5.frozen? ⟨w.heap.size + 1 + 1, 0, none⟩ = false := row_frozen HR 0
   have f1 : w5.frozen? ⟨w.heap.size + 1 + 1, 1, none⟩ = false := row_frozen HR 1
   have HRh : Hid (w5.heap[w.heap.size + 1 + 1]? = some (.cells #[.slice none 0 0, .slice none 0 0] 55 (0, 0))) := HR
   clear HR
   go_wp2_with fail
   refine bodyPost_ret (result_pair (b := w.heap.size + 1 + 1) rfl rfl rfl (load_two HRh.out Tryz.underlying55 info_proof)) rfl ?_
   refine givesP_yes HN.out (Old.setCell (p := ⟨w.heap.size + 1 + 1, 1, none⟩) (Old.setCell (p := ⟨w.heap.size + 1 + 1, 0, none⟩) (HW0.out.trans HW5.out) (by show w.heap.size <= w.heap.size + 1 + 1; omega) _) (by show w.heap.size <= w.heap.size + 1 + 1; omega) _) ?_ ?_
   · exact (ownsRow_setCell_below (ownsRow_setCell_below HNv.out (by show w.heap.size + 1 + 1 < W.heap.size; exact hs0) _) (by show w.heap.size + 1 + 1 < W.heap.size; exact hs0) _).mono HW0.out.size
   · exact (ownsRow_setCell_below (ownsRow_setCell_below HNz.out (by show w.heap.size + 1 + 1 < W.heap.size; exact hs0) _) (by show w.heap.size + 1 + 1 < W.heap.size; exact hs0) _).mono HW0.out.size
  · have HN : Hid (provB sz nw nd = false) := by unfold Hid provB; simp [hnn]
   have k1 : decide (nw = nd) = false := decide_eq_false hnn
   rw [k1] at HAn
   clear hok k1
   go_enter Tryz.func90, Tryz.ntmps90
   go_upto_region 1 with fail
   have HW0 : Hid (Old w (((w.alloc (.cells (gc P Q G H a n cap) 25)).alloc (.cells (cc bt nt ct bb nb cb) 50)).alloc (.cells (cc none 0 0 none 0 0) 55))) := HZ.old
   have hs0 : w.heap.size + 1 + 1 < (((w.alloc (.cells (gc P Q G H a n cap) 25)).alloc (.cells (cc bt nt ct bb nb cb) 50)).alloc (.cells (cc none 0 0 none 0 0) 55)).heap.size := by simp
   generalize hW : ((w.alloc (.cells (gc P Q G H a n cap) 25)).alloc (.cells (cc bt nt ct bb nb cb) 50)).alloc (.cells (cc none 0 0 none 0 0) 55) = W at *
   clear hW
   obtain ⟨d0, d1, d2, d3, d4, z0, z1⟩ := HT.out _ (Old.refl _)
   go_upto_region 2 with (go_at_call 42; refine (HIm.out _ HW0.out).mono ?_; rintro e w2 ⟨v, rfl, hN, h2⟩)
   simp only [if_true] at hN
   obtain ⟨bf, cf, rfl, hcf, hff⟩ := hN.facs (fun j _ => HFU.out j)
   have HNu : Hid (Nums w2 W.heap.size (.slice bf nt cf) nt F) := hN
   have HFF : Hid (FacsIn w2 bf nt F) := hff
   have HW2 : Hid (Old W w2) := h2
   clear d0 d1 d2 d3 d4 z0 z1 hN hff h2
   obtain ⟨d0, d1, d2, d3, d4, z0, z1⟩ := HT.out _ HW2.out
   go_upto_region 4 with fail
   have hd : Old W w2.drew := HW2.out.drew
   go_region_held3 (fun w' => w'.cell? ⟨w.heap.size, 0, none⟩ = some (.int .u64 P) /\ w'.cell? ⟨w.heap.size, 1, none⟩ = some (.int .u64 Q) /\ w'.cell? ⟨w.heap.size, 2, none⟩ = some (.int .u64 G) /\ w'.cell? ⟨w.heap.size, 3, none⟩ = some (.int .u64 H) /\ w'.cell? ⟨w.heap.size, 4, none⟩ = some (.slice a n cap) /\ w'.cell? ⟨w.heap.size + 1, 0, none⟩ = some (.slice bt nt ct) /\ w'.cell? ⟨w.heap.size + 1, 1, none⟩ = some (.slice bb nb cb)) (first | exact HT.out _ h5 | exact HT.out _ h4 | exact HT.out _ hd) (first
    | (go_at_call 129; refine (HCh.out _ _ _ (HW0.out.trans hd) (HFF.out.old (Old.refl _).drew)).mono ?_; rintro e w4 ⟨rfl, o4⟩; have h4 : Old W w4 := hd.trans o4)
    | (go_at_call 43; refine (HAn.out _ (HW0.out.trans h4)).mono ?_; rintro e w5 ⟨u, rfl, hNz, o5⟩; have h5 : Old W w5 := h4.trans o5))
   clear d0 d1 d2 d3 d4 z0 z1 hNz
   have HR := HRS.out _ h5
   have q0 : w5.cell? ⟨w.heap.size + 1 + 1, 0, none⟩ = some (.slice none 0 0) := cell_of_row _ _ 0 _ _ (0, 0) HR
   have q1 : w5.cell? ⟨w.heap.size + 1 + 1, 1, none⟩ = some (.slice none 0 0) := cell_of_row _ _ 1 _ _ (0, 0) HR
   have f0 : w5.frozen? ⟨w.heap.size + 1 + 1, 0, none⟩ = false := row_frozen HR 0
   have f1 : w5.frozen? ⟨w.heap.size + 1 + 1, 1, none⟩ = false := row_frozen HR 1
   have HRh : Hid (w5.heap[w.heap.size + 1 + 1]? = some (.cells #[.slice none 0 0, .slice none 0 0] 55 (0, 0))) := HR
   clear HR
   go_wp2_with fail
   exact bodyPost_ret (result_pair (b := w.heap.size + 1 + 1) rfl rfl rfl (load_two HRh.out Tryz.underlying55 info_proof)) rfl (givesP_no HN.out (Old.setCell (p := ⟨w.heap.size + 1 + 1, 1, none⟩) (Old.setCell (p := ⟨w.heap.size + 1 + 1, 0, none⟩) (HW0.out.trans h5) (by show w.heap.size <= w.heap.size + 1 + 1; omega) _) (by show w.heap.size <= w.heap.size + 1 + 1; omega) _))
end
end Go.Proofs.YtlnmjbbpenhdbaaGreat
