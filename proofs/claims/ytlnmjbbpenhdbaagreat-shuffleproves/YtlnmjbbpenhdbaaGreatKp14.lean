/-
  What the proof needs, part 14.
-/
import Derived.Test.YtlnmjbbpenhdbaaGreatKp09
namespace Go.Proofs.YtlnmjbbpenhdbaaGreat
open Tryz
open List renaming set_cons_zero → zs0, set_cons_succ → zs1, drop_succ_cons → zd1, drop_zero → zd0, drop_nil → zdn
open Tryz renaming underlying3 → U3, underlying22 → U22, underlying25 → U25, underlying29 → U29, underlying41 → U41, underlying50 → U50, underlying74 → U74
set_option linter.unusedSimpArgs false
set_option linter.unusedVariables false
set_option maxRecDepth 100000
set_option maxHeartbeats 32000000
section
open Go Go.RowKit
def zdP (E : List Ent) (i : Nat) : Bool := (List.range E.length).all fun k => decide (k = i) || (match E[k]? with | some (.k _) => true | _ => false)
theorem zdo {E : List Ent} {R : World -> Prop} {e : Ent} {wx w' : World} {i : Nat} (hk : zdP E i = true) (hE : E[i]? = some e) (h : R w') (he : ∀ v, e.ok v w') : ResT E R e wx undef w' := by
 refine ⟨h, fun k x hx => ?_, he _⟩
 unfold okAt at hx ⊢
 by_cases hki : k = i
 ·subst hki; rw [hE]; exact he x
 ·cases hEk : E[k]? with
  | none => trivial
  | some e' =>
   rw [hEk] at hx
   have hlt : k < E.length := (List.getElem?_eq_some_iff.1 hEk).1
   have := List.all_eq_true.1 hk k (List.mem_range.2 hlt)
   rw [hEk] at this
   cases e' with
   | k v => exact hx
   | u F hF => simp [hki] at this
def setR (Bs : NN) (r p : Nat) (x : Int) : Nat -> Nat -> Int := fun j => if j = r then (fun q => if q = p then x else Bs r q) else Bs j
def LayB (W : World) (s n : Nat) (Ks : List (Nat × Obj)) (T : NI) (Bs : NN) (k : Nat) (bl : List (Nat × Nat)) (wx : World) : Prop :=
 ∃ v u bk, (∀ e, e ∈ bl -> e.1 < k /\ bk e.1 = e.2) /\ LayS W s n Ks T Bs k v u bk wx
section
variable {W w w' : World} {s n : Nat} {Ks : List (Nat × Obj)} {T : NI} {Bs : NN} {k : Nat} {bl : List (Nat × Nat)}
theorem LayB.old' (h : LayB W s n Ks T Bs k bl w) (ho : Old w w') : LayB W s n Ks T Bs k bl w' := let ⟨v, u, bk, hb, h⟩ := h; ⟨v, u, bk, hb, h.old' ho⟩
theorem LayB.congr {Bs' : NN} (h : LayB W s n Ks T Bs k bl w) (he : ∀ j, j < k -> ∀ q, q < 7 * n + 3 -> Bs j q = Bs' j q) : LayB W s n Ks T Bs' k bl w := let ⟨v, u, bk, hb, h⟩ := h; ⟨v, u, bk, hb, h.congr he⟩
theorem LayB.less {Ks' : List (Nat × Obj)} (h : LayB W s n Ks T Bs k bl w) (he : ∀ e, e ∈ Ks' -> e ∈ Ks) : LayB W s n Ks' T Bs k bl w := let ⟨v, u, bk, hb, h⟩ := h; ⟨v, u, bk, hb, h.less he⟩
theorem LayB.more (h : LayB W s n Ks T Bs k bl w) (o : Obj) : LayB W s n ((w.heap.size, o) :: Ks) T Bs k bl (w.alloc o) := let ⟨v, u, bk, hb, h⟩ := h; ⟨v, u, bk, hb, h.more o⟩
theorem LayB.drop {bl' : List (Nat × Nat)} (h : LayB W s n Ks T Bs k bl w) (he : ∀ e, e ∈ bl' -> e ∈ bl) : LayB W s n Ks T Bs k bl' w := let ⟨v, u, bk, hb, h⟩ := h; ⟨v, u, bk, fun e hm => hb e (he e hm), h⟩
theorem LayB.old (h : LayB W s n Ks T Bs k bl w) : Old W w := let ⟨_, _, _, _, h⟩ := h; h.ly.old
theorem LayB.prot (h : LayB W s n Ks T Bs k bl w) {b : Nat} {o : Obj} (he : (b, o) ∈ Ks) : w.heap[b]? = some o := let ⟨_, _, _, _, h⟩ := h; (h.ly.prot _ he).1
theorem LayB.row (h : LayB W s n Ks T Bs k bl w) : ∃ v u, w.heap[s]? = some (.cells #[.int .i64 (n : Int), v, u] 109 (0, 0)) := let ⟨v, u, _, _, h⟩ := h; ⟨v, u, h.row⟩
theorem LayB.full (h : LayB W s n Ks T Bs k bl w) {r b : Nat} (he : (r, b) ∈ bl) : Full w b (7 * n + 3) (Bs r) := by
 obtain ⟨v, u, bk, hb, h⟩ := h
 obtain ⟨h1, h2⟩ := hb _ he
 have := (h.ly.full r h1).2
 rwa [h2] at this
theorem LayB.cell (h : LayB W s n Ks T Bs k bl w) {r b : Nat} (he : (r, b) ∈ bl) (p : Nat) (x : Int) : LayB W s n Ks T (setR Bs r p x) k bl (w.setCell ⟨b, p, none⟩ (.int .u64 x)) := by
 obtain ⟨v, u, bk, hb, h⟩ := h
 obtain ⟨h1, h2⟩ := hb _ he
 have h2' : bk r = b := h2
 have := h.cell (p := p) h1 x
 rw [h2] at this
 exact ⟨v, u, bk, hb, this⟩
end
theorem ladd8 (W : World) (s n : Nat) (Ks : List (Nat × Obj)) (T : NI) (B : NN) (k : Nat) (bl : List (Nat × Nat)) (x : Int) (w : World) (hn : n <= 8) (hk : k <= 100) (hx : T k = x) (h : LayB W s n Ks T B k bl w) :
  Calls prog 113 #[.pointer (some ⟨s, 0, none⟩), .int .u64 x] w fun e w' => ∃ b, e = .returned (.slice (some ⟨b, 0, none⟩) (7 * n + 3) (7 * n + 3)) /\ LayB W s n Ks T (ones8 B k) (k + 1) ((k, b) :: bl) w' := by
 obtain ⟨v, u, bk, hb, h⟩ := h
 refine (ladd_any W s n Ks T B k v u bk x w hn hk hx h).mono fun e w' ⟨v', u', b, he, hl⟩ => ⟨b, he, v', u', _, fun e hm => ?_, hl⟩
 rcases List.mem_cons.1 hm with rfl | hm
 ·exact ⟨Nat.lt_succ_self _, if_pos rfl⟩
 ·obtain ⟨h1, h2⟩ := hb e hm
  exact ⟨by omega, by rw [if_neg (by omega)]; exact h2⟩
def Lay1 (W : World) (s n : Nat) (Ks : List (Nat × Obj)) (T : NI) (R : NN) (k b p : Nat) (wx : World) : Prop := ∃ c, LayB W s n Ks T (setR (ones8 R k) k p c) (k + 1) [(k, b)] wx
section
variable {W w w' : World} {s n : Nat} {Ks : List (Nat × Obj)} {T : NI} {R : NN} {k b p : Nat}
theorem Lay1.old (w w' : World) (h : Lay1 W s n Ks T R k b p w) (ho : Old w w') : Lay1 W s n Ks T R k b p w' := let ⟨c, h⟩ := h; ⟨c, h.old' ho⟩
theorem Lay1.row (h : Lay1 W s n Ks T R k b p w) : ∃ v u, w.heap[s]? = some (.cells #[.int .i64 (n : Int), v, u] 109 (0, 0)) := let ⟨_, h⟩ := h; h.row
theorem Lay1.prot (h : Lay1 W s n Ks T R k b p w) {b' : Nat} {o : Obj} (he : (b', o) ∈ Ks) : w.heap[b']? = some o := let ⟨_, h⟩ := h; h.prot he
theorem Lay1.of (h : LayB W s n Ks T (ones8 R k) (k + 1) [(k, b)] w) : Lay1 W s n Ks T R k b p w := ⟨ones8 R k k p, h.congr fun j hj q _ => by
 unfold setR
 by_cases hjk : j = k
 ·subst hjk; rw [if_pos rfl]; by_cases hq : q = p
  ·subst hq; simp
  ·simp [hq]
 ·rw [if_neg hjk]⟩
def zcH (W : World) (s n : Nat) (Ks : List (Nat × Obj)) (T : NI) (R : NN) (k b p : Nat) (x : Int) : Ent := .u (fun _ w => LayB W s n Ks T (setR (ones8 R k) k p x) (k + 1) [(k, b)] w) fun _ _ _ h ho => h.old' ho
theorem Lay1.store (h : Lay1 W s n Ks T R k b p w) (x : Int) : LayB W s n Ks T (setR (ones8 R k) k p x) (k + 1) [(k, b)] (w.setCell ⟨b, p, none⟩ (.int .u64 x)) := by
 obtain ⟨c, h⟩ := h
 refine (h.cell List.mem_cons_self p x).congr fun j _ q _ => ?_
 unfold setR
 by_cases hjk : j = k
 ·subst hjk; simp only [if_true]; by_cases hq : q = p
  ·simp [hq]
  ·simp [hq]
 ·simp [hjk]
theorem Lay1.full (h : Lay1 W s n Ks T R k b p w) : ∃ F, Full w b (7 * n + 3) F := let ⟨_, h⟩ := h; ⟨_, h.full List.mem_cons_self⟩
theorem lay_stS {E : List Ent} {i : Nat} {x : Int} (hk : zdP E i = true) (hE : E[i]? = some (zcH W s n Ks T R k b p x)) (hp : p < 7 * n + 3) (wx : World) (h : Lay1 W s n Ks T R k b p wx) :
  (∃ o, wx.cell? ⟨b, p, none⟩ = some o) /\ wx.frozen? ⟨b, p, none⟩ = false /\ ResT E (Lay1 W s n Ks T R k b p) (zcH W s n Ks T R k b p x) wx undef (wx.setCell ⟨b, p, none⟩ (.int .u64 x)) := by
 obtain ⟨F, hF⟩ := h.full
 exact ⟨⟨_, hF.cell p hp⟩, hF.free p, zdo hk hE ⟨x, h.store x⟩ fun _ => h.store x⟩
theorem LayB.fin28 {x z : Int} {q : Nat} {bl : List (Nat × Nat)} (h : LayB W s n Ks T (setR (setR (ones8 R k) k p x) k q z) (k + 1) bl w) (hpq : p ≠ q) (hR : R k = row28 p x q z) : LayB W s n Ks T R (k + 1) [] w := by
 refine (h.drop (bl' := []) (by simp)).congr fun j hj r _ => ?_
 unfold setR ones8
 by_cases hjk : j = k
 ·subst hjk
  rw [hR]
  unfold row28
  simp only [if_true, Nat.lt_irrefl, if_false]
  by_cases h1 : r = q
  ·subst h1; simp [Ne.symm hpq]
  ·simp [h1]
 ·simp [hjk, show j < k by omega]
end
end
section
open Go.RowKit
theorem lcom_any (W : World) (s n : Nat) (Ks : List (Nat × Obj)) (T : NI) (R : NN) (P Q G H : Int) (a : OA) (m cap : Nat) (ba : OA) (ca : Nat) (A : NI) (X : Int) (bb : OA) (cb : Nat) (B : NI) (Y Z : Int) (bp : OA) (np cp : Nat) (w : World) (h0n : 0 < n) (hn : n <= 8) (h4 : Four P Q G H) (hr : Righ P Q G) (hY : U64 Y) (hZ : U64 Z) (hA : FacsIn W ba n A) (hB : FacsIn W bb n B)
  (hT1 : ∀ i, i < n -> T i = A i) (hT2 : ∀ i, i < n -> T (n + i) = B i) (hT3 : ∀ i, i < n -> T (2 * n + i) = bigI P Q G (A i) (B i) Y Z)
  (hR1 : ∀ i, i < n -> R i = row28 i G (n + i) H) (hR2 : ∀ i, i < n -> R (n + i) = row28 (2 * n + i) G (3 * n + i) H) (hR3 : ∀ i, i < n -> R (2 * n + i) = row28 (4 * n + i) G (5 * n + i) H)
  (h : LayB W s n Ks T R 0 [] w) :
  Calls prog 81 #[.pointer (some ⟨s, 0, none⟩), gv P Q G H a m cap, tk ba n ca X bb n cb Y Z bp np cp] w fun e w' => e = .returned (.tuple #[]) /\ LayB W s n Ks T R (3 * n) [] w' := by
 have HJ := hid fun i wx (hi : i < n) (ho : Old W wx) => zcT P Q G H a m cap ba n ca A X bb n cb B Y Z bp np cp i wx h4 hr hY hZ (hA.old ho) (hB.old ho) hi hi
 rcases hA with h0 | ⟨ba, oa, rfl, hba, hra⟩
 ·omega
 rcases hB with h0 | ⟨bb, ob, rfl, hbb, hrb⟩
 ·omega
 have HL0 : Hid (LayB W s n ((w.heap.size + 1, .cells (tkc (some ⟨ba, oa, none⟩) n ca X (some ⟨bb, ob, none⟩) n cb Y Z bp np cp) 41 (0, 0)) :: (w.heap.size, .cells (gc P Q G H a m cap) 25 (0, 0)) :: Ks) T R 0 [] ((w.alloc (.cells (gc P Q G H a m cap) 25)).alloc (.cells (tkc (some ⟨ba, oa, none⟩) n ca X (some ⟨bb, ob, none⟩) n cb Y Z bp np cp) 41))) := by
  have := (h.more (.cells (gc P Q G H a m cap) 25 (0, 0))).more (.cells (tkc (some ⟨ba, oa, none⟩) n ca X (some ⟨bb, ob, none⟩) n cb Y Z bp np cp) 41 (0, 0))
  unfold Hid; simpa using this
 have HT1 := hid hT1
 have HT2 := hid hT2
 have HT3 := hid hT3
 have HR1 := hid hR1
 have HR2 := hid hR2
 have HR3 := hid hR3
 have HAc := hid fun i wx (hi : i < n) (ho : Old W wx) => ho.cellOf (hra i hi).1
 have HBc := hid fun i wx (hi : i < n) (ho : Old W wx) => ho.cellOf (hrb i hi).1
 clear h h4 hr hY hZ hra hrb hba hbb hT1 hT2 hT3 hR1 hR2 hR3
 obtain ⟨K2, hK2⟩ : ∃ K2, K2 = (w.heap.size + 1, .cells (tkc (some ⟨ba, oa, none⟩) n ca X (some ⟨bb, ob, none⟩) n cb Y Z bp np cp) 41 (0, 0)) :: (w.heap.size, .cells (gc P Q G H a m cap) 25 (0, 0)) :: Ks := ⟨_, rfl⟩
 rw [<- hK2] at HL0
 have HgK : Hid ((w.heap.size, .cells (gc P Q G H a m cap) 25 (0, 0)) ∈ K2) := by unfold Hid; rw [hK2]; simp
 have HtK : Hid ((w.heap.size + 1, .cells (tkc (some ⟨ba, oa, none⟩) n ca X (some ⟨bb, ob, none⟩) n cb Y Z bp np cp) 41 (0, 0)) ∈ K2) := by unfold Hid; rw [hK2]; simp
 have HKs : Hid (∀ e, e ∈ Ks -> e ∈ K2) := by unfold Hid; rw [hK2]; intro e he; simp [he]
 clear hK2
 go_enter func81, ntmps81
 go_upto_region 1 with fail
 generalize (w.alloc (.cells (gc P Q G H a m cap) 25)).alloc (.cells (tkc (some ⟨ba, oa, none⟩) n ca X (some ⟨bb, ob, none⟩) n cb Y Z bp np cp) 41) = W1 at *
 generalize w.heap.size = gb at *
 have c0 : W1.cell? ⟨gb + 1, 0, none⟩ = some (.slice (some ⟨ba, oa, none⟩) n ca) := Y0 (HL0.out.prot HtK.out)
 go_upto_region 2 with fail
 clear c0
 go_loopw [17] (fun iv wx => ∃ i : Nat, iv = .int .i64 (i : Int) /\ i <= n /\ Hid (LayB W s n K2 T R (i) [] wx)) (fun iv _ => n - (intOf iv).toNat)
 case atStart => exact ⟨0, rfl, Nat.zero_le _, HL0⟩
 case round =>
  obtain ⟨i, rfl, hi, HL⟩ := hrel
  by_cases hlt : i < n
  ·have HTk : Hid (T (i) = A i) := HT1.out i hlt
   have HRk := hid (HR1.out i hlt)
   have cA := HAc.out i wr hlt HL.out.old
   go_upto_region 5 with (go_at_call 113; refine (ladd8 W s n K2 T R (i) [] (A i) _ hn (by omega) HTk.out HL.out).mono ?_; rintro e w1 ⟨b, rfl, hl⟩)
   have HA : Hid (LayB W s n K2 T (ones8 R (i)) (i + 1) [(i, b)] w1) := hl
   clear hl HL HTk
   obtain ⟨p, hp⟩ : ∃ p, p = i := ⟨_, rfl⟩
   obtain ⟨q, hq⟩ : ∃ q, q = n + i := ⟨_, rfl⟩
   have HM1 : Hid (∀ wx, Lay1 W s n K2 T R (i) b p wx -> Calls prog 114 #[.pointer (some ⟨s, 0, none⟩), .int .i64 (i : Int)] wx (Ret wx (.int .i64 (p : Int)))) := fun wx hR => by rw [hp]; exact lm_a s i wx
   have HM2 : Hid (∀ wx, Lay1 W s n K2 T R (i) b p wx -> Calls prog 115 #[.pointer (some ⟨s, 0, none⟩), .int .i64 (i : Int)] wx (Ret wx (.int .i64 (q : Int)))) := fun wx hR => (by obtain ⟨v, u, hrow⟩ := hR.row; rw [hq]; exact lm_r s n i v u wx hn (by omega) hrow)
   have hp8 : p < 7 * n + 3 := by omega
   have hq8 : q < 7 * n + 3 := by omega
   have hpq : p ≠ q := by omega
   have HRow : Hid (R (i) = row28 p G q H) := by unfold Hid; rw [hp, hq]; exact HRk.out
   have HGr := hid fun wx (hR : Lay1 W s n K2 T R (i) b p wx) => hR.prot HgK.out
   clear hp hq HRk
   refine zaa 14 [.k (.slice (some ⟨b, 0, none⟩) (7 * n + 3) (7 * n + 3)), .k (.pointer (some ⟨s, 0, none⟩)), .k (.int .i64 (i : Int)), .k (.int .i64 (p : Int)), .k (.slice (some ⟨b, 0, none⟩) (7 * n + 3) (7 * n + 3)), .k (.pointer (some ⟨s, 0, none⟩)), .k (.int .i64 (i : Int)), .k (.int .i64 (q : Int)), .k (.pointer (some ⟨gb, 2, none⟩)), .k (.int .u64 G), .k (.pointer (some ⟨gb, 3, none⟩)), .k (.int .u64 H), .k (.pointer (some ⟨b, p, none⟩)), zcH W s n K2 T R (i) b p G] (Lay1 W s n K2 T R (i) b p) (by kernel_rfl) (by kernel_rfl) rfl (Lay1.old _ _ (Lay1.of HA.out) (Old.refl _).drew) ?st ?_
   case st =>
    refine .p <| .p <| .p <| .c (stK Lay1.old func114 (fun wx hR => HM1.out wx hR)) <| .p <| .p <| .p <| .c (stK Lay1.old func115 (fun wx hR => HM2.out wx hR)) <| .p <| .c (stf 2 U22 HGr.out) <| .p <| .c (stf 3 U22 HGr.out) <| .c (sti0 (n := (7 * n + 3)) (c := (7 * n + 3)) hp8 U29) <| .c (stS (p := ⟨b, p, none⟩) (v := .int .u64 G) (fun _ => lay_stS (i := 13) rfl rfl hp8)) .n
   intro t wx hR hk
   simp only [fill, Ent.val, zcH, zs0, zs1, zd1, zd0, zdn]
   have hl : LayB W s n K2 T (setR (ones8 R (i)) (i) p G) (i + 1) [(i, b)] wx := hk 13 (by omega)
   have q1 := (hl.full List.mem_cons_self).cell q hq8
   have f1 := (hl.full List.mem_cons_self).free q
   have HN := hid ((hl.cell List.mem_cons_self q H).fin28 hpq HRow.out)
   clear hl hk hR HA HM1 HM2 HGr HRow
   go_wp2_with fail
   go_roundw
   case rel => exact ⟨i + 1, zab i, by omega, HN⟩
   case measure => simp [intOf]; omega
  ·have he : n = i := by omega
   subst he
   have c2 : wr.cell? ⟨gb + 1, 2, none⟩ = some (.slice (some ⟨bb, ob, none⟩) n cb) := Y2 (HL.out.prot HtK.out)
   have HLn := hid HL
   clear HL HL0
   go_upto_region 8 with fail
   clear c2
   go_loopw [43] (fun iv wx => ∃ i : Nat, iv = .int .i64 (i : Int) /\ i <= n /\ Hid (LayB W s n K2 T R (n + i) [] wx)) (fun iv _ => n - (intOf iv).toNat)
   case atStart => exact ⟨0, rfl, Nat.zero_le _, HLn⟩
   case round =>
    obtain ⟨i, rfl, hi, HL⟩ := hrel
    by_cases hlt : i < n
    ·have HTk : Hid (T (n + i) = B i) := HT2.out i hlt
     have HRk := hid (HR2.out i hlt)
     have cB := HBc.out i wr hlt HL.out.old
     go_upto_region 11 with (go_at_call 113; refine (ladd8 W s n K2 T R (n + i) [] (B i) _ hn (by omega) HTk.out HL.out).mono ?_; rintro e w1 ⟨b, rfl, hl⟩)
     have HA : Hid (LayB W s n K2 T (ones8 R (n + i)) (n + i + 1) [(n + i, b)] w1) := hl
     clear hl HL HTk
     obtain ⟨p, hp⟩ : ∃ p, p = 2 * n + i := ⟨_, rfl⟩
     obtain ⟨q, hq⟩ : ∃ q, q = 3 * n + i := ⟨_, rfl⟩
     have HM1 : Hid (∀ wx, Lay1 W s n K2 T R (n + i) b p wx -> Calls prog 116 #[.pointer (some ⟨s, 0, none⟩), .int .i64 (i : Int)] wx (Ret wx (.int .i64 (p : Int)))) := fun wx hR => (by obtain ⟨v, u, hrow⟩ := hR.row; rw [hp]; exact lm_b s n i v u wx hn (by omega) hrow)
     have HM2 : Hid (∀ wx, Lay1 W s n K2 T R (n + i) b p wx -> Calls prog 117 #[.pointer (some ⟨s, 0, none⟩), .int .i64 (i : Int)] wx (Ret wx (.int .i64 (q : Int)))) := fun wx hR => (by obtain ⟨v, u, hrow⟩ := hR.row; rw [hq]; exact lm_s s n i v u wx hn (by omega) hrow)
     have hp8 : p < 7 * n + 3 := by omega
     have hq8 : q < 7 * n + 3 := by omega
     have hpq : p ≠ q := by omega
     have HRow : Hid (R (n + i) = row28 p G q H) := by unfold Hid; rw [hp, hq]; exact HRk.out
     have HGr := hid fun wx (hR : Lay1 W s n K2 T R (n + i) b p wx) => hR.prot HgK.out
     clear hp hq HRk
     refine zaa 14 [.k (.slice (some ⟨b, 0, none⟩) (7 * n + 3) (7 * n + 3)), .k (.pointer (some ⟨s, 0, none⟩)), .k (.int .i64 (i : Int)), .k (.int .i64 (p : Int)), .k (.slice (some ⟨b, 0, none⟩) (7 * n + 3) (7 * n + 3)), .k (.pointer (some ⟨s, 0, none⟩)), .k (.int .i64 (i : Int)), .k (.int .i64 (q : Int)), .k (.pointer (some ⟨gb, 2, none⟩)), .k (.int .u64 G), .k (.pointer (some ⟨gb, 3, none⟩)), .k (.int .u64 H), .k (.pointer (some ⟨b, p, none⟩)), zcH W s n K2 T R (n + i) b p G] (Lay1 W s n K2 T R (n + i) b p) (by kernel_rfl) (by kernel_rfl) rfl (Lay1.old _ _ (Lay1.of HA.out) (Old.refl _).drew) ?st ?_
     case st =>
      refine .p <| .p <| .p <| .c (stK Lay1.old func116 (fun wx hR => HM1.out wx hR)) <| .p <| .p <| .p <| .c (stK Lay1.old func117 (fun wx hR => HM2.out wx hR)) <| .p <| .c (stf 2 U22 HGr.out) <| .p <| .c (stf 3 U22 HGr.out) <| .c (sti0 (n := (7 * n + 3)) (c := (7 * n + 3)) hp8 U29) <| .c (stS (p := ⟨b, p, none⟩) (v := .int .u64 G) (fun _ => lay_stS (i := 13) rfl rfl hp8)) .n
     intro t wx hR hk
     simp only [fill, Ent.val, zcH, zs0, zs1, zd1, zd0, zdn]
     have hl : LayB W s n K2 T (setR (ones8 R (n + i)) (n + i) p G) (n + i + 1) [(n + i, b)] wx := hk 13 (by omega)
     have q1 := (hl.full List.mem_cons_self).cell q hq8
     have f1 := (hl.full List.mem_cons_self).free q
     have HN := hid ((hl.cell List.mem_cons_self q H).fin28 hpq HRow.out)
     clear hl hk hR HA HM1 HM2 HGr HRow
     go_wp2_with fail
     go_roundw
     case rel => exact ⟨i + 1, zab i, by omega, HN⟩
     case measure => simp [intOf]; omega
    ·have he : n = i := by omega
     subst he
     have HLm : Hid (LayB W s n K2 T R (2 * n + 0) [] wr) := by have := HL.out; rw [show n + n = 2 * n + 0 by omega] at this; exact this
     obtain ⟨v0, u0, hrow⟩ := HL.out.row
     have c3 : wr.cell? ⟨s, 0, none⟩ = some (.int .i64 (n : Int)) := Y0 hrow
     clear HL HLn hrow
     go_upto_region 14 with fail
     clear c3
     go_loopw [70] (fun iv wx => ∃ i : Nat, iv = .int .i64 (i : Int) /\ i <= n /\ Hid (LayB W s n K2 T R (2 * n + i) [] wx)) (fun iv _ => n - (intOf iv).toNat)
     case atStart => exact ⟨0, rfl, Nat.zero_le _, HLm⟩
     case round =>
      obtain ⟨i, rfl, hi, HL⟩ := hrel
      by_cases hlt : i < n
      ·have HTk : Hid (T (2 * n + i) = bigI P Q G (A i) (B i) Y Z) := HT3.out i hlt
       have HRk := hid (HR3.out i hlt)
       have g0 := Y0 (HL.out.prot HgK.out)
       have g1 := Y1 (HL.out.prot HgK.out)
       have g2 := Y2 (HL.out.prot HgK.out)
       have g3 := Y3 (HL.out.prot HgK.out)
       have g4 := Y4 (HL.out.prot HgK.out)
       have t0 := Y0 (HL.out.prot HtK.out)
       have t1 := Y1 (HL.out.prot HtK.out)
       have t2 := Y2 (HL.out.prot HtK.out)
       have t3 := Y3 (HL.out.prot HtK.out)
       have t4 := Y4 (HL.out.prot HtK.out)
       have t5 := Y5 (HL.out.prot HtK.out)
       go_upto_region 17 with (first | (go_at_call 63; refine (HJ.out i _ hlt HL.out.old).mono ?_; rintro e w0 ⟨rfl, o0⟩; have HLj : Hid (LayB W s n K2 T R (2 * n + i) [] w0) := HL.out.old' o0; clear g0 g1 g2 g3 g4 t0 t1 t2 t3 t4 t5) | (go_at_call 113; refine (ladd8 W s n K2 T R (2 * n + i) [] _ _ hn (by omega) HTk.out HLj.out).mono ?_; rintro e w1 ⟨b, rfl, hl⟩))
       have HA : Hid (LayB W s n K2 T (ones8 R (2 * n + i)) (2 * n + i + 1) [(2 * n + i, b)] w1) := hl
       clear hl HL HTk
       obtain ⟨p, hp⟩ : ∃ p, p = 4 * n + i := ⟨_, rfl⟩
       obtain ⟨q, hq⟩ : ∃ q, q = 5 * n + i := ⟨_, rfl⟩
       have HM1 : Hid (∀ wx, Lay1 W s n K2 T R (2 * n + i) b p wx -> Calls prog 118 #[.pointer (some ⟨s, 0, none⟩), .int .i64 (i : Int)] wx (Ret wx (.int .i64 (p : Int)))) := fun wx hR => (by obtain ⟨v, u, hrow⟩ := hR.row; rw [hp]; exact lm_d s n i v u wx hn (by omega) hrow)
       have HM2 : Hid (∀ wx, Lay1 W s n K2 T R (2 * n + i) b p wx -> Calls prog 119 #[.pointer (some ⟨s, 0, none⟩), .int .i64 (i : Int)] wx (Ret wx (.int .i64 (q : Int)))) := fun wx hR => (by obtain ⟨v, u, hrow⟩ := hR.row; rw [hq]; exact lm_u s n i v u wx hn (by omega) hrow)
       have hp8 : p < 7 * n + 3 := by omega
       have hq8 : q < 7 * n + 3 := by omega
       have hpq : p ≠ q := by omega
       have HRow : Hid (R (2 * n + i) = row28 p G q H) := by unfold Hid; rw [hp, hq]; exact HRk.out
       have HGr := hid fun wx (hR : Lay1 W s n K2 T R (2 * n + i) b p wx) => hR.prot HgK.out
       clear hp hq HRk
       refine zaa 14 [.k (.slice (some ⟨b, 0, none⟩) (7 * n + 3) (7 * n + 3)), .k (.pointer (some ⟨s, 0, none⟩)), .k (.int .i64 (i : Int)), .k (.int .i64 (p : Int)), .k (.slice (some ⟨b, 0, none⟩) (7 * n + 3) (7 * n + 3)), .k (.pointer (some ⟨s, 0, none⟩)), .k (.int .i64 (i : Int)), .k (.int .i64 (q : Int)), .k (.pointer (some ⟨gb, 2, none⟩)), .k (.int .u64 G), .k (.pointer (some ⟨gb, 3, none⟩)), .k (.int .u64 H), .k (.pointer (some ⟨b, p, none⟩)), zcH W s n K2 T R (2 * n + i) b p G] (Lay1 W s n K2 T R (2 * n + i) b p) (by kernel_rfl) (by kernel_rfl) rfl (Lay1.old _ _ (Lay1.of HA.out) (Old.refl _).drew) ?st ?_
       case st =>
        refine .p <| .p <| .p <| .c (stK Lay1.old func118 (fun wx hR => HM1.out wx hR)) <| .p <| .p <| .p <| .c (stK Lay1.old func119 (fun wx hR => HM2.out wx hR)) <| .p <| .c (stf 2 U22 HGr.out) <| .p <| .c (stf 3 U22 HGr.out) <| .c (sti0 (n := (7 * n + 3)) (c := (7 * n + 3)) hp8 U29) <| .c (stS (p := ⟨b, p, none⟩) (v := .int .u64 G) (fun _ => lay_stS (i := 13) rfl rfl hp8)) .n
       intro t wx hR hk
       simp only [fill, Ent.val, zcH, zs0, zs1, zd1, zd0, zdn]
       have hl : LayB W s n K2 T (setR (ones8 R (2 * n + i)) (2 * n + i) p G) (2 * n + i + 1) [(2 * n + i, b)] wx := hk 13 (by omega)
       have q1 := (hl.full List.mem_cons_self).cell q hq8
       have f1 := (hl.full List.mem_cons_self).free q
       have HN := hid ((hl.cell List.mem_cons_self q H).fin28 hpq HRow.out)
       clear hl hk hR HA HM1 HM2 HGr HRow
       go_wp2_with fail
       go_roundw
       case rel => exact ⟨i + 1, zab i, by omega, HN⟩
       case measure => simp [intOf]; omega
      ·have he : n = i := by omega
       subst he
       have HE : Hid (LayB W s n Ks T R (3 * n) [] wr) := by have := HL.out.less HKs.out; rw [show 2 * n + n = 3 * n by omega] at this; exact this
       clear HL HLm
       go_wp2_with fail
       go_end0
       exact ⟨rfl, HE.out⟩
theorem int_u64 (q : Nat) (h : q <= 1000) : Value.int .u64 (IntKind.u64.wrap (q : Int)) = .int .u64 (q : Int) := by
 rw [IntKind.wrap_u64]
 congr 1
 omega
theorem spf_any (P Q G H : Int) (a : OA) (n cap : Nat) (ba : OA) (na ca : Nat) (X : Int) (bb : OA) (nb cb : Nat) (Y Z : Int) (bp : OA) (np cp m : Nat) (w : World) (hm : m <= 100) (hX : U64 X) (hY : U64 Y) (hZ : U64 Z) :
  Calls prog 121 #[gv P Q G H a n cap, tk ba na ca X bb nb cb Y Z bp np cp, .int .i64 (m : Int)] w (Ret w (.int .u64 (prodI Q (kF Q X Y Z) m))) := by
 have HF := hid fun i wx (hi : i < m) => zcZ P Q G H a n cap ba na ca X bb nb cb Y Z bp np cp ((i + 1 : Nat) : Int) wx hX hY hZ ⟨by omega, by omega⟩
 have HFu : Hid (∀ i, U64 (kF Q X Y Z i)) := fun i => by unfold kF subI; exact ⟨(zec _ _ _).1, Int.le_trans (zec _ _ _).2 (by decide)⟩
 have HZ := lain2 w (gc P Q G H a n cap) (tkc ba na ca X bb nb cb Y Z bp np cp) 25 41
 have HG0 := fun w' ho => (HZ.then (W' := w') ho).row 0 (by simp)
 have HT0 := fun w' ho => (HZ.then (W' := w') ho).row 1 (by simp)
 have HW0 := hid HZ.old
 clear HZ hX hY hZ
 go_enter func121, ntmps121
 go_upto_region 1 with fail
 generalize (w.alloc (.cells (gc P Q G H a n cap) 25)).alloc (.cells (tkc ba na ca X bb nb cb Y Z bp np cp) 41) = W at *
 have HG := hid HG0
 have HT := hid HT0
 clear HG0 HT0
 generalize w.heap.size = gb at *
 go_upto_region 3 with fail
 go_loopw [7, 8] (fun v iv wx => ∃ i : Nat, iv = .int .i64 ((i + 1 : Nat) : Int) /\ i <= m /\ v = .int .u64 (prodI Q (kF Q X Y Z) i) /\ Hid (Old W wx)) (fun _ iv _ => m + 1 - (intOf iv).toNat)
 case atStart => exact ⟨0, rfl, by omega, rfl, Old.refl _⟩
 case round =>
  obtain ⟨i, rfl, hi, rfl, HO⟩ := hrel
  by_cases hlt : i < m
  ·have hlt' : i + 1 <= m := hlt
   have HGr := hid fun wx (hx : Old wr wx) => HG.out _ (HO.out.trans hx)
   have HTr := hid fun wx (hx : Old wr wx) => HT.out _ (HO.out.trans hx)
   have HFi : Hid (∀ wx, Calls prog 66 #[gv P Q G H a n cap, tk ba na ca X bb nb cb Y Z bp np cp, .int .u64 ((i + 1 : Nat) : Int)] wx (Ret wx (.int .u64 (kF Q X Y Z i)))) := fun wx => HF.out i wx hlt
   have HPu : Hid (U64 (prodI Q (kF Q X Y Z) i)) := zaL _ _ _
   go_upto_region 5 with fail
   refine zaa 9 [.k (.int .u64 (prodI Q (kF Q X Y Z) i)), .k (gv P Q G H a n cap), .k (tk ba na ca X bb nb cb Y Z bp np cp), .k (.int .i64 ((i + 1 : Nat) : Int)), .k (.int .u64 ((i + 1 : Nat) : Int)), .k (.int .u64 (kF Q X Y Z i)), .k (.pointer (some ⟨gb, 1, none⟩)), .k (.int .u64 Q), .k (.int .u64 (mulI (prodI Q (kF Q X Y Z) i) (kF Q X Y Z i) Q))] (Old wr) (by kernel_rfl) (by kernel_rfl) rfl ((Old.refl _).drew) ?st ?_
   case st =>
    refine .p <| .c (sts U25 HGr.out) <| .c (sts U41 HTr.out) <| .p <| .c (stv (v' := .int .u64 (IntKind.u64.wrap ((i + 1 : Nat) : Int))) (int_u64 (i + 1) (by omega))) <| .c (stK old_R func66 (fun wx _ => HFi.out wx)) <| .p <| .c (stf 1 U22 HGr.out) <| .c (stK old_R func72 (fun wx _ => zdf _ _ Q HPu.out (HFu.out i) wx)) .n
   intro t wx hR hk
   simp only [fill, Ent.val, zs0, zs1, zd1, zd0, zdn]
   have HN := hid (HO.out.trans hR)
   clear hR hk HO HGr HTr HFi HPu
   go_wp2_with fail
   go_roundw
   case rel => exact ⟨i + 1, zab (i + 1), by omega, rfl, HN⟩
   case measure => simp [intOf]; omega
  ·have he : m = i := by omega
   subst he
   have HE := hid (HW0.out.trans HO.out)
   go_wp2_with fail
   go_ret
   exact ⟨by rfl, HE.out⟩
end
section
open Go.RowKit
section
variable {W w w' : World} {s n : Nat} {Ks : List (Nat × Obj)} {T : NI} {R : NN} {k b p : Nat}
theorem Lay1.oldW (h : Lay1 W s n Ks T R k b p w) : Old W w := let ⟨_, h⟩ := h; h.old
theorem LayB.fin18 {x : Int} {bl : List (Nat × Nat)} (h : LayB W s n Ks T (setR (ones8 R k) k p x) (k + 1) bl w) (hR : R k = row18 p x) : LayB W s n Ks T R (k + 1) [] w := by
 refine (h.drop (bl' := []) (by simp)).congr fun j hj r _ => ?_
 unfold setR ones8
 by_cases hjk : j = k
 ·subst hjk
  rw [hR]
  unfold row18
  simp
 ·simp [hjk, show j < k by omega]
theorem zcx {Bs : NN} {bl : List (Nat × Nat)} (w w' : World) (h : LayB W s n Ks T Bs k bl w) (ho : Old w w') : LayB W s n Ks T Bs k bl w' := h.old' ho
end
theorem lprod_any (W : World) (s n : Nat) (Ks : List (Nat × Obj)) (T : NI) (R : NN) (P Q G H : Int) (a : OA) (m cap : Nat) (ba : OA) (na ca : Nat) (X : Int) (bb : OA) (nb cb : Nat) (Y Z : Int) (bp : OA) (cp : Nat) (Pp : NI) (w : World) (h0n : 0 < n) (hn : n <= 8) (h4 : Four P Q G H) (hr : Righ P Q G) (hX : U64 X) (hY : U64 Y) (hZ : U64 Z) (hP : FacsIn W bp n Pp)
  (hT1 : ∀ i, i + 1 < n -> T (3 * n + i) = Pp (i + 1)) (hT2 : T (3 * n + (n - 1)) = lastI P Q G X Y Z n (Pp (n - 1)))
  (hR1 : ∀ i, i + 1 < n -> R (3 * n + i) = row28 (4 * n + (i + 1)) (Pp i) (6 * n + i) H) (hR2 : R (3 * n + (n - 1)) = row18 (7 * n - 1) H)
  (h : LayB W s n Ks T R (3 * n) [] w) :
  Calls prog 82 #[.pointer (some ⟨s, 0, none⟩), gv P Q G H a m cap, tk ba na ca X bb nb cb Y Z bp n cp] w fun e w' => e = .returned (.tuple #[]) /\ LayB W s n Ks T R (4 * n) [] w' := by
 rcases hP with h0 | ⟨bp, op, rfl, hbp, hrp⟩
 ·omega
 obtain ⟨kk, hkk⟩ : ∃ kk, kk = prodI Q (kF Q X Y Z) n := ⟨_, rfl⟩
 have HK : Hid (∀ wx, Calls prog 121 #[gv P Q G H a m cap, tk ba na ca X bb nb cb Y Z (some ⟨bp, op, none⟩) n cp, .int .i64 (n : Int)] wx (Ret wx (.int .u64 kk))) := fun wx => by rw [hkk]; exact spf_any P Q G H a m cap ba na ca X bb nb cb Y Z (some ⟨bp, op, none⟩) n cp n wx (by omega) hX hY hZ
 have HKu : U64 kk := by rw [hkk]; exact zaL _ _ _
 obtain ⟨ek, hek⟩ : ∃ ek, ek = expI P Q G kk := ⟨_, rfl⟩
 have HE : Hid (∀ wx, Calls prog 65 #[gv P Q G H a m cap, .int .u64 G, .int .u64 kk] wx (Ret wx (.int .u64 ek))) := fun wx => by rw [hek]; exact za8 P Q G H G kk a m cap wx h4 hr h4.g0 h4.g1 HKu.1 HKu.2
 have HO : Hid (∀ wx, Calls prog 99 #[gv P Q G H a m cap, .int .u64 (Pp (n - 1)), .int .u64 ek] wx (Ret wx (.int .u64 (overI P (Pp (n - 1)) ek)))) := fun wx => gover_any P Q G H a m cap (Pp (n - 1)) ek wx h4 hr (hrp (n - 1) (by omega)).2 (by rw [hek]; exact hr.exp_in hr.gin)
 have HT2 : Hid (T (3 * n + (n - 1)) = overI P (Pp (n - 1)) ek) := by unfold Hid; rw [hT2, hek, hkk]; rfl
 have HL0 : Hid (LayB W s n ((w.heap.size + 1, .cells (tkc ba na ca X bb nb cb Y Z (some ⟨bp, op, none⟩) n cp) 41 (0, 0)) :: (w.heap.size, .cells (gc P Q G H a m cap) 25 (0, 0)) :: Ks) T R (3 * n) [] ((w.alloc (.cells (gc P Q G H a m cap) 25)).alloc (.cells (tkc ba na ca X bb nb cb Y Z (some ⟨bp, op, none⟩) n cp) 41))) := by
  have := (h.more (.cells (gc P Q G H a m cap) 25 (0, 0))).more (.cells (tkc ba na ca X bb nb cb Y Z (some ⟨bp, op, none⟩) n cp) 41 (0, 0))
  unfold Hid; simpa using this
 have HT1 := hid hT1
 have HR1 := hid hR1
 have HR2 := hid hR2
 have HPc := hid fun i wx (hi : i < n) (ho : Old W wx) => ho.cellOf (hrp i hi).1
 clear h h4 hr hX hY hZ hrp hbp hT1 hT2 hR1 hR2 hkk HKu hek
 obtain ⟨K2, hK2⟩ : ∃ K2, K2 = (w.heap.size + 1, .cells (tkc ba na ca X bb nb cb Y Z (some ⟨bp, op, none⟩) n cp) 41 (0, 0)) :: (w.heap.size, .cells (gc P Q G H a m cap) 25 (0, 0)) :: Ks := ⟨_, rfl⟩
 rw [<- hK2] at HL0
 have HgK : Hid ((w.heap.size, .cells (gc P Q G H a m cap) 25 (0, 0)) ∈ K2) := by unfold Hid; rw [hK2]; simp
 have HtK : Hid ((w.heap.size + 1, .cells (tkc ba na ca X bb nb cb Y Z (some ⟨bp, op, none⟩) n cp) 41 (0, 0)) ∈ K2) := by unfold Hid; rw [hK2]; simp
 have HKs : Hid (∀ e, e ∈ Ks -> e ∈ K2) := by unfold Hid; rw [hK2]; intro e he; simp [he]
 clear hK2
 go_enter func82, ntmps82
 go_upto_region 1 with fail
 generalize (w.alloc (.cells (gc P Q G H a m cap) 25)).alloc (.cells (tkc ba na ca X bb nb cb Y Z (some ⟨bp, op, none⟩) n cp) 41) = W1 at *
 generalize w.heap.size = gb at *
 go_upto_region 2 with fail
 go_loopw [6] (fun iv wx => ∃ i : Nat, iv = .int .i64 ((i + 1 : Nat) : Int) /\ i + 1 <= n /\ Hid (LayB W s n K2 T R (3 * n + i) [] wx)) (fun iv _ => n - (intOf iv).toNat)
 case atStart => exact ⟨0, rfl, h0n, HL0⟩
 case round =>
  obtain ⟨i, rfl, hi, HL⟩ := hrel
  obtain ⟨v0, u0, hrow⟩ := HL.out.row
  have cn : wr.cell? ⟨s, 0, none⟩ = some (.int .i64 (n : Int)) := Y0 hrow
  clear hrow
  by_cases hlt : i + 1 < n
  ·have HTk : Hid (T (3 * n + i) = Pp (i + 1)) := HT1.out i hlt
   have HRk := hid (HR1.out i hlt)
   have c5 : wr.cell? ⟨gb + 1, 5, none⟩ = some (.slice (some ⟨bp, op, none⟩) n cp) := Y5 (HL.out.prot HtK.out)
   have cP := HPc.out (i + 1) wr hlt HL.out.old
   go_upto_region 5 with (go_at_call 113; refine (ladd8 W s n K2 T R (3 * n + i) [] (Pp (i + 1)) _ hn (by omega) HTk.out HL.out).mono ?_; rintro e w1 ⟨b, rfl, hl⟩)
   have HA : Hid (LayB W s n K2 T (ones8 R (3 * n + i)) (3 * n + i + 1) [(3 * n + i, b)] w1) := hl
   clear hl HL HTk cn c5 cP
   obtain ⟨p, hp⟩ : ∃ p, p = 4 * n + (i + 1) := ⟨_, rfl⟩
   obtain ⟨q, hq⟩ : ∃ q, q = 6 * n + i := ⟨_, rfl⟩
   have HM1 : Hid (∀ wx, Lay1 W s n K2 T R (3 * n + i) b p wx -> Calls prog 118 #[.pointer (some ⟨s, 0, none⟩), .int .i64 ((i + 1 : Nat) : Int)] wx (Ret wx (.int .i64 (p : Int)))) := fun wx hR => (by obtain ⟨v, u, hrow⟩ := hR.row; rw [hp]; exact lm_d s n (i + 1) v u wx hn (by omega) hrow)
   have HM2 : Hid (∀ wx, Lay1 W s n K2 T R (3 * n + i) b p wx -> Calls prog 120 #[.pointer (some ⟨s, 0, none⟩), .int .i64 (i : Int)] wx (Ret wx (.int .i64 (q : Int)))) := fun wx hR => (by obtain ⟨v, u, hrow⟩ := hR.row; rw [hq]; exact lm_t s n i v u wx hn (by omega) hrow)
   have hp8 : p < 7 * n + 3 := by omega
   have hq8 : q < 7 * n + 3 := by omega
   have hpq : p ≠ q := by omega
   have hin : i < n := by omega
   have hi1 : i + 1 <= 100 := by omega
   have HRow : Hid (R (3 * n + i) = row28 p (Pp i) q H) := by unfold Hid; rw [hp, hq]; exact HRk.out
   have HGr := hid fun wx (hR : Lay1 W s n K2 T R (3 * n + i) b p wx) => hR.prot HgK.out
   have HTr := hid fun wx (hR : Lay1 W s n K2 T R (3 * n + i) b p wx) => hR.prot HtK.out
   have HPr := hid fun wx (hR : Lay1 W s n K2 T R (3 * n + i) b p wx) => HPc.out i wx hin hR.oldW
   clear hp hq HRk
   refine zaa 19 [.k (.slice (some ⟨b, 0, none⟩) (7 * n + 3) (7 * n + 3)), .k (.pointer (some ⟨s, 0, none⟩)), .k (.int .i64 ((i + 1 : Nat) : Int)), .k (.int .i64 (p : Int)), .k (.slice (some ⟨b, 0, none⟩) (7 * n + 3) (7 * n + 3)), .k (.pointer (some ⟨s, 0, none⟩)), .k (.int .i64 ((i + 1 : Nat) : Int)), .k (.int .i64 (i : Int)), .k (.int .i64 (q : Int)), .k (.pointer (some ⟨gb + 1, 5, none⟩)), .k (.slice (some ⟨bp, op, none⟩) n cp), .k (.int .i64 ((i + 1 : Nat) : Int)), .k (.int .i64 (i : Int)), .k (.pointer (some ⟨bp, op + i, none⟩)), .k (.int .u64 (Pp i)), .k (.pointer (some ⟨gb, 3, none⟩)), .k (.int .u64 H), .k (.pointer (some ⟨b, p, none⟩)), zcH W s n K2 T R (3 * n + i) b p (Pp i)] (Lay1 W s n K2 T R (3 * n + i) b p) (by kernel_rfl) (by kernel_rfl) rfl (Lay1.old _ _ (Lay1.of HA.out) (Old.refl _).drew) ?st ?_
   case st =>
    refine .p <| .p <| .p <| .c (stK Lay1.old func118 (fun wx hR => HM1.out wx hR)) <| .p <| .p <| .p <| .c (stv (zdk i (by omega))) <| .c (stK Lay1.old func120 (fun wx hR => HM2.out wx hR)) <| .p <| .c (stf 5 U29 HTr.out) <| .p <| .c (stv (zdk i (by omega))) <| .c (sti (n := n) (c := cp) hin U29) <| .c (stl U22 HPr.out) <| .p <| .c (stf 3 U22 HGr.out) <| .c (sti0 (n := (7 * n + 3)) (c := (7 * n + 3)) hp8 U29) <| .c (stS (p := ⟨b, p, none⟩) (v := .int .u64 (Pp i)) (fun _ => lay_stS (i := 18) rfl rfl hp8)) .n
   intro t wx hR hk
   simp only [fill, Ent.val, zcH, zs0, zs1, zd1, zd0, zdn]
   have hl : LayB W s n K2 T (setR (ones8 R (3 * n + i)) (3 * n + i) p (Pp i)) (3 * n + i + 1) [(3 * n + i, b)] wx := hk 18 (by omega)
   have q1 := (hl.full List.mem_cons_self).cell q hq8
   have f1 := (hl.full List.mem_cons_self).free q
   have HN := hid ((hl.cell List.mem_cons_self q H).fin28 hpq HRow.out)
   clear hl hk hR HA HM1 HM2 HGr HTr HPr HRow
   go_wp2_with fail
   go_roundw
   case rel => exact ⟨i + 1, zab (i + 1), by omega, HN⟩
   case measure => simp [intOf]; omega
  ·have he : n = i + 1 := by omega
   obtain ⟨k, hk0⟩ : ∃ k, k = 3 * n + (n - 1) := ⟨_, rfl⟩
   have HLk : Hid (LayB W s n K2 T R k [] wr) := by have := HL.out; rw [show 3 * n + i = k by omega] at this; exact this
   rw [<- hk0] at HT2 HR2
   have hkn : Hid (k + 1 = 4 * n) := by unfold Hid; omega
   have hk8 : k <= 100 := by omega
   have hi0 : i = n - 1 := by omega
   have HPr : Hid (∀ wx, LayB W s n K2 T R k [] wx -> wx.cell? ⟨bp, op + i, none⟩ = some (.int .u64 (Pp (n - 1)))) := fun wx hR => by rw [hi0]; exact HPc.out (n - 1) wx (by omega) hR.old
   have HGr := hid fun wx (hR : LayB W s n K2 T R k [] wx) => hR.prot HgK.out
   have HTr := hid fun wx (hR : LayB W s n K2 T R k [] wx) => hR.prot HtK.out
   have HSr : Hid (∀ wx, LayB W s n K2 T R k [] wx -> wx.cell? ⟨s, 0, none⟩ = some (.int .i64 (n : Int))) := fun wx hR => by obtain ⟨v, u, hrow⟩ := hR.row; exact Y0 hrow
   have hin : i < n := by omega
   have hpred : Value.int .i64 (IntKind.i64.wrap ((n : Int) - 1)) = .int .i64 (i : Int) := by rw [he]; exact zdk i (by omega)
   clear HL hk0 hi0
   go_upto_region 6 with fail
   clear cn
   refine zaa 23 [.k (.pointer (some ⟨s, 0, none⟩)), .k (gv P Q G H a m cap), .k (.pointer (some ⟨gb + 1, 5, none⟩)), .k (.slice (some ⟨bp, op, none⟩) n cp), .k (.pointer (some ⟨s, 0, none⟩)), .k (.pointer (some ⟨s, 0, none⟩)), .k (.pointer (some ⟨s, 0, none⟩)), .k (.int .i64 (n : Int)), .k (.int .i64 (i : Int)), .k (.pointer (some ⟨bp, op + i, none⟩)), .k (.int .u64 (Pp (n - 1))), .k (gv P Q G H a m cap), .k (.pointer (some ⟨gb, 2, none⟩)), .k (.int .u64 G), .k (gv P Q G H a m cap), .k (tk ba na ca X bb nb cb Y Z (some ⟨bp, op, none⟩) n cp), .k (.pointer (some ⟨s, 0, none⟩)), .k (.pointer (some ⟨s, 0, none⟩)), .k (.pointer (some ⟨s, 0, none⟩)), .k (.int .i64 (n : Int)), .k (.int .u64 kk), .k (.int .u64 ek), .k (.int .u64 (overI P (Pp (n - 1)) ek))] (LayB W s n K2 T R k []) (by kernel_rfl) (by kernel_rfl) rfl (zcx _ _ HLk.out (Old.refl _).drew) ?st ?_
   case st =>
    refine .p <| .c (sts U25 HGr.out) <| .p <| .c (stf 5 U29 HTr.out) <| .p <| .p <| .p <| .c (stl U3 HSr.out) <| .c (stv hpred) <| .c (sti (n := n) (c := cp) hin U29) <| .c (stl U22 HPr.out) <| .c (sts U25 HGr.out) <| .p <| .c (stf 2 U22 HGr.out) <| .c (sts U25 HGr.out) <| .c (sts U41 HTr.out) <| .p <| .p <| .p <| .c (stl U3 HSr.out) <| .c (stK zcx func121 (fun wx _ => HK.out wx)) <| .c (stK zcx func65 (fun wx _ => HE.out wx)) <| .c (stK zcx func99 (fun wx _ => HO.out wx)) .n
   intro t wx hR hk
   simp only [fill, Ent.val, zs0, zs1, zd1, zd0, zdn]
   have HLx := hid hR
   clear hR hk HLk HGr HTr HPr HSr he hpred hin HPc hlt hi
   go_upto_region 7 with (go_at_call 113; refine (ladd8 W s n K2 T R k [] (overI P (Pp (n - 1)) ek) _ hn hk8 HT2.out HLx.out).mono ?_; rintro e w1 ⟨b, rfl, hl⟩)
   have HA : Hid (LayB W s n K2 T (ones8 R k) (k + 1) [(k, b)] w1) := hl
   clear hl HLx HT2
   obtain ⟨p, hp⟩ : ∃ p, p = 7 * n - 1 := ⟨_, rfl⟩
   have hp8 : p < 7 * n + 3 := by omega
   have HM1 : Hid (∀ wx, LayB W s n K2 T (ones8 R k) (k + 1) [(k, b)] wx -> Calls prog 122 #[.pointer (some ⟨s, 0, none⟩)] wx (Ret wx (.int .i64 (p : Int)))) := fun wx hR => (by obtain ⟨v, u, hrow⟩ := hR.row; rw [hp]; exact lm_tLast s n v u wx h0n hn hrow)
   have HGr := hid fun wx (hR : LayB W s n K2 T (ones8 R k) (k + 1) [(k, b)] wx) => hR.prot HgK.out
   rw [<- hp] at HR2
   clear hp
   refine zaa 5 [.k (.slice (some ⟨b, 0, none⟩) (7 * n + 3) (7 * n + 3)), .k (.pointer (some ⟨s, 0, none⟩)), .k (.int .i64 (p : Int)), .k (.pointer (some ⟨gb, 3, none⟩)), .k (.int .u64 H)] (LayB W s n K2 T (ones8 R k) (k + 1) [(k, b)]) (by kernel_rfl) (by kernel_rfl) rfl (zcx _ _ HA.out (Old.refl _).drew) ?st ?_
   case st =>
    refine .p <| .p <| .c (stK zcx func122 (fun wx hR => HM1.out wx hR)) <| .p <| .c (stf 3 U22 HGr.out) .n
   intro t wx hR hk
   simp only [fill, Ent.val, zs0, zs1, zd1, zd0, zdn]
   have q1 := (hR.full List.mem_cons_self).cell p hp8
   have f1 := (hR.full List.mem_cons_self).free p
   have HN : Hid (LayB W s n Ks T R (4 * n) [] (wx.setCell ⟨b, p, none⟩ (.int .u64 H))) := by
    have := ((hR.cell List.mem_cons_self p H).fin18 HR2.out).less HKs.out
    rw [hkn.out] at this
    exact this
   clear hR hk HA HM1 HGr
   go_wp2_with fail
   go_end0
   exact ⟨rfl, HN.out⟩
end
section
open Go.RowKit
theorem bc_at (F : NI) : ∀ e, e < 3 -> (bc (F 0) (F 1) (F 2) (F 3) (F 4) (F 5))[0 + e * 2]? = some (.int .u64 (F (2 * e))) /\ (bc (F 0) (F 1) (F 2) (F 3) (F 4) (F 5))[0 + e * 2 + 1]? = some (.int .u64 (F (2 * e + 1)))
 | 0, _ => ⟨rfl, rfl⟩
 | 1, _ => ⟨rfl, rfl⟩
 | 2, _ => ⟨rfl, rfl⟩
section
variable {W w w' : World} {s n : Nat} {Ks : List (Nat × Obj)} {T : NI} {Bs R : NN} {k K r b p : Nat} {bl : List (Nat × Nat)}
theorem Ly.more2 {N i k : Nat} {v u : Value} {bk : Nat -> Nat} {o : Obj} (h : Ly W s N Ks T Bs i k v u bk w) (ho : Old w w') (hb : w.heap.size <= b) (hob : w'.heap[b]? = some o) : Ly W s N ((b, o) :: Ks) T Bs i k v u bk w' := by
 have h' := h.old' ho
 refine ⟨h'.old, h'.ws, h'.big, h'.nums, h'.own, h'.full, h.inj, h.s1, h.s2, h.s3, fun e he => ?_⟩
 rcases List.mem_cons.1 he with rfl | he
 ·refine ⟨hob, by have := h.big; show b ≠ s; omega, fun hc => ?_, fun hc => ?_, fun j hj hc => ?_⟩
  ·have := (World.ownsRow.lt h.nums _ hc).2; omega
  ·have := (World.ownsRow.lt h.own _ hc).2; omega
  ·have := (h.full j hj).2.lt; omega
 ·exact h'.prot e he
theorem LayB.more2 {o : Obj} (h : LayB W s n Ks T Bs k bl w) (ho : Old w w') (hb : w.heap.size <= b) (hob : w'.heap[b]? = some o) : LayB W s n ((b, o) :: Ks) T Bs k bl w' := let ⟨v, u, bk, h1, h2⟩ := h; ⟨v, u, bk, h1, h2.ly.more2 ho hb hob, (ho.block _ h2.ly.big).trans h2.row⟩
def LayC (W : World) (s n : Nat) (Ks : List (Nat × Obj)) (T : NI) (Bs : NN) (K : Nat) (bl : List (Nat × Nat)) (r p : Nat) (wx : World) : Prop := ∃ c, LayB W s n Ks T (setR Bs r p c) K bl wx
theorem LayC.old (w w' : World) (h : LayC W s n Ks T Bs K bl r p w) (ho : Old w w') : LayC W s n Ks T Bs K bl r p w' := let ⟨c, h⟩ := h; ⟨c, h.old' ho⟩
theorem LayC.row (h : LayC W s n Ks T Bs K bl r p w) : ∃ v u, w.heap[s]? = some (.cells #[.int .i64 (n : Int), v, u] 109 (0, 0)) := let ⟨_, h⟩ := h; h.row
theorem LayC.prot (h : LayC W s n Ks T Bs K bl r p w) {b' : Nat} {o : Obj} (he : (b', o) ∈ Ks) : w.heap[b']? = some o := let ⟨_, h⟩ := h; h.prot he
theorem LayC.of (h : LayB W s n Ks T Bs K bl w) : LayC W s n Ks T Bs K bl r p w := ⟨Bs r p, h.congr fun j hj q _ => by
 unfold setR
 by_cases hjk : j = r
 ·subst hjk; rw [if_pos rfl]; by_cases hq : q = p
  ·subst hq; simp
  ·simp [hq]
 ·rw [if_neg hjk]⟩
def zdA (W : World) (s n : Nat) (Ks : List (Nat × Obj)) (T : NI) (Bs : NN) (K : Nat) (bl : List (Nat × Nat)) (r p : Nat) (x : Int) : Ent := .u (fun _ w => LayB W s n Ks T (setR Bs r p x) K bl w) fun _ _ _ h ho => h.old' ho
theorem layC_stS {E : List Ent} {i : Nat} {x : Int} (hk : zdP E i = true) (hE : E[i]? = some (zdA W s n Ks T Bs K bl r p x)) (he : (r, b) ∈ bl) (hp : p < 7 * n + 3) (wx : World) (h : LayC W s n Ks T Bs K bl r p wx) :
  (∃ o, wx.cell? ⟨b, p, none⟩ = some o) /\ wx.frozen? ⟨b, p, none⟩ = false /\ ResT E (LayC W s n Ks T Bs K bl r p) (zdA W s n Ks T Bs K bl r p x) wx undef (wx.setCell ⟨b, p, none⟩ (.int .u64 x)) := by
 obtain ⟨c, h⟩ := h
 have hF := h.full he
 have hs : LayB W s n Ks T (setR Bs r p x) K bl (wx.setCell ⟨b, p, none⟩ (.int .u64 x)) := by
  refine (h.cell he p x).congr fun j _ q _ => ?_
  unfold setR
  by_cases hjk : j = r
  ·subst hjk; simp only [if_true]; by_cases hq : q = p
   ·simp [hq]
   ·simp [hq]
  ·simp [hjk]
 exact ⟨⟨_, hF.cell p hp⟩, hF.free p, zdo hk hE ⟨x, hs⟩ fun _ => hs⟩
end
def two8r (R : NN) (k : Nat) (f g : NI) : Nat -> Nat -> Int := fun j => if j < k then R j else if j = k then f else g
def rowP (m i : Nat) (W : NI) : Nat -> Int := fun q => if m <= q /\ q < m + i then W (q - m) else 1
section
variable {W w : World} {s n : Nat} {Ks : List (Nat × Obj)} {T : NI} {R : NN} {k i q : Nat} {bl : List (Nat × Nat)} {WU WV : NI}
theorem LayB.two (h : LayB W s n Ks T (ones8 (ones8 R k) (k + 1)) (k + 2) bl w) : LayB W s n Ks T (two8r R k (rowP (2 * n) 0 WU) (rowP (2 * n) 0 WV)) (k + 2) bl w := by
 refine h.congr fun j hj r _ => ?_
 unfold ones8 two8r rowP
 have e : ¬ (2 * n <= r /\ r < 2 * n + 0) := by omega
 by_cases h1 : j < k
 ·simp [h1, show j < k + 1 by omega]
 ·by_cases h2 : j = k
  ·subst h2; simp; intro a b; omega
  ·have h3 : ¬ j < k + 1 := by omega
   simp [h1, h2, h3]; intro a b; omega
theorem LayB.step (h : LayB W s n Ks T (setR (setR (two8r R k (rowP (2 * n) i WU) (rowP (2 * n) i WV)) k (2 * n + i) (WU i)) (k + 1) (2 * n + i) (WV i)) (k + 2) bl w) : LayB W s n Ks T (two8r R k (rowP (2 * n) (i + 1) WU) (rowP (2 * n) (i + 1) WV)) (k + 2) bl w := by
 have e : ∀ (V : NI) r, (if r = 2 * n + i then V i else rowP (2 * n) i V r) = rowP (2 * n) (i + 1) V r := fun V r => by
  unfold rowP
  by_cases h1 : r = 2 * n + i
  ·subst h1; simp
  ·rw [if_neg h1]
   by_cases h2 : 2 * n <= r /\ r < 2 * n + i
   ·rw [if_pos h2, if_pos ⟨h2.1, by omega⟩]
   ·rw [if_neg h2, if_neg (by omega)]
 refine h.congr fun j hj r _ => ?_
 unfold setR two8r
 by_cases h1 : j < k
 ·have h2 : j ≠ k := by omega
  have h3 : j ≠ k + 1 := by omega
  simp [h1, h2, h3]
 ·by_cases h2 : j = k
  ·subst h2; have := e WU r; simpa using this
  ·have h3 : j = k + 1 := by omega
   subst h3; have := e WV r; have h4 : ¬ k + 1 < k := by omega
   simpa [h4] using this
theorem LayB.finS {x z : Int} (h : LayB W s n Ks T (setR (setR (two8r R k (rowP (2 * n) n WU) (rowP (2 * n) n WV)) k q x) (k + 1) q z) (k + 2) bl w) (hq : 3 * n <= q) (hU : R k = rowS8 (2 * n) n WU q x) (hV : R (k + 1) = rowS8 (2 * n) n WV q z) : LayB W s n Ks T R (k + 2) [] w := by
 have e : ∀ (V : NI) y r, (if r = q then y else rowP (2 * n) n V r) = rowS8 (2 * n) n V q y r := fun V y r => by
  unfold rowP rowS8
  by_cases h1 : r = q
  ·subst h1; rw [if_pos rfl, if_neg (by omega), if_pos rfl]
  ·rw [if_neg h1]; by_cases h2 : 2 * n <= r /\ r < 2 * n + n
   ·rw [if_pos h2, if_pos h2]
   ·rw [if_neg h2, if_neg h2, if_neg h1]
 refine (h.drop (bl' := []) (by simp)).congr fun j hj r _ => ?_
 unfold setR two8r
 by_cases h1 : j < k
 ·have h2 : j ≠ k := by omega
  have h3 : j ≠ k + 1 := by omega
  simp [h1, h2, h3]
 ·by_cases h2 : j = k
  ·subst h2; have := e WU x r; rw [hU]; simpa using this
  ·have h3 : j = k + 1 := by omega
   subst h3; have := e WV z r; rw [hV]; have h4 : ¬ k + 1 < k := by omega
   simpa [h4] using this
end
theorem lsum_any (W : World) (s n : Nat) (Ks : List (Nat × Obj)) (T : NI) (R : NN) (P Q G H : Int) (a : OA) (m cap : Nat) (y : Int) (bi : OA) (ci : Nat) (C : NN) (bo : OA) (co : Nat) (O : NN) (ba : OA) (na ca : Nat) (X : Int) (bb : OA) (nb cb : Nat) (Y Z : Int) (bp : OA) (np cp e k : Nat) (w : World) (h0n : 0 < n) (hn : n <= 8) (he : e < 3) (hke : k <= 98) (h4 : Four P Q G H) (hr : Righ P Q G) (hX : U64 X) (hC : BoxsIn W bi n C) (hO : BoxsIn W bo n O)
  (hT1 : T k = prodI P (fun j => expI P Q (C j (2 * e)) (powI X ((j : Int) + 1) Q)) n) (hT2 : T (k + 1) = prodI P (fun j => expI P Q (C j (2 * e + 1)) (powI X ((j : Int) + 1) Q)) n)
  (hR1 : R k = rowS8 (2 * n) n (fun i => O i (2 * e)) (7 * n + e) G) (hR2 : R (k + 1) = rowS8 (2 * n) n (fun i => O i (2 * e + 1)) (7 * n + e) y)
  (h : LayB W s n Ks T R k [] w) :
  Calls prog 83 #[.pointer (some ⟨s, 0, none⟩), gv P Q G H a m cap, .int .u64 y, .slice bi n ci, .slice bo n co, tk ba na ca X bb nb cb Y Z bp np cp, .int .i64 (e : Int)] w fun r w' => r = .returned (.tuple #[]) /\ LayB W s n Ks T R (k + 2) [] w' := by
 rcases hC with h0 | ⟨bi, oi, rfl, _, hc⟩
 ·omega
 rcases hO with h0 | ⟨bo, oo, rfl, _, hoo⟩
 ·omega
 have HC : Hid (∀ i wx, i < n -> Old W wx -> ∀ j, j < 6 -> wx.cell? ⟨bi, oi + i * 6 + j, none⟩ = some (.int .u64 (C i j))) := fun i wx hi ho j hj => ho.cellOf (hc i hi j hj).1
 have HCu := hid fun i j (hi : i < n) (hj : j < 6) => (hc i hi j hj).2
 have HOc : Hid (∀ i wx, i < n -> Old W wx -> ∀ j, j < 6 -> wx.cell? ⟨bo, oo + i * 6 + j, none⟩ = some (.int .u64 (O i j))) := fun i wx hi ho j hj => ho.cellOf (hoo i hi j hj).1
 obtain ⟨uF, huF⟩ : ∃ uF : Nat -> Int, uF = fun i => prodI P (fun j => expI P Q (C j (2 * e)) (powI X ((j : Int) + 1) Q)) i := ⟨_, rfl⟩
 obtain ⟨vF, hvF⟩ : ∃ vF : Nat -> Int, vF = fun i => prodI P (fun j => expI P Q (C j (2 * e + 1)) (powI X ((j : Int) + 1) Q)) i := ⟨_, rfl⟩
 have HT1 : Hid (T k = uF n) := by unfold Hid; rw [hT1, huF]
 have HT2 : Hid (T (k + 1) = vF n) := by unfold Hid; rw [hT2, hvF]
 have Hu0 : Hid (uF 0 = 1) := by unfold Hid; rw [huF]; rfl
 have Hv0 : Hid (vF 0 = 1) := by unfold Hid; rw [hvF]; rfl
 have Huu : Hid (∀ i, U64 (uF i)) := fun i => by rw [huF]; exact zaL _ _ _
 have Hvu : Hid (∀ i, U64 (vF i)) := fun i => by rw [hvF]; exact zaL _ _ _
 have Hus : Hid (∀ i, uF (i + 1) = mulI (uF i) (expI P Q (C i (2 * e)) (powI X ((i : Int) + 1) Q)) P) := fun i => by rw [huF]; rfl
 have Hvs : Hid (∀ i, vF (i + 1) = mulI (vF i) (expI P Q (C i (2 * e + 1)) (powI X ((i : Int) + 1) Q)) P) := fun i => by rw [hvF]; rfl
 have HPw := hid fun i wx (hi : i < n) => zdS X ((i : Int) + 1) Q hX ⟨by omega, by omega⟩ wx
 have HEx := hid fun i j wx (hi : i < n) (hj : j < 6) => za8 P Q G H (C i j) (powI X ((i : Int) + 1) Q) a m cap wx h4 hr (HCu.out i j hi hj).1 (HCu.out i j hi hj).2 (zbi _ _ _).1 (zbi _ _ _).2
 have HPd : Hid (∀ (x z : Int) (b base : Nat) (wx : World), U64 x -> U64 z -> Nums wx base (.slice (some ⟨b, 0, none⟩) 2 2) 2 (two7 x z) -> Calls prog 64 #[gv P Q G H a m cap, .slice (some ⟨b, 0, none⟩) 2 2] wx (Ret wx (.int .u64 (mulI x z P)))) := fun x z b base wx hx hz hN => gprod7 P Q G H a m cap x z h4 hr hx hz hN
 have HL0 : Hid (LayB W s n ((w.heap.size + 1, .cells (tkc ba na ca X bb nb cb Y Z bp np cp) 41 (0, 0)) :: (w.heap.size, .cells (gc P Q G H a m cap) 25 (0, 0)) :: Ks) T R k [] ((w.alloc (.cells (gc P Q G H a m cap) 25)).alloc (.cells (tkc ba na ca X bb nb cb Y Z bp np cp) 41))) := by
  have := (h.more (.cells (gc P Q G H a m cap) 25 (0, 0))).more (.cells (tkc ba na ca X bb nb cb Y Z bp np cp) 41 (0, 0))
  unfold Hid; simpa using this
 have HR1 := hid hR1
 have HR2 := hid hR2
 clear h h4 hr hX hc hoo hT1 hT2 hR1 hR2 huF hvF
 obtain ⟨K2, hK2⟩ : ∃ K2, K2 = (w.heap.size + 1, .cells (tkc ba na ca X bb nb cb Y Z bp np cp) 41 (0, 0)) :: (w.heap.size, .cells (gc P Q G H a m cap) 25 (0, 0)) :: Ks := ⟨_, rfl⟩
 rw [<- hK2] at HL0
 have HgK : Hid ((w.heap.size, .cells (gc P Q G H a m cap) 25 (0, 0)) ∈ K2) := by unfold Hid; rw [hK2]; simp
 have HtK : Hid ((w.heap.size + 1, .cells (tkc ba na ca X bb nb cb Y Z bp np cp) 41 (0, 0)) ∈ K2) := by unfold Hid; rw [hK2]; simp
 have HKs : Hid (∀ e, e ∈ Ks -> e ∈ K2) := by unfold Hid; rw [hK2]; intro e he; simp [he]
 clear hK2
 go_enter func83, ntmps83
 go_upto_region 1 with fail
 generalize (w.alloc (.cells (gc P Q G H a m cap) 25)).alloc (.cells (tkc ba na ca X bb nb cb Y Z bp np cp) 41) = W1 at *
 generalize w.heap.size = gb at *
 have HW2 : Hid (Old W1 (W1.alloc (.cells #[.int .u64 1, .int .u64 1] 69))) := (Old.refl _).alloc _
 have HP2 : Hid ((W1.alloc (.cells #[.int .u64 1, .int .u64 1] 69)).heap[W1.heap.size]? = some (.cells #[.int .u64 (uF 0), .int .u64 (vF 0)] 69 (0, 0))) := by unfold Hid; rw [Hu0.out, Hv0.out]; exact heap_alloc_last _ _
 go_upto_region 2 with fail
 generalize W1.alloc (.cells #[.int .u64 1, .int .u64 1] 69) = W2 at *
 obtain ⟨pb, hpb⟩ : ∃ pb, pb = W1.heap.size := ⟨_, rfl⟩
 have Hpb := hid hpb
 rw [<- hpb] at HP2
 rw [<- hpb]
 clear hpb
 go_upto_region 3 with fail
 go_loopw [25] (fun iv wx => ∃ i : Nat, iv = .int .i64 (i : Int) /\ i <= n /\ Hid (Old W1 wx) /\ Hid (wx.heap[pb]? = some (.cells #[.int .u64 (uF i), .int .u64 (vF i)] 69 (0, 0)))) (fun iv _ => n - (intOf iv).toNat)
 case atStart => exact ⟨0, rfl, Nat.zero_le _, HW2, HP2⟩
 case round =>
  obtain ⟨i, rfl, hi, HO, HP⟩ := hrel
  have HLr := hid (HL0.out.old' HO.out)
  by_cases hlt : i < n
  ·have hcc := HC.out i wr hlt HLr.out.old
   have c0 : wr.cell? ⟨bi, oi + i * 6, none⟩ = some (.int .u64 (C i 0)) := hcc 0 (by omega)
   have c1 := hcc 1 (by omega)
   have c2 := hcc 2 (by omega)
   have c3 := hcc 3 (by omega)
   have c4 := hcc 4 (by omega)
   have c5 := hcc 5 (by omega)
   clear hcc
   have HOb : Hid (Old wr (wr.alloc (.cells (bc (C i 0) (C i 1) (C i 2) (C i 3) (C i 4) (C i 5)) 74))) := (Old.refl _).alloc _
   have HBb : Hid ((wr.alloc (.cells (bc (C i 0) (C i 1) (C i 2) (C i 3) (C i 4) (C i 5)) 74)).heap[wr.heap.size]? = some (.cells (bc (C i 0) (C i 1) (C i 2) (C i 3) (C i 4) (C i 5)) 74 (0, 0))) := heap_alloc_last _ _
   go_upto_region 5 with fail
   clear c0 c1 c2 c3 c4 c5
   generalize wr.alloc (.cells (bc (C i 0) (C i 1) (C i 2) (C i 3) (C i 4) (C i 5)) 74) = w3 at *
   obtain ⟨eb, hsz⟩ : ∃ eb, eb = wr.heap.size := ⟨_, rfl⟩
   rw [<- hsz] at HBb
   rw [<- hsz]
   have HP3 : Hid (w3.heap[pb]? = some (.cells #[.int .u64 (uF i), .int .u64 (vF i)] 69 (0, 0))) := (HOb.out.block _ (zag HP.out)).trans HP.out
   have HO3 := hid (HO.out.trans HOb.out)
   have HL3 := hid (HLr.out.old' HOb.out)
   have hne : pb ≠ eb := by have := zag HP.out; omega
   clear HO HP HLr HOb hsz
   have x1 : w3.cell? ⟨gb, 1, none⟩ = some (.int .u64 Q) := Y1 (HL3.out.prot HgK.out)
   have x2 : w3.cell? ⟨gb + 1, 1, none⟩ = some (.int .u64 X) := Y1 (HL3.out.prot HtK.out)
   have k1 : IntKind.u64.wrap (i : Int) = (i : Int) := by rw [IntKind.wrap_u64]; omega
   have k2 : IntKind.u64.wrap ((i : Int) + 1) = (i : Int) + 1 := by rw [IntKind.wrap_u64]; omega
   obtain ⟨pw, hpw⟩ : ∃ pw, pw = powI X ((i : Int) + 1) Q := ⟨_, rfl⟩
   have HPi : Hid (∀ wx, Calls prog 61 #[.int .u64 X, .int .u64 ((i : Int) + 1), .int .u64 Q] wx (Ret wx (.int .u64 pw))) := fun wx => by rw [hpw]; exact HPw.out i wx hlt
   obtain ⟨eU, heU⟩ : ∃ eU, eU = expI P Q (C i (2 * e)) pw := ⟨_, rfl⟩
   obtain ⟨eV, heV⟩ : ∃ eV, eV = expI P Q (C i (2 * e + 1)) pw := ⟨_, rfl⟩
   have HEU : Hid (∀ wx, Calls prog 65 #[gv P Q G H a m cap, .int .u64 (C i (2 * e)), .int .u64 pw] wx (Ret wx (.int .u64 eU))) := fun wx => by rw [heU, hpw]; exact HEx.out i (2 * e) wx hlt (by omega)
   have HEV : Hid (∀ wx, Calls prog 65 #[gv P Q G H a m cap, .int .u64 (C i (2 * e + 1)), .int .u64 pw] wx (Ret wx (.int .u64 eV))) := fun wx => by rw [heV, hpw]; exact HEx.out i (2 * e + 1) wx hlt (by omega)
   have HsU : Hid (mulI (uF i) eU P = uF (i + 1)) := by unfold Hid; rw [Hus.out i, heU, hpw]
   have HsV : Hid (mulI (vF i) eV P = vF (i + 1)) := by unfold Hid; rw [Hvs.out i, heV, hpw]
   have HeU : Hid (U64 eU) := by rw [heU]; exact zaz _ _ _ _
   have HeV : Hid (U64 eV) := by rw [heV]; exact zaz _ _ _ _
   clear hpw heU heV
   have HBq : Hid (∀ (wx : World), wx.heap[eb]? = some (.cells (bc (C i 0) (C i 1) (C i 2) (C i 3) (C i 4) (C i 5)) 74 (0, 0)) -> wx.cell? ⟨eb, 0 + e * 2, none⟩ = some (.int .u64 (C i (2 * e))) /\ wx.cell? ⟨eb, 0 + e * 2 + 1, none⟩ = some (.int .u64 (C i (2 * e + 1)))) := fun wx hrow =>
    ⟨(cell_of_row wx eb (0 + e * 2) _ _ (0, 0) hrow).trans (bc_at (C i) e he).1, (cell_of_row wx eb (0 + e * 2 + 1) _ _ (0, 0) hrow).trans (bc_at (C i) e he).2⟩
   go_upto_region 6 with (go_at_call 61; refine (HPi.out _).mono ?_; rintro r w5 ⟨rfl, o5⟩)
   clear x1 x2 k1 k2 HPi
   have HP5 : Hid (w5.heap[pb]? = some (.cells #[.int .u64 (uF i), .int .u64 (vF i)] 69 (0, 0))) := (o5.block _ (zag HP3.out)).trans HP3.out
   have HO5 := hid (HO3.out.trans o5)
   have HB5 : Hid (w5.heap[eb]? = some (.cells (bc (C i 0) (C i 1) (C i 2) (C i 3) (C i 4) (C i 5)) 74 (0, 0))) := (o5.block _ (zag HBb.out)).trans HBb.out
   clear HP3 HO3 HL3 HBb o5
   refine zaa 12 [.k (gv P Q G H a m cap), .k (.pointer (some ⟨pb, 0, none⟩)), .k (.int .u64 (uF i)), .k (gv P Q G H a m cap), .k (.int .i64 (e : Int)), .k (.pointer (some ⟨eb, 0 + e * 2, none⟩)), .k (.pointer (some ⟨eb, 0 + e * 2, none⟩)), .k (.int .u64 (C i (2 * e))), .k (.int .u64 pw), .k (.int .u64 eU), two8 w5.heap.size (uF i) eU, .k (.int .u64 (uF (i + 1)))] (Old w5) (by kernel_rfl) (by kernel_rfl) rfl ((Old.refl _).drew) ?st ?_
   case st =>
    refine .c (sts U25 (fun wx hx => (HL0.out.old' (HO5.out.trans hx)).prot HgK.out)) <| .p <| .c (stf 0 U22 (fun wx hx => (hx.block _ (zag HP5.out)).trans HP5.out)) <| .c (sts U25 (fun wx hx => (HL0.out.old' (HO5.out.trans hx)).prot HgK.out)) <| .p <| .c (saj 2 he U74) <| .p <| .c (stl U22 (fun wx hx => (HBq.out wx ((hx.block _ (zag HB5.out)).trans HB5.out)).1)) <| .p <| .c (stK old_R func65 (fun wx _ => HEU.out wx)) <| .c (stm (ob := fun t => .cells #[.int .u64 (uF i), .int .u64 eU] 22) (v := fun s => .slice (some ⟨s, 0, none⟩) 2 2) old_R fun t wx hR hd => ⟨_, rfl, zbG wx w5.heap.size 2 [.int .u64 (uF i), .int .u64 eU] (two7 (uF i) eU) hR.size (by omega) rfl⟩) <| .c (stC (args := fun t => #[gv P Q G H a m cap, t 10]) old_R func64 fun t wx hR hd => ?_) .n
    obtain ⟨b, e10, hN⟩ : ∃ b, t 10 = .slice (some ⟨b, 0, none⟩) 2 2 /\ Nums wx w5.heap.size (t 10) 2 (two7 (uF i) eU) := hd 10 (by kernel_rfl)
    rw [e10] at hN ⊢
    exact (HPd.out _ _ b _ wx (Huu.out i) HeU.out hN).mono fun r w' ⟨h, k⟩ => ⟨_, h, k, by rw [HsU.out]; rfl⟩
   intro t wx hR hk
   simp only [fill, Ent.val, two8, zs0, zs1, zd1, zd0, zdn]
   have HP6 : Hid ((wx.setCell ⟨pb, 0, none⟩ (.int .u64 (uF (i + 1)))).heap[pb]? = some (.cells #[.int .u64 (uF (i + 1)), .int .u64 (vF i)] 69 (0, 0))) := by
    have := zaq ((hR.block _ (zag HP5.out)).trans HP5.out) 0 (.int .u64 (uF (i + 1)))
    unfold Hid; simpa using this
   have HO6 : Hid (Old W1 (wx.setCell ⟨pb, 0, none⟩ (.int .u64 (uF (i + 1))))) := (HO5.out.trans hR).setCell (p := ⟨pb, 0, none⟩) (Nat.le_of_eq Hpb.out.symm) _
   have HB6 : Hid ((wx.setCell ⟨pb, 0, none⟩ (.int .u64 (uF (i + 1)))).heap[eb]? = some (.cells (bc (C i 0) (C i 1) (C i 2) (C i 3) (C i 4) (C i 5)) 74 (0, 0))) := (Below.heap_setCell _ ⟨pb, 0, none⟩ _ _ hne.symm).trans ((hR.block _ (zag HB5.out)).trans HB5.out)
   have q1 : wx.cell? ⟨pb, 0, none⟩ = some (.int .u64 (uF i)) := Y0 ((hR.block _ (zag HP5.out)).trans HP5.out)
   have f1 : wx.frozen? ⟨pb, 0, none⟩ = false := zac ((hR.block _ (zag HP5.out)).trans HP5.out) 0
   clear hR hk HP5 HO5 HB5 HEU HsU HeU
   go_upto_region 7 with fail
   clear q1 f1
   generalize wx.setCell ⟨pb, 0, none⟩ (.int .u64 (uF (i + 1))) = w6 at *
   refine zaa 12 [.k (gv P Q G H a m cap), .k (.pointer (some ⟨pb, 1, none⟩)), .k (.int .u64 (vF i)), .k (gv P Q G H a m cap), .k (.int .i64 (e : Int)), .k (.pointer (some ⟨eb, 0 + e * 2, none⟩)), .k (.pointer (some ⟨eb, 0 + e * 2 + 1, none⟩)), .k (.int .u64 (C i (2 * e + 1))), .k (.int .u64 pw), .k (.int .u64 eV), two8 w6.heap.size (vF i) eV, .k (.int .u64 (vF (i + 1)))] (Old w6) (by kernel_rfl) (by kernel_rfl) rfl ((Old.refl _).drew) ?st ?_
   case st =>
    refine .c (sts U25 (fun wx hx => (HL0.out.old' (HO6.out.trans hx)).prot HgK.out)) <| .p <| .c (stf 1 U22 (fun wx hx => (hx.block _ (zag HP6.out)).trans HP6.out)) <| .c (sts U25 (fun wx hx => (HL0.out.old' (HO6.out.trans hx)).prot HgK.out)) <| .p <| .c (saj 2 he U74) <| .p <| .c (stl U22 (fun wx hx => (HBq.out wx ((hx.block _ (zag HB6.out)).trans HB6.out)).2)) <| .p <| .c (stK old_R func65 (fun wx _ => HEV.out wx)) <| .c (stm (ob := fun t => .cells #[.int .u64 (vF i), .int .u64 eV] 22) (v := fun s => .slice (some ⟨s, 0, none⟩) 2 2) old_R fun t wx hR hd => ⟨_, rfl, zbG wx w6.heap.size 2 [.int .u64 (vF i), .int .u64 eV] (two7 (vF i) eV) hR.size (by omega) rfl⟩) <| .c (stC (args := fun t => #[gv P Q G H a m cap, t 10]) old_R func64 fun t wx hR hd => ?_) .n
    obtain ⟨b, e10, hN⟩ : ∃ b, t 10 = .slice (some ⟨b, 0, none⟩) 2 2 /\ Nums wx w6.heap.size (t 10) 2 (two7 (vF i) eV) := hd 10 (by kernel_rfl)
    rw [e10] at hN ⊢
    exact (HPd.out _ _ b _ wx (Hvu.out i) HeV.out hN).mono fun r w' ⟨h, k⟩ => ⟨_, h, k, by rw [HsV.out]; rfl⟩
   intro t wx hR hk
   simp only [fill, Ent.val, two8, zs0, zs1, zd1, zd0, zdn]
   have HP7 : Hid ((wx.setCell ⟨pb, 1, none⟩ (.int .u64 (vF (i + 1)))).heap[pb]? = some (.cells #[.int .u64 (uF (i + 1)), .int .u64 (vF (i + 1))] 69 (0, 0))) := by
    have := zaq ((hR.block _ (zag HP6.out)).trans HP6.out) 1 (.int .u64 (vF (i + 1)))
    unfold Hid; simpa using this
   have HO7 : Hid (Old W1 (wx.setCell ⟨pb, 1, none⟩ (.int .u64 (vF (i + 1))))) := (HO6.out.trans hR).setCell (p := ⟨pb, 1, none⟩) (Nat.le_of_eq Hpb.out.symm) _
   have q1 : wx.cell? ⟨pb, 1, none⟩ = some (.int .u64 (vF i)) := Y1 ((hR.block _ (zag HP6.out)).trans HP6.out)
   have f1 : wx.frozen? ⟨pb, 1, none⟩ = false := zac ((hR.block _ (zag HP6.out)).trans HP6.out) 1
   clear hR hk HP6 HO6 HB6 HEV HsV HeV HBq
   go_wp2_with fail
   go_roundw
   case rel => exact ⟨i + 1, zab i, by omega, HO7, HP7⟩
   case measure => simp [intOf]; omega
  ·have he : n = i := by omega
   subst he
   have HLs := hid (HL0.out.more2 HO.out (Nat.le_of_eq Hpb.out.symm) HP.out)
   obtain ⟨K3, hK3⟩ : ∃ K3, K3 = (pb, Obj.cells #[.int .u64 (uF n), .int .u64 (vF n)] 69 (0, 0)) :: K2 := ⟨_, rfl⟩
   rw [<- hK3] at HLs
   have HpK : Hid ((pb, Obj.cells #[.int .u64 (uF n), .int .u64 (vF n)] 69 (0, 0)) ∈ K3) := by unfold Hid; rw [hK3]; simp
   have HgK3 : Hid ((gb, .cells (gc P Q G H a m cap) 25 (0, 0)) ∈ K3) := by unfold Hid; rw [hK3]; simp [HgK.out]
   have HKs3 : Hid (∀ e, e ∈ Ks -> e ∈ K3) := by unfold Hid; rw [hK3]; intro e he; simp [HKs.out e he]
   clear hK3 HO HP HLr HL0 HgK HtK HKs HC HCu Hu0 Hv0 Huu Hvu Hus Hvs HPw HEx HPd Hpb HW2 HP2
   have HS : Hid (∀ (wx : World) Bs k' bl, LayB W s n K3 T Bs k' bl wx -> wx.cell? ⟨pb, 0, none⟩ = some (.int .u64 (uF n)) /\ wx.cell? ⟨pb, 1, none⟩ = some (.int .u64 (vF n))) := fun wx Bs k' bl h => ⟨Y0 (h.prot HpK.out), Y1 (h.prot HpK.out)⟩
   have HLd := hid (HLs.out.old' (Old.refl _).drew)
   clear HLs
   go_upto_region 9 with fail
   go_region_held3 (fun w' => w'.cell? ⟨pb, 0, none⟩ = some (.int .u64 (uF n)) /\ w'.cell? ⟨pb, 1, none⟩ = some (.int .u64 (vF n))) (first | exact HS.out _ _ _ _ hlB.out | exact HS.out _ _ _ _ hlA.out | exact HS.out _ _ _ _ HLd.out) (first
    | (have hg := hlA; clear hg; go_at_call 113; refine (ladd8 W s n K3 T (ones8 R k) (k + 1) _ (vF n) _ hn (by omega) HT2.out hlA.out).mono ?_; rintro r w2 ⟨bV, rfl, hl⟩; have hlB : Hid (LayB W s n K3 T _ _ _ w2) := hl; clear hl)
    | (go_at_call 113; refine (ladd8 W s n K3 T R k [] (uF n) _ hn (by omega) HT1.out HLd.out).mono ?_; rintro r w1 ⟨bU, rfl, hl⟩; have hlA : Hid (LayB W s n K3 T _ _ _ w1) := hl; clear hl))
   have HQ0 : Hid (LayB W s n K3 T (two8r R k (rowP (2 * n) 0 (fun i => O i (2 * e))) (rowP (2 * n) 0 (fun i => O i (2 * e + 1)))) (k + 2) [(k + 1, bV), (k, bU)] w2) := hlB.out.two
   clear hlA hlB HLd HT1 HT2 HS HpK
   go_upto_region 11 with fail
   go_loopw [75] (fun iv wx => ∃ i : Nat, iv = .int .i64 (i : Int) /\ i <= n /\ Hid (LayB W s n K3 T (two8r R k (rowP (2 * n) i (fun i => O i (2 * e))) (rowP (2 * n) i (fun i => O i (2 * e + 1)))) (k + 2) [(k + 1, bV), (k, bU)] wx)) (fun iv _ => n - (intOf iv).toNat)
   case atStart => exact ⟨0, rfl, Nat.zero_le _, HQ0⟩
   case round =>
    obtain ⟨i, rfl, hi, HL⟩ := hrel
    by_cases hlt : i < n
    ·have hcc := HOc.out i wr hlt HL.out.old
     have c0 : wr.cell? ⟨bo, oo + i * 6, none⟩ = some (.int .u64 (O i 0)) := hcc 0 (by omega)
     have c1 := hcc 1 (by omega)
     have c2 := hcc 2 (by omega)
     have c3 := hcc 3 (by omega)
     have c4 := hcc 4 (by omega)
     have c5 := hcc 5 (by omega)
     clear hcc
     have HLb : Hid (LayB W s n ((wr.heap.size, .cells (bc (O i 0) (O i 1) (O i 2) (O i 3) (O i 4) (O i 5)) 74 (0, 0)) :: K3) T (two8r R k (rowP (2 * n) i (fun i => O i (2 * e))) (rowP (2 * n) i (fun i => O i (2 * e + 1)))) (k + 2) [(k + 1, bV), (k, bU)] (wr.alloc (.cells (bc (O i 0) (O i 1) (O i 2) (O i 3) (O i 4) (O i 5)) 74))) := HL.out.more _
     go_upto_region 13 with fail
     clear c0 c1 c2 c3 c4 c5
     generalize wr.alloc (.cells (bc (O i 0) (O i 1) (O i 2) (O i 3) (O i 4) (O i 5)) 74) = w3 at *
     obtain ⟨eb, hsz⟩ : ∃ eb, eb = wr.heap.size := ⟨_, rfl⟩
     rw [<- hsz] at HLb
     rw [<- hsz]
     obtain ⟨K4, hK4⟩ : ∃ K4, K4 = (eb, Obj.cells (bc (O i 0) (O i 1) (O i 2) (O i 3) (O i 4) (O i 5)) 74 (0, 0)) :: K3 := ⟨_, rfl⟩
     rw [<- hK4] at HLb
     have HeK : Hid ((eb, Obj.cells (bc (O i 0) (O i 1) (O i 2) (O i 3) (O i 4) (O i 5)) 74 (0, 0)) ∈ K4) := by unfold Hid; rw [hK4]; simp
     have HKs4 : Hid (∀ e, e ∈ K3 -> e ∈ K4) := by unfold Hid; rw [hK4]; intro e he; simp [he]
     clear hK4 hsz HL
     obtain ⟨p, hp⟩ : ∃ p, p = 2 * n + i := ⟨_, rfl⟩
     have hp8 : p < 7 * n + 3 := by omega
     obtain ⟨Bs, hBs⟩ : ∃ Bs, Bs = (two8r R k (rowP (2 * n) i (fun i => O i (2 * e))) (rowP (2 * n) i (fun i => O i (2 * e + 1)))) := ⟨_, rfl⟩
     have HM : Hid (∀ wx, LayC W s n K4 T Bs (k + 2) [(k + 1, bV), (k, bU)] k p wx -> Calls prog 116 #[.pointer (some ⟨s, 0, none⟩), .int .i64 (i : Int)] wx (Ret wx (.int .i64 (p : Int)))) := fun wx hR => (by obtain ⟨v, u, hrow⟩ := hR.row; rw [hp]; exact lm_b s n i v u wx hn (by omega) hrow)
     have HBq : Hid (∀ wx, LayC W s n K4 T Bs (k + 2) [(k + 1, bV), (k, bU)] k p wx -> wx.cell? ⟨eb, 0 + e * 2, none⟩ = some (.int .u64 (O i (2 * e))) /\ wx.cell? ⟨eb, 0 + e * 2 + 1, none⟩ = some (.int .u64 (O i (2 * e + 1)))) := fun wx hR =>
      ⟨(cell_of_row wx eb (0 + e * 2) _ _ (0, 0) (hR.prot HeK.out)).trans (bc_at (O i) e he).1, (cell_of_row wx eb (0 + e * 2 + 1) _ _ (0, 0) (hR.prot HeK.out)).trans (bc_at (O i) e he).2⟩
     rw [<- hBs] at HLb
     have Hp := hid hp
     have HBs := hid hBs
     clear hp hBs
     refine zaa 18 [.k (.slice (some ⟨bU, 0, none⟩) (7 * n + 3) (7 * n + 3)), .k (.pointer (some ⟨s, 0, none⟩)), .k (.int .i64 (i : Int)), .k (.int .i64 (p : Int)), .k (.slice (some ⟨bV, 0, none⟩) (7 * n + 3) (7 * n + 3)), .k (.pointer (some ⟨s, 0, none⟩)), .k (.int .i64 (i : Int)), .k (.int .i64 (p : Int)), .k (.int .i64 (e : Int)), .k (.pointer (some ⟨eb, 0 + e * 2, none⟩)), .k (.pointer (some ⟨eb, 0 + e * 2, none⟩)), .k (.int .u64 (O i (2 * e))), .k (.int .i64 (e : Int)), .k (.pointer (some ⟨eb, 0 + e * 2, none⟩)), .k (.pointer (some ⟨eb, 0 + e * 2 + 1, none⟩)), .k (.int .u64 (O i (2 * e + 1))), .k (.pointer (some ⟨bU, p, none⟩)), zdA W s n K4 T Bs (k + 2) [(k + 1, bV), (k, bU)] k p (O i (2 * e))] (LayC W s n K4 T Bs (k + 2) [(k + 1, bV), (k, bU)] k p) (by kernel_rfl) (by kernel_rfl) rfl (LayC.old _ _ (LayC.of HLb.out) (Old.refl _).drew) ?st ?_
     case st =>
      refine .p <| .p <| .p <| .c (stK LayC.old func116 (fun wx hR => HM.out wx hR)) <| .p <| .p <| .p <| .c (stK LayC.old func116 (fun wx hR => HM.out wx hR)) <| .p <| .c (saj 2 he U74) <| .p <| .c (stl U22 (fun wx hR => (HBq.out wx hR).1)) <| .p <| .c (saj 2 he U74) <| .p <| .c (stl U22 (fun wx hR => (HBq.out wx hR).2)) <| .c (sti0 (n := (7 * n + 3)) (c := (7 * n + 3)) hp8 U29) <| .c (stS (p := ⟨bU, p, none⟩) (v := .int .u64 (O i (2 * e))) (fun _ => layC_stS (i := 17) rfl rfl (by simp) hp8)) .n
     intro t wx hR hk
     simp only [fill, Ent.val, zdA, zs0, zs1, zd1, zd0, zdn]
     have hl : LayB W s n K4 T (setR Bs k p (O i (2 * e))) (k + 2) [(k + 1, bV), (k, bU)] wx := hk 17 (by omega)
     have q1 := (hl.full (r := k + 1) (b := bV) (by simp)).cell p hp8
     have f1 := (hl.full (r := k + 1) (b := bV) (by simp)).free p
     have HN : Hid (LayB W s n K3 T (two8r R k (rowP (2 * n) (i + 1) (fun i => O i (2 * e))) (rowP (2 * n) (i + 1) (fun i => O i (2 * e + 1)))) (k + 2) [(k + 1, bV), (k, bU)] (wx.setCell ⟨bV, p, none⟩ (.int .u64 (O i (2 * e + 1))))) := by
      have := hl.cell (r := k + 1) (b := bV) (by simp) p (O i (2 * e + 1))
      rw [HBs.out] at this
      rw [Hp.out] at this ⊢
      exact (LayB.step (WU := fun i => O i (2 * e)) (WV := fun i => O i (2 * e + 1)) this).less HKs4.out
     clear hl hk hR HM HBq HLb HBs Hp
     go_wp2_with fail
     go_roundw
     case rel => exact ⟨i + 1, zab i, by omega, HN⟩
     case measure => simp [intOf]; omega
    ·have he' : n = i := by omega
     subst he'
     obtain ⟨q, hq⟩ : ∃ q, q = 7 * n + e := ⟨_, rfl⟩
     have hq8 : q < 7 * n + 3 := by omega
     have hq3 : 3 * n <= q := by omega
     rw [<- hq] at HR1 HR2
     obtain ⟨Bs, hBs⟩ : ∃ Bs, Bs = (two8r R k (rowP (2 * n) n (fun i => O i (2 * e))) (rowP (2 * n) n (fun i => O i (2 * e + 1)))) := ⟨_, rfl⟩
     have HLn : Hid (LayB W s n K3 T Bs (k + 2) [(k + 1, bV), (k, bU)] wr) := by rw [hBs]; exact HL.out
     have HBs : Hid (Bs = (two8r R k (rowP (2 * n) n (fun i => O i (2 * e))) (rowP (2 * n) n (fun i => O i (2 * e + 1))))) := hBs
     have HM : Hid (∀ wx, LayC W s n K3 T Bs (k + 2) [(k + 1, bV), (k, bU)] k q wx -> Calls prog 123 #[.pointer (some ⟨s, 0, none⟩), .int .i64 (e : Int)] wx (Ret wx (.int .i64 (q : Int)))) := fun wx hR => (by obtain ⟨v, u, hrow⟩ := hR.row; rw [hq]; exact lm_rho s n e v u wx hn (by omega) hrow)
     have HGr := hid fun wx (hR : LayC W s n K3 T Bs (k + 2) [(k + 1, bV), (k, bU)] k q wx) => hR.prot HgK3.out
     clear hq hBs HL
     go_upto_region 15 with fail
     refine zaa 13 [.k (.slice (some ⟨bU, 0, none⟩) (7 * n + 3) (7 * n + 3)), .k (.pointer (some ⟨s, 0, none⟩)), .k (.int .i64 (e : Int)), .k (.int .i64 (q : Int)), .k (.slice (some ⟨bV, 0, none⟩) (7 * n + 3) (7 * n + 3)), .k (.pointer (some ⟨s, 0, none⟩)), .k (.int .i64 (e : Int)), .k (.int .i64 (q : Int)), .k (.pointer (some ⟨gb, 2, none⟩)), .k (.int .u64 G), .k (.int .u64 y), .k (.pointer (some ⟨bU, q, none⟩)), zdA W s n K3 T Bs (k + 2) [(k + 1, bV), (k, bU)] k q G] (LayC W s n K3 T Bs (k + 2) [(k + 1, bV), (k, bU)] k q) (by kernel_rfl) (by kernel_rfl) rfl (LayC.old _ _ (LayC.of HLn.out) (Old.refl _).drew) ?st ?_
     case st =>
      refine .p <| .p <| .p <| .c (stK LayC.old func123 (fun wx hR => HM.out wx hR)) <| .p <| .p <| .p <| .c (stK LayC.old func123 (fun wx hR => HM.out wx hR)) <| .p <| .c (stf 2 U22 HGr.out) <| .p <| .c (sti0 (n := (7 * n + 3)) (c := (7 * n + 3)) hq8 U29) <| .c (stS (p := ⟨bU, q, none⟩) (v := .int .u64 G) (fun _ => layC_stS (i := 12) rfl rfl (by simp) hq8)) .n
     intro t wx hR hk
     simp only [fill, Ent.val, zdA, zs0, zs1, zd1, zd0, zdn]
     have hl : LayB W s n K3 T (setR Bs k q G) (k + 2) [(k + 1, bV), (k, bU)] wx := hk 12 (by omega)
     have q1 := (hl.full (r := k + 1) (b := bV) (by simp)).cell q hq8
     have f1 := (hl.full (r := k + 1) (b := bV) (by simp)).free q
     have HN : Hid (LayB W s n Ks T R (k + 2) [] (wx.setCell ⟨bV, q, none⟩ (.int .u64 y))) := by
      have := hl.cell (r := k + 1) (b := bV) (by simp) q y
      rw [HBs.out] at this
      exact (this.finS hq3 HR1.out HR2.out).less HKs3.out
     clear hl hk hR HM HLn HBs HGr
     go_wp2_with fail
     go_end0
     exact ⟨rfl, HN.out⟩
end
section
open Go.RowKit
def fitB (l no na nb np : Nat) : Bool := cnt8 l && decide (no = l) && decide (na = l) && decide (nb = l) && decide (np = l)
theorem zcB {l no na nb np : Nat} : fitB l no na nb np = true ↔ (1 <= l /\ l <= 8) /\ no = l /\ na = l /\ nb = l /\ np = l := by
 unfold fitB
 simp only [Bool.and_eq_true_iff, cnt8_iff, decide_eq_true_eq, and_assoc]
theorem zcw (bi : OA) (l ci : Nat) (bo : OA) (no co : Nat) (ba : OA) (na ca : Nat) (X : Int) (bb : OA) (nb cb : Nat) (Y Z : Int) (bp : OA) (np cp : Nat) (w : World) (hl : l <= 9223372036854775807) :
  Calls prog 79 #[.slice bi l ci, .slice bo no co, tk ba na ca X bb nb cb Y Z bp np cp] w (Ret w (.bool (fitB l no na nb np))) := by
 have HW0 : Hid (Old w (w.alloc (.cells (tkc ba na ca X bb nb cb Y Z bp np cp) 41))) := (Old.refl _).alloc _
 have HR0 : Hid ((w.alloc (.cells (tkc ba na ca X bb nb cb Y Z bp np cp) 41)).heap[w.heap.size]? = some (.cells (tkc ba na ca X bb nb cb Y Z bp np cp) 41 (0, 0))) := heap_alloc_last _ _
 have HCn : ∀ wx, Calls prog 102 #[.int .i64 (l : Int)] wx fun e w' => e = .returned (.bool (cnt8 l)) /\ w' = wx := fun wx => zeV l wx hl
 cases hc : cnt8 l with
 | false =>
  have HV : Hid (fitB l no na nb np = false) := by unfold Hid fitB; rw [hc]; simp
  rw [hc] at HCn
  have HCn := hid HCn
  go_enter func79, ntmps79
  go_upto_region 1 with fail
  generalize w.alloc (.cells (tkc ba na ca X bb nb cb Y Z bp np cp) 41) = W1 at *
  have c0 : W1.cell? ⟨w.heap.size, 0, none⟩ = some (.slice ba na ca) := Y0 HR0.out
  have c2 : W1.cell? ⟨w.heap.size, 2, none⟩ = some (.slice bb nb cb) := Y2 HR0.out
  have c5 : W1.cell? ⟨w.heap.size, 5, none⟩ = some (.slice bp np cp) := Y5 HR0.out
  generalize w.heap.size = gb at *
  go_wp2_with (go_at_call 102; refine (HCn.out _).mono ?_; rintro e w1 ⟨rfl, rfl⟩)
  go_ret
  exact ⟨by rw [HV.out]; first | rfl | (show Ending.returned (.bool ((np : Int) == (l : Int))) = _; rw [show ((np : Int) == (l : Int)) = false by simpa using nnp]), HW0.out⟩
 | true =>
  rw [hc] at HCn
  have HCn := hid HCn
  by_cases hno : l = no
  case neg =>
   have mno : ¬ no = l := fun h => hno h.symm
   have HV : Hid (fitB l no na nb np = false) := by unfold Hid fitB; simp [mno]
   have nno : ¬ (no : Int) = (l : Int) := by omega
   clear hno mno
   go_enter func79, ntmps79
   go_upto_region 1 with fail
   generalize w.alloc (.cells (tkc ba na ca X bb nb cb Y Z bp np cp) 41) = W1 at *
   have c0 : W1.cell? ⟨w.heap.size, 0, none⟩ = some (.slice ba na ca) := Y0 HR0.out
   have c2 : W1.cell? ⟨w.heap.size, 2, none⟩ = some (.slice bb nb cb) := Y2 HR0.out
   have c5 : W1.cell? ⟨w.heap.size, 5, none⟩ = some (.slice bp np cp) := Y5 HR0.out
   generalize w.heap.size = gb at *
   go_wp2_with (go_at_call 102; refine (HCn.out _).mono ?_; rintro e w1 ⟨rfl, rfl⟩)
   go_ret
   exact ⟨by rw [HV.out]; first | rfl | (show Ending.returned (.bool ((np : Int) == (l : Int))) = _; rw [show ((np : Int) == (l : Int)) = false by simpa using nnp]), HW0.out⟩
  subst hno
  by_cases hna : l = na
  case neg =>
   have mna : ¬ na = l := fun h => hna h.symm
   have HV : Hid (fitB l l na nb np = false) := by unfold Hid fitB; simp [mna]
   have nna : ¬ (na : Int) = (l : Int) := by omega
   clear hna mna
   go_enter func79, ntmps79
   go_upto_region 1 with fail
   generalize w.alloc (.cells (tkc ba na ca X bb nb cb Y Z bp np cp) 41) = W1 at *
   have c0 : W1.cell? ⟨w.heap.size, 0, none⟩ = some (.slice ba na ca) := Y0 HR0.out
   have c2 : W1.cell? ⟨w.heap.size, 2, none⟩ = some (.slice bb nb cb) := Y2 HR0.out
   have c5 : W1.cell? ⟨w.heap.size, 5, none⟩ = some (.slice bp np cp) := Y5 HR0.out
   generalize w.heap.size = gb at *
   go_wp2_with (go_at_call 102; refine (HCn.out _).mono ?_; rintro e w1 ⟨rfl, rfl⟩)
   go_ret
   exact ⟨by rw [HV.out]; first | rfl | (show Ending.returned (.bool ((np : Int) == (l : Int))) = _; rw [show ((np : Int) == (l : Int)) = false by simpa using nnp]), HW0.out⟩
  subst hna
  by_cases hnb : l = nb
  case neg =>
   have mnb : ¬ nb = l := fun h => hnb h.symm
   have HV : Hid (fitB l l l nb np = false) := by unfold Hid fitB; simp [mnb]
   have nnb : ¬ (nb : Int) = (l : Int) := by omega
   clear hnb mnb
   go_enter func79, ntmps79
   go_upto_region 1 with fail
   generalize w.alloc (.cells (tkc ba l ca X bb nb cb Y Z bp np cp) 41) = W1 at *
   have c0 : W1.cell? ⟨w.heap.size, 0, none⟩ = some (.slice ba l ca) := Y0 HR0.out
   have c2 : W1.cell? ⟨w.heap.size, 2, none⟩ = some (.slice bb nb cb) := Y2 HR0.out
   have c5 : W1.cell? ⟨w.heap.size, 5, none⟩ = some (.slice bp np cp) := Y5 HR0.out
   generalize w.heap.size = gb at *
   go_wp2_with (go_at_call 102; refine (HCn.out _).mono ?_; rintro e w1 ⟨rfl, rfl⟩)
   go_ret
   exact ⟨by rw [HV.out]; first | rfl | (show Ending.returned (.bool ((np : Int) == (l : Int))) = _; rw [show ((np : Int) == (l : Int)) = false by simpa using nnp]), HW0.out⟩
  subst hnb
  by_cases hnp : l = np
  case neg =>
   have mnp : ¬ np = l := fun h => hnp h.symm
   have HV : Hid (fitB l l l l np = false) := by unfold Hid fitB; simp [mnp]
   have nnp : ¬ (np : Int) = (l : Int) := by omega
   clear hnp mnp
   go_enter func79, ntmps79
   go_upto_region 1 with fail
   generalize w.alloc (.cells (tkc ba l ca X bb l cb Y Z bp np cp) 41) = W1 at *
   have c0 : W1.cell? ⟨w.heap.size, 0, none⟩ = some (.slice ba l ca) := Y0 HR0.out
   have c2 : W1.cell? ⟨w.heap.size, 2, none⟩ = some (.slice bb l cb) := Y2 HR0.out
   have c5 : W1.cell? ⟨w.heap.size, 5, none⟩ = some (.slice bp np cp) := Y5 HR0.out
   generalize w.heap.size = gb at *
   go_wp2_with (go_at_call 102; refine (HCn.out _).mono ?_; rintro e w1 ⟨rfl, rfl⟩)
   go_ret
   exact ⟨by rw [HV.out]; first | rfl | (show Ending.returned (.bool ((np : Int) == (l : Int))) = _; rw [show ((np : Int) == (l : Int)) = false by simpa using nnp]), HW0.out⟩
  subst hnp
  have HV : Hid (fitB l l l l l = true) := by unfold Hid fitB; simp [hc]
  go_enter func79, ntmps79
  go_upto_region 1 with fail
  generalize w.alloc (.cells (tkc ba l ca X bb l cb Y Z bp l cp) 41) = W1 at *
  have c0 : W1.cell? ⟨w.heap.size, 0, none⟩ = some (.slice ba l ca) := Y0 HR0.out
  have c2 : W1.cell? ⟨w.heap.size, 2, none⟩ = some (.slice bb l cb) := Y2 HR0.out
  have c5 : W1.cell? ⟨w.heap.size, 5, none⟩ = some (.slice bp l cp) := Y5 HR0.out
  generalize w.heap.size = gb at *
  go_wp2_with (go_at_call 102; refine (HCn.out _).mono ?_; rintro e w1 ⟨rfl, rfl⟩)
  go_ret
  exact ⟨by rw [HV.out]; first | rfl | (show Ending.returned (.bool ((l : Int) == (l : Int))) = _; rw [show ((l : Int) == (l : Int)) = false by simpa using nnp]), HW0.out⟩
def eltB (P Q y : Int) (l : Nat) (C : NN) (no : Nat) (O : NN) (na : Nat) (A : NI) (nb : Nat) (B : NI) (np : Nat) (Pp : NI) : Bool := inI P Q y && batB P Q l C && batB P Q no O && elB P Q na A && elB P Q nb B && elB P Q np Pp
theorem eltB_iff {P Q y : Int} {l : Nat} {C : NN} {no : Nat} {O : NN} {na : Nat} {A : NI} {nb : Nat} {B : NI} {np : Nat} {Pp : NI} : eltB P Q y l C no O na A nb B np Pp = true ↔ inI P Q y = true /\ batB P Q l C = true /\ batB P Q no O = true /\ elB P Q na A = true /\ elB P Q nb B = true /\ elB P Q np Pp = true := by
 unfold eltB
 simp only [Bool.and_eq_true_iff, and_assoc]
theorem sallel_any (P Q G H : Int) (a : OA) (m cap : Nat) (y : Int) (bi : OA) (l ci : Nat) (C : NN) (bo : OA) (no co : Nat) (O : NN) (ba : OA) (na ca : Nat) (A : NI) (X : Int) (bb : OA) (nb cb : Nat) (B : NI) (Y Z : Int) (bp : OA) (np cp : Nat) (Pp : NI) (w : World) (h4 : Four P Q G H) (hy : U64 y) (hl : l <= 1000) (hno : no <= 1000) (hC : BoxsIn w bi l C) (hO : BoxsIn w bo no O) (hna : na <= 1000) (hnb : nb <= 1000) (hnp : np <= 1000) (hA : FacsIn w ba na A) (hB : FacsIn w bb nb B) (hP : FacsIn w bp np Pp) :
  Calls prog 80 #[gv P Q G H a m cap, .int .u64 y, .slice bi l ci, .slice bo no co, tk ba na ca X bb nb cb Y Z bp np cp] w (Ret w (.bool (eltB P Q y l C no O na A nb B np Pp))) := by
 have HZ := lain2 w (gc P Q G H a m cap) (tkc ba na ca X bb nb cb Y Z bp np cp) 25 41
 have HG0 := fun w' ho => (HZ.then (W' := w') ho).row 0 (by simp)
 have HT0 := fun w' ho => (HZ.then (W' := w') ho).row 1 (by simp)
 have HW0 := hid HZ.old
 clear HZ
 have HIn := hid fun wx (_ : Old w wx) => gin0 P Q G H y a m cap wx h4.q0 h4.q1 hy.2
 have HBi := hid fun wx (ho : Old w wx) => zdB P Q G H a m cap bi l ci C wx h4 hl (hC.old ho)
 have HBo := hid fun wx (ho : Old w wx) => zdB P Q G H a m cap bo no co O wx h4 hno (hO.old ho)
 have HEA := hid fun wx (ho : Old w wx) => zdY P Q G H a m cap ba na ca A wx h4 (by omega) (hA.old ho)
 have HEB := hid fun wx (ho : Old w wx) => zdY P Q G H a m cap bb nb cb B wx h4 (by omega) (hB.old ho)
 have HEP := hid fun wx (ho : Old w wx) => zdY P Q G H a m cap bp np cp Pp wx h4 (by omega) (hP.old ho)
 clear h4 hy hl hno hC hO hna hnb hnp hA hB hP
 cases hIn : inI P Q y with
 | false =>
  have HV : Hid (eltB P Q y l C no O na A nb B np Pp = false) := by unfold Hid eltB; simp [hIn]
  rw [hIn] at HIn
  go_enter func80, ntmps80
  go_upto_region 1 with fail
  generalize (w.alloc (.cells (gc P Q G H a m cap) 25)).alloc (.cells (tkc ba na ca X bb nb cb Y Z bp np cp) 41) = W1 at *
  have HG := hid HG0
  have HT := hid HT0
  clear HG0 HT0
  have HS := g8 HG.out HT.out
  clear HG HT
  generalize w.heap.size = gb at *
  have O0 : Hid (Old W1 W1) := Old.refl _
  obtain ⟨x0, x1, x2, x3, x4, x5, x6, x7⟩ := HS.out _ O0.out
  go_wp2_with (first
   | (go_at_call 52; refine (HIn.out _ (HW0.out.trans O0.out)).mono ?_; rintro e w1 ⟨rfl, o⟩; have O1 : Hid (Old W1 w1) := O0.out.trans o; clear o; clear x0 x1 x2 x3 x4 x5 x6 x7; obtain ⟨x0, x1, x2, x3, x4, x5, x6, x7⟩ := HS.out _ O1.out))
  go_ret
  exact ⟨by rw [HV.out]; rfl, HW0.out.trans O1.out⟩
 | true =>
  rw [hIn] at HIn
  cases hBi : batB P Q l C with
  | false =>
   have HV : Hid (eltB P Q y l C no O na A nb B np Pp = false) := by unfold Hid eltB; simp [hBi]
   rw [hBi] at HBi
   go_enter func80, ntmps80
   go_upto_region 1 with fail
   generalize (w.alloc (.cells (gc P Q G H a m cap) 25)).alloc (.cells (tkc ba na ca X bb nb cb Y Z bp np cp) 41) = W1 at *
   have HG := hid HG0
   have HT := hid HT0
   clear HG0 HT0
   have HS := g8 HG.out HT.out
   clear HG HT
   generalize w.heap.size = gb at *
   have O0 : Hid (Old W1 W1) := Old.refl _
   obtain ⟨x0, x1, x2, x3, x4, x5, x6, x7⟩ := HS.out _ O0.out
   go_wp2_with (first
    | (go_at_call 51; refine (HBi.out _ (HW0.out.trans O1.out)).mono ?_; rintro e w2 ⟨rfl, o⟩; have O2 : Hid (Old W1 w2) := O1.out.trans o; clear o; clear x0 x1 x2 x3 x4 x5 x6 x7; obtain ⟨x0, x1, x2, x3, x4, x5, x6, x7⟩ := HS.out _ O2.out)
    | (go_at_call 52; refine (HIn.out _ (HW0.out.trans O0.out)).mono ?_; rintro e w1 ⟨rfl, o⟩; have O1 : Hid (Old W1 w1) := O0.out.trans o; clear o; clear x0 x1 x2 x3 x4 x5 x6 x7; obtain ⟨x0, x1, x2, x3, x4, x5, x6, x7⟩ := HS.out _ O1.out))
   go_ret
   exact ⟨by rw [HV.out]; rfl, HW0.out.trans O2.out⟩
  | true =>
   rw [hBi] at HBi
   cases hBo : batB P Q no O with
   | false =>
    have HV : Hid (eltB P Q y l C no O na A nb B np Pp = false) := by unfold Hid eltB; simp [hBo]
    rw [hBo] at HBo
    go_enter func80, ntmps80
    go_upto_region 1 with fail
    generalize (w.alloc (.cells (gc P Q G H a m cap) 25)).alloc (.cells (tkc ba na ca X bb nb cb Y Z bp np cp) 41) = W1 at *
    have HG := hid HG0
    have HT := hid HT0
    clear HG0 HT0
    have HS := g8 HG.out HT.out
    clear HG HT
    generalize w.heap.size = gb at *
    have O0 : Hid (Old W1 W1) := Old.refl _
    obtain ⟨x0, x1, x2, x3, x4, x5, x6, x7⟩ := HS.out _ O0.out
    go_wp2_with (first
     | (go_at_call 51; refine (HBo.out _ (HW0.out.trans O2.out)).mono ?_; rintro e w3 ⟨rfl, o⟩; have O3 : Hid (Old W1 w3) := O2.out.trans o; clear o; clear x0 x1 x2 x3 x4 x5 x6 x7; obtain ⟨x0, x1, x2, x3, x4, x5, x6, x7⟩ := HS.out _ O3.out)
     | (go_at_call 51; refine (HBi.out _ (HW0.out.trans O1.out)).mono ?_; rintro e w2 ⟨rfl, o⟩; have O2 : Hid (Old W1 w2) := O1.out.trans o; clear o; clear x0 x1 x2 x3 x4 x5 x6 x7; obtain ⟨x0, x1, x2, x3, x4, x5, x6, x7⟩ := HS.out _ O2.out)
     | (go_at_call 52; refine (HIn.out _ (HW0.out.trans O0.out)).mono ?_; rintro e w1 ⟨rfl, o⟩; have O1 : Hid (Old W1 w1) := O0.out.trans o; clear o; clear x0 x1 x2 x3 x4 x5 x6 x7; obtain ⟨x0, x1, x2, x3, x4, x5, x6, x7⟩ := HS.out _ O1.out))
    go_ret
    exact ⟨by rw [HV.out]; rfl, HW0.out.trans O3.out⟩
   | true =>
    rw [hBo] at HBo
    cases hEA : elB P Q na A with
    | false =>
     have HV : Hid (eltB P Q y l C no O na A nb B np Pp = false) := by unfold Hid eltB; simp [hEA]
     rw [hEA] at HEA
     go_enter func80, ntmps80
     go_upto_region 1 with fail
     generalize (w.alloc (.cells (gc P Q G H a m cap) 25)).alloc (.cells (tkc ba na ca X bb nb cb Y Z bp np cp) 41) = W1 at *
     have HG := hid HG0
     have HT := hid HT0
     clear HG0 HT0
     have HS := g8 HG.out HT.out
     clear HG HT
     generalize w.heap.size = gb at *
     have O0 : Hid (Old W1 W1) := Old.refl _
     obtain ⟨x0, x1, x2, x3, x4, x5, x6, x7⟩ := HS.out _ O0.out
     go_wp2_with (first
      | (go_at_call 103; refine (HEA.out _ (HW0.out.trans O3.out)).mono ?_; rintro e w4 ⟨rfl, o⟩; have O4 : Hid (Old W1 w4) := O3.out.trans o; clear o; clear x0 x1 x2 x3 x4 x5 x6 x7; obtain ⟨x0, x1, x2, x3, x4, x5, x6, x7⟩ := HS.out _ O4.out)
      | (go_at_call 51; refine (HBo.out _ (HW0.out.trans O2.out)).mono ?_; rintro e w3 ⟨rfl, o⟩; have O3 : Hid (Old W1 w3) := O2.out.trans o; clear o; clear x0 x1 x2 x3 x4 x5 x6 x7; obtain ⟨x0, x1, x2, x3, x4, x5, x6, x7⟩ := HS.out _ O3.out)
      | (go_at_call 51; refine (HBi.out _ (HW0.out.trans O1.out)).mono ?_; rintro e w2 ⟨rfl, o⟩; have O2 : Hid (Old W1 w2) := O1.out.trans o; clear o; clear x0 x1 x2 x3 x4 x5 x6 x7; obtain ⟨x0, x1, x2, x3, x4, x5, x6, x7⟩ := HS.out _ O2.out)
      | (go_at_call 52; refine (HIn.out _ (HW0.out.trans O0.out)).mono ?_; rintro e w1 ⟨rfl, o⟩; have O1 : Hid (Old W1 w1) := O0.out.trans o; clear o; clear x0 x1 x2 x3 x4 x5 x6 x7; obtain ⟨x0, x1, x2, x3, x4, x5, x6, x7⟩ := HS.out _ O1.out))
     go_ret
     exact ⟨by rw [HV.out]; rfl, HW0.out.trans O4.out⟩
    | true =>
     rw [hEA] at HEA
     cases hEB : elB P Q nb B with
     | false =>
      have HV : Hid (eltB P Q y l C no O na A nb B np Pp = false) := by unfold Hid eltB; simp [hEB]
      rw [hEB] at HEB
      go_enter func80, ntmps80
      go_upto_region 1 with fail
      generalize (w.alloc (.cells (gc P Q G H a m cap) 25)).alloc (.cells (tkc ba na ca X bb nb cb Y Z bp np cp) 41) = W1 at *
      have HG := hid HG0
      have HT := hid HT0
      clear HG0 HT0
      have HS := g8 HG.out HT.out
      clear HG HT
      generalize w.heap.size = gb at *
      have O0 : Hid (Old W1 W1) := Old.refl _
      obtain ⟨x0, x1, x2, x3, x4, x5, x6, x7⟩ := HS.out _ O0.out
      go_wp2_with (first
       | (go_at_call 103; refine (HEB.out _ (HW0.out.trans O4.out)).mono ?_; rintro e w5 ⟨rfl, o⟩; have O5 : Hid (Old W1 w5) := O4.out.trans o; clear o; clear x0 x1 x2 x3 x4 x5 x6 x7; obtain ⟨x0, x1, x2, x3, x4, x5, x6, x7⟩ := HS.out _ O5.out)
       | (go_at_call 103; refine (HEA.out _ (HW0.out.trans O3.out)).mono ?_; rintro e w4 ⟨rfl, o⟩; have O4 : Hid (Old W1 w4) := O3.out.trans o; clear o; clear x0 x1 x2 x3 x4 x5 x6 x7; obtain ⟨x0, x1, x2, x3, x4, x5, x6, x7⟩ := HS.out _ O4.out)
       | (go_at_call 51; refine (HBo.out _ (HW0.out.trans O2.out)).mono ?_; rintro e w3 ⟨rfl, o⟩; have O3 : Hid (Old W1 w3) := O2.out.trans o; clear o; clear x0 x1 x2 x3 x4 x5 x6 x7; obtain ⟨x0, x1, x2, x3, x4, x5, x6, x7⟩ := HS.out _ O3.out)
       | (go_at_call 51; refine (HBi.out _ (HW0.out.trans O1.out)).mono ?_; rintro e w2 ⟨rfl, o⟩; have O2 : Hid (Old W1 w2) := O1.out.trans o; clear o; clear x0 x1 x2 x3 x4 x5 x6 x7; obtain ⟨x0, x1, x2, x3, x4, x5, x6, x7⟩ := HS.out _ O2.out)
       | (go_at_call 52; refine (HIn.out _ (HW0.out.trans O0.out)).mono ?_; rintro e w1 ⟨rfl, o⟩; have O1 : Hid (Old W1 w1) := O0.out.trans o; clear o; clear x0 x1 x2 x3 x4 x5 x6 x7; obtain ⟨x0, x1, x2, x3, x4, x5, x6, x7⟩ := HS.out _ O1.out))
      go_ret
      exact ⟨by rw [HV.out]; rfl, HW0.out.trans O5.out⟩
     | true =>
      rw [hEB] at HEB
      cases hEP : elB P Q np Pp with
      | false =>
       have HV : Hid (eltB P Q y l C no O na A nb B np Pp = false) := by unfold Hid eltB; simp [hEP]
       rw [hEP] at HEP
       go_enter func80, ntmps80
       go_upto_region 1 with fail
       generalize (w.alloc (.cells (gc P Q G H a m cap) 25)).alloc (.cells (tkc ba na ca X bb nb cb Y Z bp np cp) 41) = W1 at *
       have HG := hid HG0
       have HT := hid HT0
       clear HG0 HT0
       have HS := g8 HG.out HT.out
       clear HG HT
       generalize w.heap.size = gb at *
       have O0 : Hid (Old W1 W1) := Old.refl _
       obtain ⟨x0, x1, x2, x3, x4, x5, x6, x7⟩ := HS.out _ O0.out
       go_wp2_with (first
        | (go_at_call 103; refine (HEP.out _ (HW0.out.trans O5.out)).mono ?_; rintro e w6 ⟨rfl, o⟩; have O6 : Hid (Old W1 w6) := O5.out.trans o; clear o; clear x0 x1 x2 x3 x4 x5 x6 x7; obtain ⟨x0, x1, x2, x3, x4, x5, x6, x7⟩ := HS.out _ O6.out)
        | (go_at_call 103; refine (HEB.out _ (HW0.out.trans O4.out)).mono ?_; rintro e w5 ⟨rfl, o⟩; have O5 : Hid (Old W1 w5) := O4.out.trans o; clear o; clear x0 x1 x2 x3 x4 x5 x6 x7; obtain ⟨x0, x1, x2, x3, x4, x5, x6, x7⟩ := HS.out _ O5.out)
        | (go_at_call 103; refine (HEA.out _ (HW0.out.trans O3.out)).mono ?_; rintro e w4 ⟨rfl, o⟩; have O4 : Hid (Old W1 w4) := O3.out.trans o; clear o; clear x0 x1 x2 x3 x4 x5 x6 x7; obtain ⟨x0, x1, x2, x3, x4, x5, x6, x7⟩ := HS.out _ O4.out)
        | (go_at_call 51; refine (HBo.out _ (HW0.out.trans O2.out)).mono ?_; rintro e w3 ⟨rfl, o⟩; have O3 : Hid (Old W1 w3) := O2.out.trans o; clear o; clear x0 x1 x2 x3 x4 x5 x6 x7; obtain ⟨x0, x1, x2, x3, x4, x5, x6, x7⟩ := HS.out _ O3.out)
        | (go_at_call 51; refine (HBi.out _ (HW0.out.trans O1.out)).mono ?_; rintro e w2 ⟨rfl, o⟩; have O2 : Hid (Old W1 w2) := O1.out.trans o; clear o; clear x0 x1 x2 x3 x4 x5 x6 x7; obtain ⟨x0, x1, x2, x3, x4, x5, x6, x7⟩ := HS.out _ O2.out)
        | (go_at_call 52; refine (HIn.out _ (HW0.out.trans O0.out)).mono ?_; rintro e w1 ⟨rfl, o⟩; have O1 : Hid (Old W1 w1) := O0.out.trans o; clear o; clear x0 x1 x2 x3 x4 x5 x6 x7; obtain ⟨x0, x1, x2, x3, x4, x5, x6, x7⟩ := HS.out _ O1.out))
       go_ret
       exact ⟨by rw [HV.out]; rfl, HW0.out.trans O6.out⟩
      | true =>
       rw [hEP] at HEP
       have HV : Hid (eltB P Q y l C no O na A nb B np Pp = true) := by unfold Hid eltB; simp [hIn, hBi, hBo, hEA, hEB, hEP]
       go_enter func80, ntmps80
       go_upto_region 1 with fail
       generalize (w.alloc (.cells (gc P Q G H a m cap) 25)).alloc (.cells (tkc ba na ca X bb nb cb Y Z bp np cp) 41) = W1 at *
       have HG := hid HG0
       have HT := hid HT0
       clear HG0 HT0
       have HS := g8 HG.out HT.out
       clear HG HT
       generalize w.heap.size = gb at *
       have O0 : Hid (Old W1 W1) := Old.refl _
       obtain ⟨x0, x1, x2, x3, x4, x5, x6, x7⟩ := HS.out _ O0.out
       go_wp2_with (first
        | (go_at_call 103; refine (HEP.out _ (HW0.out.trans O5.out)).mono ?_; rintro e w6 ⟨rfl, o⟩; have O6 : Hid (Old W1 w6) := O5.out.trans o; clear o; clear x0 x1 x2 x3 x4 x5 x6 x7; obtain ⟨x0, x1, x2, x3, x4, x5, x6, x7⟩ := HS.out _ O6.out)
        | (go_at_call 103; refine (HEB.out _ (HW0.out.trans O4.out)).mono ?_; rintro e w5 ⟨rfl, o⟩; have O5 : Hid (Old W1 w5) := O4.out.trans o; clear o; clear x0 x1 x2 x3 x4 x5 x6 x7; obtain ⟨x0, x1, x2, x3, x4, x5, x6, x7⟩ := HS.out _ O5.out)
        | (go_at_call 103; refine (HEA.out _ (HW0.out.trans O3.out)).mono ?_; rintro e w4 ⟨rfl, o⟩; have O4 : Hid (Old W1 w4) := O3.out.trans o; clear o; clear x0 x1 x2 x3 x4 x5 x6 x7; obtain ⟨x0, x1, x2, x3, x4, x5, x6, x7⟩ := HS.out _ O4.out)
        | (go_at_call 51; refine (HBo.out _ (HW0.out.trans O2.out)).mono ?_; rintro e w3 ⟨rfl, o⟩; have O3 : Hid (Old W1 w3) := O2.out.trans o; clear o; clear x0 x1 x2 x3 x4 x5 x6 x7; obtain ⟨x0, x1, x2, x3, x4, x5, x6, x7⟩ := HS.out _ O3.out)
        | (go_at_call 51; refine (HBi.out _ (HW0.out.trans O1.out)).mono ?_; rintro e w2 ⟨rfl, o⟩; have O2 : Hid (Old W1 w2) := O1.out.trans o; clear o; clear x0 x1 x2 x3 x4 x5 x6 x7; obtain ⟨x0, x1, x2, x3, x4, x5, x6, x7⟩ := HS.out _ O2.out)
        | (go_at_call 52; refine (HIn.out _ (HW0.out.trans O0.out)).mono ?_; rintro e w1 ⟨rfl, o⟩; have O1 : Hid (Old W1 w1) := O0.out.trans o; clear o; clear x0 x1 x2 x3 x4 x5 x6 x7; obtain ⟨x0, x1, x2, x3, x4, x5, x6, x7⟩ := HS.out _ O1.out))
       go_ret
       exact ⟨by rw [HV.out]; rfl, HW0.out.trans O6.out⟩
end
section
open Go.RowKit
theorem zau {w : World} {base : Nat} {e : TypeId} {size : Nat} {v : Value} {n : Nat} {xs : List Value} (h : w.ownsRow base e size v n xs) : ∃ b c, v = .slice b n c := by
 rcases h.2 with ⟨rfl, rfl⟩ | ⟨g, cap, cur, rfl, _⟩
 ·exact ⟨none, 0, rfl⟩
 ·exact ⟨_, cap, rfl⟩
def GivD (w : World) (ok : Bool) (nt : Nat) (T : NI) (L : Nat -> Nat) (B : NN) (r : Ending) (w' : World) : Prop :=
 Old w w' /\ ∃ v u, r = .returned (.tuple #[.agg #[v, u], .bool ok]) /\ Nums w' w.heap.size v (if ok then nt else 0) T /\ Rws w' w.heap.size u (if ok then nt else 0) L B
theorem givD_no {w W' wx : World} {b nt : Nat} {T : NI} {L : Nat -> Nat} {B : NN} {ok : Bool} (hk : ok = false) (hb : w.heap.size <= b) (h : Old w wx) : GivD w ok nt T L B (.returned (.tuple #[.agg #[.slice none 0 0, .slice none 0 0], .bool false])) ((wx.setCell ⟨b, 0, none⟩ (.slice none 0 0)).setCell ⟨b, 1, none⟩ (.slice none 0 0)) := by
 subst hk
 exact ⟨(h.setCell (p := ⟨b, 0, none⟩) hb _).setCell (p := ⟨b, 1, none⟩) hb _, _, _, rfl, zaD _ _ _, fun _ => none, fun _ => 0, World.ownsRow_nil _ _ _ _, fun j hj => by simp at hj⟩
theorem givD_yes {w w' : World} {b base nt : Nat} {T : NI} {L : Nat -> Nat} {B : NN} {ok : Bool} {v u : Value} (hk : ok = true) (hb : w.heap.size <= b) (hbb : b < base) (h : Old w w') (h1 : Nums w' base v nt T) (h2 : Rws w' base u nt L B) : GivD w ok nt T L B (.returned (.tuple #[.agg #[v, u], .bool true])) ((w'.setCell ⟨b, 0, none⟩ v).setCell ⟨b, 1, none⟩ u) := by
 subst hk
 exact ⟨(h.setCell (p := ⟨b, 0, none⟩) hb _).setCell (p := ⟨b, 1, none⟩) hb _, v, u, rfl, (ownsRow_setCell_below (ownsRow_setCell_below h1 (a := ⟨b, 0, none⟩) hbb _) (a := ⟨b, 1, none⟩) hbb _).mono (by omega), ((h2.below (p := ⟨b, 0, none⟩) hbb _).below (p := ⟨b, 1, none⟩) hbb _).mono (by omega)⟩
section
variable {P Q G H X Y Z y : Int} {n : Nat} {A B Pp : NI} {C O : NN}
theorem tgt_a {i : Nat} (h : i < n) : (tgtT P Q G X Y Z n A B Pp (fun j w => C j (2 * w)) (fun j w => C j (2 * w + 1))) i = A i := by unfold tgtT tgt8; rw [if_pos h]
theorem tgt_b {i : Nat} (h : i < n) : (tgtT P Q G X Y Z n A B Pp (fun j w => C j (2 * w)) (fun j w => C j (2 * w + 1))) (n + i) = B i := by unfold tgtT tgt8; rw [if_neg (by omega), if_pos (by omega)]; congr 1; omega
theorem tgt_d {i : Nat} (h : i < n) : (tgtT P Q G X Y Z n A B Pp (fun j w => C j (2 * w)) (fun j w => C j (2 * w + 1))) (2 * n + i) = bigI P Q G (A i) (B i) Y Z := by unfold tgtT tgt8; rw [if_neg (by omega), if_neg (by omega), if_pos (by omega), show 2 * n + i - 2 * n = i by omega]
theorem tgt_p {i : Nat} (h : i + 1 < n) : (tgtT P Q G X Y Z n A B Pp (fun j w => C j (2 * w)) (fun j w => C j (2 * w + 1))) (3 * n + i) = Pp (i + 1) := by unfold tgtT tgt8; rw [if_neg (by omega), if_neg (by omega), if_neg (by omega), if_pos (by omega)]; congr 1; omega
theorem tgt_l (h : 0 < n) : (tgtT P Q G X Y Z n A B Pp (fun j w => C j (2 * w)) (fun j w => C j (2 * w + 1))) (3 * n + (n - 1)) = lastI P Q G X Y Z n (Pp (n - 1)) := by unfold tgtT tgt8; rw [if_neg (by omega), if_neg (by omega), if_neg (by omega), if_neg (by omega), if_pos (by omega)]
theorem tgt_u {e : Nat} (h : 0 < n) : (tgtT P Q G X Y Z n A B Pp (fun j w => C j (2 * w)) (fun j w => C j (2 * w + 1))) (4 * n + 2 * e) = prodI P (fun j => expI P Q (C j (2 * e)) (powI X ((j : Int) + 1) Q)) n := by
 unfold tgtT tgt8
 rw [if_neg (by omega), if_neg (by omega), if_neg (by omega), if_neg (by omega), if_neg (by omega), show 4 * n + 2 * e - 4 * n = 2 * e by omega]
 unfold uvI
 rw [if_pos (by omega), show 2 * e / 2 = e by omega]
theorem tgt_v {e : Nat} (h : 0 < n) : (tgtT P Q G X Y Z n A B Pp (fun j w => C j (2 * w)) (fun j w => C j (2 * w + 1))) (4 * n + 2 * e + 1) = prodI P (fun j => expI P Q (C j (2 * e + 1)) (powI X ((j : Int) + 1) Q)) n := by
 unfold tgtT tgt8
 rw [if_neg (by omega), if_neg (by omega), if_neg (by omega), if_neg (by omega), if_neg (by omega), show 4 * n + 2 * e + 1 - 4 * n = 2 * e + 1 by omega]
 unfold uvI
 rw [if_neg (by omega), show (2 * e + 1) / 2 = e by omega]
theorem bas_a {i : Nat} (h : i < n) : (bas8 n Pp G H y (fun j w => O j (2 * w)) (fun j w => O j (2 * w + 1))) i = row28 i G (n + i) H := by unfold bas8; rw [if_pos h]
theorem bas_b {i : Nat} (h : i < n) : (bas8 n Pp G H y (fun j w => O j (2 * w)) (fun j w => O j (2 * w + 1))) (n + i) = row28 (2 * n + i) G (3 * n + i) H := by unfold bas8; rw [if_neg (by omega), if_pos (by omega), show n + i - n = i by omega]
theorem bas_d {i : Nat} (h : i < n) : (bas8 n Pp G H y (fun j w => O j (2 * w)) (fun j w => O j (2 * w + 1))) (2 * n + i) = row28 (4 * n + i) G (5 * n + i) H := by unfold bas8; rw [if_neg (by omega), if_neg (by omega), if_pos (by omega), show 2 * n + i - 2 * n = i by omega]
theorem bas_p {i : Nat} (h : i + 1 < n) : (bas8 n Pp G H y (fun j w => O j (2 * w)) (fun j w => O j (2 * w + 1))) (3 * n + i) = row28 (4 * n + (i + 1)) (Pp i) (6 * n + i) H := by unfold bas8; rw [if_neg (by omega), if_neg (by omega), if_neg (by omega), if_pos (by omega), show 3 * n + i - 3 * n = i by omega]
theorem bas_l (h : 0 < n) : (bas8 n Pp G H y (fun j w => O j (2 * w)) (fun j w => O j (2 * w + 1))) (3 * n + (n - 1)) = row18 (7 * n - 1) H := by unfold bas8; rw [if_neg (by omega), if_neg (by omega), if_neg (by omega), if_neg (by omega), if_pos (by omega)]
theorem bas_u {e : Nat} (h : 0 < n) : (bas8 n Pp G H y (fun j w => O j (2 * w)) (fun j w => O j (2 * w + 1))) (4 * n + 2 * e) = rowS8 (2 * n) n (fun i => O i (2 * e)) (7 * n + e) G := by
 unfold bas8
 rw [if_neg (by omega), if_neg (by omega), if_neg (by omega), if_neg (by omega), if_neg (by omega), show 4 * n + 2 * e - 4 * n = 2 * e by omega, if_pos (by omega), show 2 * e / 2 = e by omega]
theorem bas_v {e : Nat} (h : 0 < n) : (bas8 n Pp G H y (fun j w => O j (2 * w)) (fun j w => O j (2 * w + 1))) (4 * n + 2 * e + 1) = rowS8 (2 * n) n (fun i => O i (2 * e + 1)) (7 * n + e) y := by
 unfold bas8
 rw [if_neg (by omega), if_neg (by omega), if_neg (by omega), if_neg (by omega), if_neg (by omega), show 4 * n + 2 * e + 1 - 4 * n = 2 * e + 1 by omega, if_neg (by omega), show (2 * e + 1) / 2 = e by omega]
end
theorem LayB.new (W : World) (n : Nat) (Ks : List (Nat × Obj)) (T : NI) (R : NN) (hK : ∀ e, e ∈ Ks -> W.heap[e.1]? = some e.2) : LayB W W.heap.size n Ks T R 0 [] (W.alloc (.cells #[.int .i64 (n : Int), .slice none 0 0, .slice none 0 0] 109)) :=
 ⟨.slice none 0 0, .slice none 0 0, fun _ => 0, fun e he => by simp at he, ⟨(Old.refl _).alloc _, Nat.le_refl _, by simp, zaD _ _ _, World.ownsRow_nil _ _ _ _, fun j hj => by omega, fun i j hi => by omega, fun j hj => by omega, fun j hj => by omega, Or.inl rfl, fun e he => ⟨(((Old.refl W).alloc _).block _ (zag (hK e he))).trans (hK e he), Nat.ne_of_lt (zag (hK e he)), by simp [Value.ownBlock], by simp [Value.ownBlock], fun j hj => by omega⟩⟩, heap_alloc_last _ _⟩
theorem LayB.claim {W w : World} {s n k : Nat} {Ks : List (Nat × Obj)} {T : NI} {R : NN} (h : LayB W s n Ks T R k [] w) (hn : n <= 8) : ∃ v u, w.heap[s]? = some (.cells #[.int .i64 (n : Int), v, u] 109 (0, 0)) /\ Nums w (s + 1) v k T /\ Rws w (s + 1) u k (fun _ => 7 * n + 3) R :=
 let ⟨v, u, bk, _, h⟩ := h; ⟨v, u, h.row, h.ly.nums, fun j => some ⟨bk j, 0, none⟩, fun _ => 7 * n + 3, h.ly.own, fun j hj => (h.ly.full j hj).2.nums (h.ly.full j hj).1 (by omega)⟩
theorem lclm_any (P Q G H : Int) (a : OA) (m cap : Nat) (y : Int) (bi : OA) (ci : Nat) (C : NN) (bo : OA) (co : Nat) (O : NN) (ba : OA) (ca : Nat) (A : NI) (X : Int) (bb : OA) (cb : Nat) (B : NI) (Y Z : Int) (bp : OA) (cp : Nat) (Pp : NI) (n : Nat) (w : World) (h1n : 0 < n) (hn : n <= 8) (h4 : Four P Q G H) (hr : Righ P Q G) (hy : U64 y) (hX : U64 X) (hY : U64 Y) (hZ : U64 Z) (hC : BoxsIn w bi n C) (hO : BoxsIn w bo n O) (hA : FacsIn w ba n A) (hB : FacsIn w bb n B) (hP : FacsIn w bp n Pp) :
  Calls prog 28 #[gv P Q G H a m cap, .int .u64 y, .slice bi n ci, .slice bo n co, tk ba n ca X bb n cb Y Z bp n cp] w (GivD w (eltB P Q y n C n O n A n B n Pp && decide (Pp 0 = bigI P Q G (A 0) (B 0) Y Z)) (4 * n + 6) (tgtT P Q G X Y Z n A B Pp (fun j w => C j (2 * w)) (fun j w => C j (2 * w + 1))) (fun _ => 7 * n + 3) (bas8 n Pp G H y (fun j w => O j (2 * w)) (fun j w => O j (2 * w + 1)))) := by
 obtain ⟨T, hT⟩ : ∃ T, T = tgtT P Q G X Y Z n A B Pp (fun j w => C j (2 * w)) (fun j w => C j (2 * w + 1)) := ⟨_, rfl⟩
 obtain ⟨R, hR⟩ : ∃ R, R = bas8 n Pp G H y (fun j w => O j (2 * w)) (fun j w => O j (2 * w + 1)) := ⟨_, rfl⟩
 rw [<- hT, <- hR]
 have HCom : Hid (∀ (W : World) s Ks wx, Old w W -> LayB W s n Ks T R 0 [] wx -> Calls prog 81 #[.pointer (some ⟨s, 0, none⟩), gv P Q G H a m cap, tk ba n ca X bb n cb Y Z bp n cp] wx fun e w' => e = .returned (.tuple #[]) /\ LayB W s n Ks T R (3 * n) [] w') := fun W s Ks wx ho h => lcom_any W s n Ks T R P Q G H a m cap ba ca A X bb cb B Y Z bp n cp wx h1n hn h4 hr hY hZ (hA.old ho) (hB.old ho) (fun i hi => by rw [hT]; exact tgt_a hi) (fun i hi => by rw [hT]; exact tgt_b hi) (fun i hi => by rw [hT]; exact tgt_d hi) (fun i hi => by rw [hR]; exact bas_a hi) (fun i hi => by rw [hR]; exact bas_b hi) (fun i hi => by rw [hR]; exact bas_d hi) h
 have HPro : Hid (∀ (W : World) s Ks wx, Old w W -> LayB W s n Ks T R (3 * n) [] wx -> Calls prog 82 #[.pointer (some ⟨s, 0, none⟩), gv P Q G H a m cap, tk ba n ca X bb n cb Y Z bp n cp] wx fun e w' => e = .returned (.tuple #[]) /\ LayB W s n Ks T R (4 * n) [] w') := fun W s Ks wx ho h => lprod_any W s n Ks T R P Q G H a m cap ba n ca X bb n cb Y Z bp cp Pp wx h1n hn h4 hr hX hY hZ (hP.old ho) (fun i hi => by rw [hT]; exact tgt_p hi) (by rw [hT]; exact tgt_l h1n) (fun i hi => by rw [hR]; exact bas_p hi) (by rw [hR]; exact bas_l h1n) h
 have HSum : Hid (∀ (W : World) s Ks wx e, e < 3 -> Old w W -> LayB W s n Ks T R (4 * n + 2 * e) [] wx -> Calls prog 83 #[.pointer (some ⟨s, 0, none⟩), gv P Q G H a m cap, .int .u64 y, .slice bi n ci, .slice bo n co, tk ba n ca X bb n cb Y Z bp n cp, .int .i64 (e : Int)] wx fun r w' => r = .returned (.tuple #[]) /\ LayB W s n Ks T R (4 * n + 2 * e + 2) [] w') := fun W s Ks wx e he ho h => lsum_any W s n Ks T R P Q G H a m cap y bi ci C bo co O ba n ca X bb n cb Y Z bp n cp e (4 * n + 2 * e) wx h1n hn he (by omega) h4 hr hX (hC.old ho) (hO.old ho) (by rw [hT]; exact tgt_u h1n) (by rw [hT]; exact tgt_v h1n) (by rw [hR]; exact bas_u h1n) (by rw [hR]; exact bas_v h1n) h
 have HJ := hid fun wx (ho : Old w wx) => zcT P Q G H a m cap ba n ca A X bb n cb B Y Z bp n cp 0 wx h4 hr hY hZ (hA.old ho) (hB.old ho) h1n h1n
 have HE := hid fun wx (ho : Old w wx) => sallel_any P Q G H a m cap y bi n ci C bo n co O ba n ca A X bb n cb B Y Z bp n cp Pp wx h4 hy (by omega) (by omega) (hC.old ho) (hO.old ho) (by omega) (by omega) (by omega) (hA.old ho) (hB.old ho) (hP.old ho)
 have HSz : Hid (∀ wx, Calls prog 79 #[.slice bi n ci, .slice bo n co, tk ba n ca X bb n cb Y Z bp n cp] wx (Ret wx (.bool true))) := fun wx => by
  have := zcw bi n ci bo n co ba n ca X bb n cb Y Z bp n cp wx (by omega)
  rwa [show fitB n n n n n = true from zcB.2 ⟨⟨h1n, hn⟩, rfl, rfl, rfl, rfl⟩] at this
 rcases hP with h0 | ⟨bp, op, rfl, _, hrp⟩
 ·omega
 have HPc := hid fun wx (ho : Old w wx) => ho.cellOf (hrp 0 h1n).1
 clear hT hR hrp h4 hr hy hX hY hZ hC hO hA hB
 have HZ := lain3 w (gc P Q G H a m cap) (tkc ba n ca X bb n cb Y Z (some ⟨bp, op, none⟩) n cp) (cc none 0 0 none 0 0) 25 41 50
 have HG0 := fun w' ho => (HZ.then (W' := w') ho).row 0 (by simp)
 have HT0 := fun w' ho => (HZ.then (W' := w') ho).row 1 (by simp)
 have HC0 := fun w' ho => (HZ.then (W' := w') ho).row 2 (by simp)
 have HW0 := hid HZ.old
 clear HZ
 obtain ⟨D0, hD⟩ : ∃ D0, D0 = bigI P Q G (A 0) (B 0) Y Z := ⟨_, rfl⟩
 rw [<- hD] at HJ ⊢
 clear hD
 cases hE : eltB P Q y n C n O n A n B n Pp with
 | false =>
  rw [hE] at HE
  have HV : Hid ((false && decide (Pp 0 = D0)) = false) := rfl
  go_enter func28, ntmps28
  go_upto_region 1 with fail
  generalize ((w.alloc (.cells (gc P Q G H a m cap) 25)).alloc (.cells (tkc ba n ca X bb n cb Y Z (some ⟨bp, op, none⟩) n cp) 41)).alloc (.cells (cc none 0 0 none 0 0) 50) = W1 at *
  have HG := hid HG0
  have HTk := hid HT0
  have HCl := hid HC0
  clear HG0 HT0 HC0
  obtain ⟨gb, hgb⟩ : ∃ gb, gb = w.heap.size := ⟨_, rfl⟩
  rw [<- hgb] at HG HTk HCl
  rw [<- hgb]
  have Hgb : Hid (w.heap.size <= gb + 1 + 1) := by unfold Hid; omega
  clear hgb
  refine zaa 24 [.k (.slice bi n ci), .k (.slice bo n co), .k (tk ba n ca X bb n cb Y Z (some ⟨bp, op, none⟩) n cp), .k (.bool true), .k (.bool false), .k (.bool false), .k (gv P Q G H a m cap), .k (.int .u64 y), .k (.slice bi n ci), .k (.slice bo n co), .k (tk ba n ca X bb n cb Y Z (some ⟨bp, op, none⟩) n cp), .k (.bool false), .k (.bool true), .k (.bool true), .k (.bool true), .k undef, .k undef, .k undef, .k undef, .k undef, .k undef, .k undef, .k undef, .k (.bool true)] (Old W1) (by kernel_rfl) (by kernel_rfl) rfl ((Old.refl _).drew) ?st ?_
  case st =>
   refine .p <| .p <| .c (sts U41 HTk.out) <| .c (stK old_R func79 (fun wx _ => HSz.out wx)) <| .p <| .p <| .c (sts U25 HG.out) <| .p <| .p <| .p <| .c (sts U41 HTk.out) <| .c (stK old_R func80 (fun wx hR => HE.out wx (HW0.out.trans hR))) <| .p <| .p <| .p <| .c stn <| .c stn <| .c stn <| .c stn <| .c stn <| .c stn <| .c stn <| .c stn <| .c stp .n
  intro t wx hR hk
  simp only [fill, Ent.val, zs0, zs1, zd1, zd0, zdn]
  have hrow := HCl.out _ hR
  have q0 : wx.cell? ⟨gb + 1 + 1, 0, none⟩ = some (.slice none 0 0) := Y0 hrow
  have q1 : wx.cell? ⟨gb + 1 + 1, 1, none⟩ = some (.slice none 0 0) := Y1 hrow
  have f0 : wx.frozen? ⟨gb + 1 + 1, 0, none⟩ = false := zac hrow 0
  have f1 : wx.frozen? ⟨gb + 1 + 1, 1, none⟩ = false := zac hrow 1
  have HRh := hid hrow
  have HOw := hid (HW0.out.trans hR)
  clear hrow hR hk HCom HPro HSum HJ HE HSz HPc HG HTk HCl
  go_wp2_with fail
  exact bodyPost_ret (zay (b := gb + 1 + 1) rfl rfl rfl (zaW HRh.out U50 zbX)) rfl (givD_no (W' := wx) HV.out Hgb.out HOw.out)
 | true =>
  rw [hE] at HE
  by_cases hd : Pp 0 = D0
  ·have HV : Hid ((true && decide (Pp 0 = D0)) = true) := by unfold Hid; simp [hd]
   have hne : Value.bool (!(Pp 0 == D0)) = .bool false := by simp [hd]
   go_enter func28, ntmps28
   go_upto_region 1 with fail
   generalize ((w.alloc (.cells (gc P Q G H a m cap) 25)).alloc (.cells (tkc ba n ca X bb n cb Y Z (some ⟨bp, op, none⟩) n cp) 41)).alloc (.cells (cc none 0 0 none 0 0) 50) = W1 at *
   have HG := hid HG0
   have HTk := hid HT0
   have HCl := hid HC0
   clear HG0 HT0 HC0
   obtain ⟨gb, hgb⟩ : ∃ gb, gb = w.heap.size := ⟨_, rfl⟩
   rw [<- hgb] at HG HTk HCl
   rw [<- hgb]
   have Hgb : Hid (w.heap.size <= gb + 1 + 1) := by unfold Hid; omega
   clear hgb
   refine zaa 24 [.k (.slice bi n ci), .k (.slice bo n co), .k (tk ba n ca X bb n cb Y Z (some ⟨bp, op, none⟩) n cp), .k (.bool true), .k (.bool false), .k (.bool false), .k (gv P Q G H a m cap), .k (.int .u64 y), .k (.slice bi n ci), .k (.slice bo n co), .k (tk ba n ca X bb n cb Y Z (some ⟨bp, op, none⟩) n cp), .k (.bool true), .k (.bool false), .k (.bool false), .k (.bool false), .k (.pointer (some ⟨gb + 1, 5, none⟩)), .k (.slice (some ⟨bp, op, none⟩) n cp), .k (.pointer (some ⟨bp, op, none⟩)), .k (.int .u64 (Pp 0)), .k (gv P Q G H a m cap), .k (tk ba n ca X bb n cb Y Z (some ⟨bp, op, none⟩) n cp), .k (.int .u64 D0), .k (.bool false), .k (.bool false)] (Old W1) (by kernel_rfl) (by kernel_rfl) rfl ((Old.refl _).drew) ?st ?_
   case st =>
    refine .p <| .p <| .c (sts U41 HTk.out) <| .c (stK old_R func79 (fun wx _ => HSz.out wx)) <| .p <| .p <| .c (sts U25 HG.out) <| .p <| .p <| .p <| .c (sts U41 HTk.out) <| .c (stK old_R func80 (fun wx hR => HE.out wx (HW0.out.trans hR))) <| .p <| .p <| .p <| .p <| .c (stf 5 U29 HTk.out) <| .c (sti (n := n) (c := cp) (i := 0) h1n U29) <| .c (stl U22 (fun wx hx => HPc.out wx (HW0.out.trans hx))) <| .c (sts U25 HG.out) <| .c (sts U41 HTk.out) <| .c (stK old_R func63 (fun wx hR => HJ.out wx (HW0.out.trans hR))) <| .c (stv (v' := .bool (!(Pp 0 == D0))) hne) <| .c stp .n
   intro t wx hR hk
   simp only [fill, Ent.val, zs0, zs1, zd1, zd0, zdn]
   have HOw := hid (HW0.out.trans hR)
   have hs0 : gb + 1 + 1 < wx.heap.size := zag (HCl.out _ hR)
   obtain ⟨K, hK⟩ : ∃ K, K = [(gb, Obj.cells (gc P Q G H a m cap) 25 (0, 0)), (gb + 1, Obj.cells (tkc ba n ca X bb n cb Y Z (some ⟨bp, op, none⟩) n cp) 41 (0, 0)), (gb + 1 + 1, Obj.cells (cc none 0 0 none 0 0) 50 (0, 0))] := ⟨_, rfl⟩
   have HK1 : Hid ((gb, Obj.cells (gc P Q G H a m cap) 25 (0, 0)) ∈ K) := by unfold Hid; rw [hK]; simp
   have HK2 : Hid ((gb + 1, Obj.cells (tkc ba n ca X bb n cb Y Z (some ⟨bp, op, none⟩) n cp) 41 (0, 0)) ∈ K) := by unfold Hid; rw [hK]; simp
   have HK3 : Hid ((gb + 1 + 1, Obj.cells (cc none 0 0 none 0 0) 50 (0, 0)) ∈ K) := by unfold Hid; rw [hK]; simp
   have HL0 : Hid (LayB wx wx.heap.size n K T R 0 [] (wx.alloc (.cells #[.int .i64 (n : Int), .slice none 0 0, .slice none 0 0] 109))) := LayB.new wx n K T R (by
    rw [hK]; intro e he; simp only [List.mem_cons, List.not_mem_nil, or_false] at he
    rcases he with rfl | rfl | rfl
    ·exact HG.out _ hR
    ·exact HTk.out _ hR
    ·exact HCl.out _ hR)
   clear hK hR hk HJ HE HSz HPc HG HTk HCl HW0
   go_upto_region 4 with fail
   generalize wx.alloc (.cells #[.int .i64 (n : Int), .slice none 0 0, .slice none 0 0] 109) = w3 at *
   obtain ⟨s, hs⟩ : ∃ s, s = wx.heap.size := ⟨_, rfl⟩
   rw [<- hs] at HL0 hs0
   rw [<- hs]
   clear hs
   have HX : Hid (∀ wz k, LayB wx s n K T R k [] wz -> wz.cell? ⟨gb, 0, none⟩ = some (.int .u64 P) /\ wz.cell? ⟨gb, 1, none⟩ = some (.int .u64 Q) /\ wz.cell? ⟨gb, 2, none⟩ = some (.int .u64 G) /\ wz.cell? ⟨gb, 3, none⟩ = some (.int .u64 H) /\ wz.cell? ⟨gb, 4, none⟩ = some (.slice a m cap) /\ wz.cell? ⟨gb + 1, 0, none⟩ = some (.slice ba n ca) /\ wz.cell? ⟨gb + 1, 1, none⟩ = some (.int .u64 X) /\ wz.cell? ⟨gb + 1, 2, none⟩ = some (.slice bb n cb) /\ wz.cell? ⟨gb + 1, 3, none⟩ = some (.int .u64 Y) /\ wz.cell? ⟨gb + 1, 4, none⟩ = some (.int .u64 Z) /\ wz.cell? ⟨gb + 1, 5, none⟩ = some (.slice (some ⟨bp, op, none⟩) n cp)) := fun wz k hz => ⟨Y0 (hz.prot HK1.out), Y1 (hz.prot HK1.out), Y2 (hz.prot HK1.out), Y3 (hz.prot HK1.out), Y4 (hz.prot HK1.out), Y0 (hz.prot HK2.out), Y1 (hz.prot HK2.out), Y2 (hz.prot HK2.out), Y3 (hz.prot HK2.out), Y4 (hz.prot HK2.out), Y5 (hz.prot HK2.out)⟩
   have HCc := hid fun wz k (hz : LayB wx s n K T R k [] wz) => hz.prot HK3.out
   clear HK1 HK2 HK3
   obtain ⟨x0, x1, x2, x3, x4, x5, x6, x7, x8, x9, x10⟩ := HX.out _ _ HL0.out
   go_upto_region 5 with (go_at_call 81; refine (HCom.out wx s K _ HOw.out HL0.out).mono ?_; rintro e w4 ⟨rfl, hl⟩)
   have HL4 := hid hl
   clear hl HL0 HCom x0 x1 x2 x3 x4 x5 x6 x7 x8 x9 x10
   obtain ⟨x0, x1, x2, x3, x4, x5, x6, x7, x8, x9, x10⟩ := HX.out _ _ HL4.out
   go_upto_region 6 with (go_at_call 82; refine (HPro.out wx s K _ HOw.out HL4.out).mono ?_; rintro e w5 ⟨rfl, hl⟩)
   have HL5 := hid hl
   clear hl HL4 HPro x0 x1 x2 x3 x4 x5 x6 x7 x8 x9 x10
   go_upto_region 7 with fail
   go_loopw [48] (fun iv wz => ∃ e : Nat, iv = .int .i64 (e : Int) /\ e <= 3 /\ Hid (LayB wx s n K T R (4 * n + 2 * e) [] wz)) (fun iv _ => 3 - (intOf iv).toNat)
   case atStart => exact ⟨0, rfl, Nat.zero_le _, HL5⟩
   case round =>
    obtain ⟨e, rfl, he, HL⟩ := hrel
    by_cases hlt : e < 3
    ·have i1 : (e : Int) < 3 := by omega
     obtain ⟨x0, x1, x2, x3, x4, x5, x6, x7, x8, x9, x10⟩ := HX.out _ _ HL.out
     go_upto_region 10 with (go_at_call 83; refine (HSum.out wx s K _ e hlt HOw.out HL.out).mono ?_; rintro r w6 ⟨rfl, hl⟩)
     have HN : Hid (LayB wx s n K T R (4 * n + 2 * (e + 1)) [] w6) := by rw [show 4 * n + 2 * e + 2 = 4 * n + 2 * (e + 1) by omega] at hl; exact hl
     clear hl HL x0 x1 x2 x3 x4 x5 x6 x7 x8 x9 x10
     go_wp2_with fail
     go_roundw
     case rel => exact ⟨e + 1, zab e, by omega, HN⟩
     case measure => simp [intOf]; omega
    ·have he3 : e = 3 := by omega
     subst he3
     obtain ⟨v, u, hrow, hN, hRw⟩ := HL.out.claim hn
     have hcl := HCc.out _ _ HL.out
     obtain ⟨bt, ct, rfl⟩ := zau hN
     obtain ⟨b2, c2, rfl⟩ := zau hRw.choose_spec.choose_spec.1
     have c1 : wr.cell? ⟨s, 1, none⟩ = some (.slice bt (4 * n + 2 * 3) ct) := Y1 hrow
     have c2' : wr.cell? ⟨s, 2, none⟩ = some (.slice b2 (4 * n + 2 * 3) c2) := Y2 hrow
     have q0 : wr.cell? ⟨gb + 1 + 1, 0, none⟩ = some (.slice none 0 0) := Y0 hcl
     have q1 : wr.cell? ⟨gb + 1 + 1, 1, none⟩ = some (.slice none 0 0) := Y1 hcl
     have f0 : wr.frozen? ⟨gb + 1 + 1, 0, none⟩ = false := zac hcl 0
     have f1 : wr.frozen? ⟨gb + 1 + 1, 1, none⟩ = false := zac hcl 1
     have HRh := hid hcl
     have HNn := hid hN
     have HRn := hid hRw
     have HOe := hid (HOw.out.trans HL.out.old)
     clear hrow hN hRw hcl HL HSum HX HCc HL5 HOw
     go_wp2_with fail
     exact bodyPost_ret (zay (b := gb + 1 + 1) rfl rfl rfl (zaW HRh.out U50 zbX)) rfl (givD_yes HV.out Hgb.out (by omega) HOe.out HNn.out HRn.out)
  ·have HV : Hid ((true && decide (Pp 0 = D0)) = false) := by unfold Hid; simp [hd]
   have hne : Value.bool (!(Pp 0 == D0)) = .bool true := by simp [hd]
   go_enter func28, ntmps28
   go_upto_region 1 with fail
   generalize ((w.alloc (.cells (gc P Q G H a m cap) 25)).alloc (.cells (tkc ba n ca X bb n cb Y Z (some ⟨bp, op, none⟩) n cp) 41)).alloc (.cells (cc none 0 0 none 0 0) 50) = W1 at *
   have HG := hid HG0
   have HTk := hid HT0
   have HCl := hid HC0
   clear HG0 HT0 HC0
   obtain ⟨gb, hgb⟩ : ∃ gb, gb = w.heap.size := ⟨_, rfl⟩
   rw [<- hgb] at HG HTk HCl
   rw [<- hgb]
   have Hgb : Hid (w.heap.size <= gb + 1 + 1) := by unfold Hid; omega
   clear hgb
   refine zaa 24 [.k (.slice bi n ci), .k (.slice bo n co), .k (tk ba n ca X bb n cb Y Z (some ⟨bp, op, none⟩) n cp), .k (.bool true), .k (.bool false), .k (.bool false), .k (gv P Q G H a m cap), .k (.int .u64 y), .k (.slice bi n ci), .k (.slice bo n co), .k (tk ba n ca X bb n cb Y Z (some ⟨bp, op, none⟩) n cp), .k (.bool true), .k (.bool false), .k (.bool false), .k (.bool false), .k (.pointer (some ⟨gb + 1, 5, none⟩)), .k (.slice (some ⟨bp, op, none⟩) n cp), .k (.pointer (some ⟨bp, op, none⟩)), .k (.int .u64 (Pp 0)), .k (gv P Q G H a m cap), .k (tk ba n ca X bb n cb Y Z (some ⟨bp, op, none⟩) n cp), .k (.int .u64 D0), .k (.bool true), .k (.bool true)] (Old W1) (by kernel_rfl) (by kernel_rfl) rfl ((Old.refl _).drew) ?st ?_
   case st =>
    refine .p <| .p <| .c (sts U41 HTk.out) <| .c (stK old_R func79 (fun wx _ => HSz.out wx)) <| .p <| .p <| .c (sts U25 HG.out) <| .p <| .p <| .p <| .c (sts U41 HTk.out) <| .c (stK old_R func80 (fun wx hR => HE.out wx (HW0.out.trans hR))) <| .p <| .p <| .p <| .p <| .c (stf 5 U29 HTk.out) <| .c (sti (n := n) (c := cp) (i := 0) h1n U29) <| .c (stl U22 (fun wx hx => HPc.out wx (HW0.out.trans hx))) <| .c (sts U25 HG.out) <| .c (sts U41 HTk.out) <| .c (stK old_R func63 (fun wx hR => HJ.out wx (HW0.out.trans hR))) <| .c (stv (v' := .bool (!(Pp 0 == D0))) hne) <| .c stp .n
   intro t wx hR hk
   simp only [fill, Ent.val, zs0, zs1, zd1, zd0, zdn]
   have hrow := HCl.out _ hR
   have q0 : wx.cell? ⟨gb + 1 + 1, 0, none⟩ = some (.slice none 0 0) := Y0 hrow
   have q1 : wx.cell? ⟨gb + 1 + 1, 1, none⟩ = some (.slice none 0 0) := Y1 hrow
   have f0 : wx.frozen? ⟨gb + 1 + 1, 0, none⟩ = false := zac hrow 0
   have f1 : wx.frozen? ⟨gb + 1 + 1, 1, none⟩ = false := zac hrow 1
   have HRh := hid hrow
   have HOw := hid (HW0.out.trans hR)
   clear hrow hR hk HCom HPro HSum HJ HE HSz HPc HG HTk HCl
   go_wp2_with fail
   exact bodyPost_ret (zay (b := gb + 1 + 1) rfl rfl rfl (zaW HRh.out U50 zbX)) rfl (givD_no (W' := wx) HV.out Hgb.out HOw.out)
def clmB (P Q G y : Int) (l : Nat) (C : NN) (no : Nat) (O : NN) (na : Nat) (A : NI) (nb : Nat) (B : NI) (np : Nat) (Pp : NI) (Y Z : Int) : Bool := fitB l no na nb np && (eltB P Q y l C no O na A nb B np Pp && decide (Pp 0 = bigI P Q G (A 0) (B 0) Y Z))
theorem zfg (P Q G H : Int) (a : OA) (m cap : Nat) (y : Int) (bi : OA) (l ci : Nat) (C : NN) (bo : OA) (no co : Nat) (O : NN) (ba : OA) (na ca : Nat) (A : NI) (X : Int) (bb : OA) (nb cb : Nat) (B : NI) (Y Z : Int) (bp : OA) (np cp : Nat) (Pp : NI) (w : World) (hl : l <= 9223372036854775807) (h4 : Four P Q G H) (hr : Righ P Q G) (hy : U64 y) (hX : U64 X) (hY : U64 Y) (hZ : U64 Z) (hC : BoxsIn w bi l C) (hO : BoxsIn w bo no O) (hA : FacsIn w ba na A) (hB : FacsIn w bb nb B) (hP : FacsIn w bp np Pp) :
  Calls prog 28 #[gv P Q G H a m cap, .int .u64 y, .slice bi l ci, .slice bo no co, tk ba na ca X bb nb cb Y Z bp np cp] w (GivD w (clmB P Q G y l C no O na A nb B np Pp Y Z) (4 * l + 6) (tgtT P Q G X Y Z l A B Pp (fun j w => C j (2 * w)) (fun j w => C j (2 * w + 1))) (fun _ => 7 * l + 3) (bas8 l Pp G H y (fun j w => O j (2 * w)) (fun j w => O j (2 * w + 1)))) := by
 cases hf : fitB l no na nb np with
 | true =>
  obtain ⟨⟨h1, h8⟩, e1, e2, e3, e4⟩ := zcB.1 hf
  subst e1 e2 e3 e4
  unfold clmB
  rw [hf, Bool.true_and]
  exact lclm_any P Q G H a m cap y bi ci C bo co O ba ca A X bb cb B Y Z bp cp Pp _ w h1 h8 h4 hr hy hX hY hZ hC hO hA hB hP
 | false =>
  have HV : Hid (clmB P Q G y l C no O na A nb B np Pp Y Z = false) := by unfold Hid clmB; rw [hf]; rfl
  have HSz : Hid (∀ wx, Calls prog 79 #[.slice bi l ci, .slice bo no co, tk ba na ca X bb nb cb Y Z bp np cp] wx (Ret wx (.bool false))) := fun wx => by
   have := zcw bi l ci bo no co ba na ca X bb nb cb Y Z bp np cp wx hl
   rwa [hf] at this
  have HZ := lain3 w (gc P Q G H a m cap) (tkc ba na ca X bb nb cb Y Z bp np cp) (cc none 0 0 none 0 0) 25 41 50
  have HT0 := fun w' ho => (HZ.then (W' := w') ho).row 1 (by simp)
  have HC0 := fun w' ho => (HZ.then (W' := w') ho).row 2 (by simp)
  have HW0 := hid HZ.old
  clear HZ h4 hr hy hX hY hZ hC hO hA hB hP hl hf
  generalize clmB P Q G y l C no O na A nb B np Pp Y Z = ok at *
  generalize tgtT P Q G X Y Z l A B Pp (fun j w => C j (2 * w)) (fun j w => C j (2 * w + 1)) = T at *
  generalize bas8 l Pp G H y (fun j w => O j (2 * w)) (fun j w => O j (2 * w + 1)) = R at *
  go_enter func28, ntmps28
  go_upto_region 1 with fail
  generalize ((w.alloc (.cells (gc P Q G H a m cap) 25)).alloc (.cells (tkc ba na ca X bb nb cb Y Z bp np cp) 41)).alloc (.cells (cc none 0 0 none 0 0) 50) = W1 at *
  have HTk := hid HT0
  have HCl := hid HC0
  clear HT0 HC0
  obtain ⟨gb, hgb⟩ : ∃ gb, gb = w.heap.size := ⟨_, rfl⟩
  rw [<- hgb] at HTk HCl
  rw [<- hgb]
  have Hgb : Hid (w.heap.size <= gb + 1 + 1) := by unfold Hid; omega
  clear hgb
  refine zaa 24 [.k (.slice bi l ci), .k (.slice bo no co), .k (tk ba na ca X bb nb cb Y Z bp np cp), .k (.bool false), .k (.bool true), .k (.bool true), .k undef, .k undef, .k undef, .k undef, .k undef, .k undef, .k undef, .k (.bool true), .k (.bool true), .k undef, .k undef, .k undef, .k undef, .k undef, .k undef, .k undef, .k undef, .k (.bool true)] (Old W1) (by kernel_rfl) (by kernel_rfl) rfl ((Old.refl _).drew) ?st ?_
  case st =>
   refine .p <| .p <| .c (sts U41 HTk.out) <| .c (stK old_R func79 (fun wx _ => HSz.out wx)) <| .p <| .p <| .c stn <| .c stn <| .c stn <| .c stn <| .c stn <| .c stn <| .c stn <| .p <| .p <| .c stn <| .c stn <| .c stn <| .c stn <| .c stn <| .c stn <| .c stn <| .c stn <| .c stp .n
  intro t wx hR hk
  simp only [fill, Ent.val, zs0, zs1, zd1, zd0, zdn]
  have hrow := HCl.out _ hR
  have q0 : wx.cell? ⟨gb + 1 + 1, 0, none⟩ = some (.slice none 0 0) := Y0 hrow
  have q1 : wx.cell? ⟨gb + 1 + 1, 1, none⟩ = some (.slice none 0 0) := Y1 hrow
  have f0 : wx.frozen? ⟨gb + 1 + 1, 0, none⟩ = false := zac hrow 0
  have f1 : wx.frozen? ⟨gb + 1 + 1, 1, none⟩ = false := zac hrow 1
  have HRh := hid hrow
  have HOw := hid (HW0.out.trans hR)
  clear hrow hR hk HSz HTk HCl
  go_wp2_with fail
  exact bodyPost_ret (zay (b := gb + 1 + 1) rfl rfl rfl (zaW HRh.out U50 zbX)) rfl (givD_no (W' := wx) HV.out Hgb.out HOw.out)
end
end Go.Proofs.YtlnmjbbpenhdbaaGreat
