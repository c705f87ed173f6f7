/-
  What the proof needs, part 18.
-/
import Derived.Test.YtlnmjbbpenhdbaaGreatKp12
import Derived.Test.YtlnmjbbpenhdbaaGreatKp10
import Derived.Test.YtlnmjbbpenhdbaaGreatKp05
namespace Go.Proofs.YtlnmjbbpenhdbaaGreat
set_option linter.unusedSimpArgs false
set_option linter.unusedVariables false
set_option maxRecDepth 100000
set_option maxHeartbeats 32000000
section
open Go Go.RowKit
def knownBut (E : List Ent) (i : Nat) : Bool := (List.range E.length).all fun k => decide (k = i) || (match E[k]? with | some (.k _) => true | _ => false)
theorem resT_store {E : List Ent} {R : World -> Prop} {e : Ent} {wx w' : World} {i : Nat} (hk : knownBut E i = true) (hE : E[i]? = some e) (h : R w') (he : ∀ v, e.ok v w') : ResT E R e wx undef w' := by
 refine ⟨h, fun k x hx => ?_, he _⟩
 unfold okAt at hx ⊢
 by_cases hki : k = i
 · subst hki; rw [hE]; exact he x
 · cases hEk : E[k]? with
  | none => trivial
  | some e' =>
   rw [hEk] at hx
   have hlt : k < E.length := (List.getElem?_eq_some_iff.1 hEk).1
   have := List.all_eq_true.1 hk k (List.mem_range.2 hlt)
   rw [hEk] at this
   cases e' with
   | k v => exact hx
   | u F hF => simp [hki] at this
def setR (Bs : Nat -> Nat -> Int) (r p : Nat) (x : Int) : Nat -> Nat -> Int := fun j => if j = r then (fun q => if q = p then x else Bs r q) else Bs j
def LayB (W : World) (s n : Nat) (Ks : List (Nat × Obj)) (T : Nat -> Int) (Bs : Nat -> Nat -> Int) (k : Nat) (bl : List (Nat × Nat)) (wx : World) : Prop :=
 ∃ v u bk, (∀ e, e ∈ bl -> e.1 < k /\ bk e.1 = e.2) /\ LayS W s n Ks T Bs k v u bk wx
section
variable {W w w' : World} {s n : Nat} {Ks : List (Nat × Obj)} {T : Nat -> Int} {Bs : Nat -> Nat -> Int} {k : Nat} {bl : List (Nat × Nat)}
theorem LayB.old' (h : LayB W s n Ks T Bs k bl w) (ho : Old w w') : LayB W s n Ks T Bs k bl w' := let ⟨v, u, bk, hb, h⟩ := h; ⟨v, u, bk, hb, h.old' ho⟩
theorem LayB.congr {Bs' : Nat -> Nat -> Int} (h : LayB W s n Ks T Bs k bl w) (he : ∀ j, j < k -> ∀ q, q < 7 * n + 3 -> Bs j q = Bs' j q) : LayB W s n Ks T Bs' k bl w := let ⟨v, u, bk, hb, h⟩ := h; ⟨v, u, bk, hb, h.congr he⟩
theorem LayB.less {Ks' : List (Nat × Obj)} (h : LayB W s n Ks T Bs k bl w) (he : ∀ e, e ∈ Ks' -> e ∈ Ks) : LayB W s n Ks' T Bs k bl w := let ⟨v, u, bk, hb, h⟩ := h; ⟨v, u, bk, hb, h.less he⟩
theorem LayB.more (h : LayB W s n Ks T Bs k bl w) (o : Obj) : LayB W s n ((w.heap.size, o) :: Ks) T Bs k bl (w.alloc o) := let ⟨v, u, bk, hb, h⟩ := h; ⟨v, u, bk, hb, h.more o⟩
theorem LayB.drop {bl' : List (Nat × Nat)} (h : LayB W s n Ks T Bs k bl w) (he : ∀ e, e ∈ bl' -> e ∈ bl) : LayB W s n Ks T Bs k bl' w := let ⟨v, u, bk, hb, h⟩ := h; ⟨v, u, bk, fun e hm => hb e (he e hm), h⟩
theorem LayB.old (h : LayB W s n Ks T Bs k bl w) : Old W w := let ⟨_, _, _, _, h⟩ := h; h.ly.old
theorem LayB.prot (h : LayB W s n Ks T Bs k bl w) {b : Nat} {o : Obj} (he : (b, o) ∈ Ks) : w.heap[b]? = some o := let ⟨_, _, _, _, h⟩ := h; (h.ly.prot _ he).1
theorem LayB.row (h : LayB W s n Ks T Bs k bl w) : ∃ v u, w.heap[s]? = some (.cells #[.int .i64 (n : Int), v, u] 109 (0, 0)) := let ⟨v, u, _, _, h⟩ := h; ⟨v, u, h.row⟩
theorem LayB.full (h : LayB W s n Ks T Bs k bl w) {r b : Nat} (he : (r, b) ∈ bl) : Full w b (7 * n + 3) (Bs r) := by
 obtain ⟨v, u, bk, hb, h⟩ := h
 obtain ⟨h1, h2⟩ := hb _ he
 have := (h.ly.full r h1).2
 rwa [h2] at this
theorem LayB.cell (h : LayB W s n Ks T Bs k bl w) {r b : Nat} (he : (r, b) ∈ bl) (p : Nat) (x : Int) : LayB W s n Ks T (setR Bs r p x) k bl (w.setCell ⟨b, p, none⟩ (.int .u64 x)) := by
 obtain ⟨v, u, bk, hb, h⟩ := h
 obtain ⟨h1, h2⟩ := hb _ he
 have h2' : bk r = b := h2
 have := h.cell (p := p) h1 x
 rw [h2] at this
 exact ⟨v, u, bk, hb, this⟩
end
theorem ladd8 (W : World) (s n : Nat) (Ks : List (Nat × Obj)) (T : Nat -> Int) (B : Nat -> Nat -> Int) (k : Nat) (bl : List (Nat × Nat)) (x : Int) (w : World) (hn : n <= 8) (hk : k <= 100) (hx : T k = x) (h : LayB W s n Ks T B k bl w) :
  Calls Tryz.prog 113 #[.pointer (some ⟨s, 0, none⟩), .int .u64 x] w fun e w' => ∃ b, e = .returned (.slice (some ⟨b, 0, none⟩) (7 * n + 3) (7 * n + 3)) /\ LayB W s n Ks T (ones8 B k) (k + 1) ((k, b) :: bl) w' := by
 obtain ⟨v, u, bk, hb, h⟩ := h
 refine (ladd_any W s n Ks T B k v u bk x w hn hk hx h).mono fun e w' ⟨v', u', b, he, hl⟩ => ⟨b, he, v', u', _, fun e hm => ?_, hl⟩
 rcases List.mem_cons.1 hm with rfl | hm
 · exact ⟨Nat.lt_succ_self _, if_pos rfl⟩
 · obtain ⟨h1, h2⟩ := hb e hm
  exact ⟨by omega, by rw [if_neg (by omega)]; exact h2⟩
def Lay1 (W : World) (s n : Nat) (Ks : List (Nat × Obj)) (T : Nat -> Int) (R : Nat -> Nat -> Int) (k b p : Nat) (wx : World) : Prop := ∃ c, LayB W s n Ks T (setR (ones8 R k) k p c) (k + 1) [(k, b)] wx
section
variable {W w w' : World} {s n : Nat} {Ks : List (Nat × Obj)} {T : Nat -> Int} {R : Nat -> Nat -> Int} {k b p : Nat}
theorem Lay1.old (w w' : World) (h : Lay1 W s n Ks T R k b p w) (ho : Old w w') : Lay1 W s n Ks T R k b p w' := let ⟨c, h⟩ := h; ⟨c, h.old' ho⟩
theorem Lay1.row (h : Lay1 W s n Ks T R k b p w) : ∃ v u, w.heap[s]? = some (.cells #[.int .i64 (n : Int), v, u] 109 (0, 0)) := let ⟨_, h⟩ := h; h.row
theorem Lay1.prot (h : Lay1 W s n Ks T R k b p w) {b' : Nat} {o : Obj} (he : (b', o) ∈ Ks) : w.heap[b']? = some o := let ⟨_, h⟩ := h; h.prot he
theorem Lay1.of (h : LayB W s n Ks T (ones8 R k) (k + 1) [(k, b)] w) : Lay1 W s n Ks T R k b p w := ⟨ones8 R k k p, h.congr fun j hj q _ => by
 unfold setR
 by_cases hjk : j = k
 · subst hjk; rw [if_pos rfl]; by_cases hq : q = p
  · subst hq; simp
  · simp [hq]
 · rw [if_neg hjk]⟩
def laySet (W : World) (s n : Nat) (Ks : List (Nat × Obj)) (T : Nat -> Int) (R : Nat -> Nat -> Int) (k b p : Nat) (x : Int) : Ent := .u (fun _ w => LayB W s n Ks T (setR (ones8 R k) k p x) (k + 1) [(k, b)] w) fun _ _ _ h ho => h.old' ho
theorem Lay1.store (h : Lay1 W s n Ks T R k b p w) (x : Int) : LayB W s n Ks T (setR (ones8 R k) k p x) (k + 1) [(k, b)] (w.setCell ⟨b, p, none⟩ (.int .u64 x)) := by
 obtain ⟨c, h⟩ := h
 refine (h.cell List.mem_cons_self p x).congr fun j _ q _ => ?_
 unfold setR
 by_cases hjk : j = k
 · subst hjk; simp only [if_true]; by_cases hq : q = p
  · simp [hq]
  · simp [hq]
 · simp [hjk]
theorem Lay1.full (h : Lay1 W s n Ks T R k b p w) : ∃ F, Full w b (7 * n + 3) F := let ⟨_, h⟩ := h; ⟨_, h.full List.mem_cons_self⟩
theorem lay_stS {E : List Ent} {i : Nat} {x : Int} (hk : knownBut E i = true) (hE : E[i]? = some (laySet W s n Ks T R k b p x)) (hp : p < 7 * n + 3) (wx : World) (h : Lay1 W s n Ks T R k b p wx) :
  (∃ o, wx.cell? ⟨b, p, none⟩ = some o) /\ wx.frozen? ⟨b, p, none⟩ = false /\ ResT E (Lay1 W s n Ks T R k b p) (laySet W s n Ks T R k b p x) wx undef (wx.setCell ⟨b, p, none⟩ (.int .u64 x)) := by
 obtain ⟨F, hF⟩ := h.full
 exact ⟨⟨_, hF.cell p hp⟩, hF.free p, resT_store hk hE ⟨x, h.store x⟩ fun _ => h.store x⟩
theorem LayB.fin28 {x z : Int} {q : Nat} {bl : List (Nat × Nat)} (h : LayB W s n Ks T (setR (setR (ones8 R k) k p x) k q z) (k + 1) bl w) (hpq : p ≠ q) (hR : R k = row28 p x q z) : LayB W s n Ks T R (k + 1) [] w := by
 refine (h.drop (bl' := []) (by simp)).congr fun j hj r _ => ?_
 unfold setR ones8
 by_cases hjk : j = k
 · subst hjk
  rw [hR]
  unfold row28
  simp only [if_true, Nat.lt_irrefl, if_false]
  by_cases h1 : r = q
  · subst h1; simp [Ne.symm hpq]
  · simp [h1]
 · simp [hjk, show j < k by omega]
end
end
section
open Go.RowKit
theorem lcom_any (W : World) (s n : Nat) (Ks : List (Nat × Obj)) (T : Nat -> Int) (R : Nat -> Nat -> Int) (P Q G H : Int) (a : Option Addr) (m cap : Nat) (ba : Option Addr) (ca : Nat) (A : Nat -> Int) (X : Int) (bb : Option Addr) (cb : Nat) (B : Nat -> Int) (Y Z : Int) (bp : Option Addr) (np cp : Nat) (w : World) (h0n : 0 < n) (hn : n <= 8) (h4 : Four P Q G H) (hr : Righ P Q G) (hY : U64 Y) (hZ : U64 Z) (hA : FacsIn W ba n A) (hB : FacsIn W bb n B)
  (hT1 : ∀ i, i < n -> T i = A i) (hT2 : ∀ i, i < n -> T (n + i) = B i) (hT3 : ∀ i, i < n -> T (2 * n + i) = bigI P Q G (A i) (B i) Y Z)
  (hR1 : ∀ i, i < n -> R i = row28 i G (n + i) H) (hR2 : ∀ i, i < n -> R (n + i) = row28 (2 * n + i) G (3 * n + i) H) (hR3 : ∀ i, i < n -> R (2 * n + i) = row28 (4 * n + i) G (5 * n + i) H)
  (h : LayB W s n Ks T R 0 [] w) :
  Calls Tryz.prog 81 #[.pointer (some ⟨s, 0, none⟩), gv P Q G H a m cap, tk ba n ca X bb n cb Y Z bp np cp] w fun e w' => e = .returned (.tuple #[]) /\ LayB W s n Ks T R (3 * n) [] w' := by
 have HJ : Hid (∀ i wx, i < n -> Old W wx -> Calls Tryz.prog 63 #[gv P Q G H a m cap, tk ba n ca X bb n cb Y Z bp np cp, .int .i64 (i : Int)] wx (Ret wx (.int .u64 (bigI P Q G (A i) (B i) Y Z)))) := fun i wx hi ho => sjoined_any P Q G H a m cap ba n ca A X bb n cb B Y Z bp np cp i wx h4 hr hY hZ (hA.old ho) (hB.old ho) hi hi
 rcases hA with h0 | ⟨ba, oa, rfl, hba, hra⟩
 · omega
 rcases hB with h0 | ⟨bb, ob, rfl, hbb, hrb⟩
 · omega
 have HL0 : Hid (LayB W s n ((w.heap.size + 1, .cells (tkc (some ⟨ba, oa, none⟩) n ca X (some ⟨bb, ob, none⟩) n cb Y Z bp np cp) 41 (0, 0)) :: (w.heap.size, .cells (gc P Q G H a m cap) 25 (0, 0)) :: Ks) T R 0 [] ((w.alloc (.cells (gc P Q G H a m cap) 25)).alloc (.cells (tkc (some ⟨ba, oa, none⟩) n ca X (some ⟨bb, ob, none⟩) n cb Y Z bp np cp) 41))) := by
  have := (h.more (.cells (gc P Q G H a m cap) 25 (0, 0))).more (.cells (tkc (some ⟨ba, oa, none⟩) n ca X (some ⟨bb, ob, none⟩) n cb Y Z bp np cp) 41 (0, 0))
  unfold Hid; simpa using this
 have HT1 : Hid (∀ i, i < n -> T i = A i) := hT1
 have HT2 : Hid (∀ i, i < n -> T (n + i) = B i) := hT2
 have HT3 : Hid (∀ i, i < n -> T (2 * n + i) = bigI P Q G (A i) (B i) Y Z) := hT3
 have HR1 : Hid (∀ i, i < n -> R i = row28 i G (n + i) H) := hR1
 have HR2 : Hid (∀ i, i < n -> R (n + i) = row28 (2 * n + i) G (3 * n + i) H) := hR2
 have HR3 : Hid (∀ i, i < n -> R (2 * n + i) = row28 (4 * n + i) G (5 * n + i) H) := hR3
 have HAc : Hid (∀ i wx, i < n -> Old W wx -> wx.cell? ⟨ba, oa + i, none⟩ = some (.int .u64 (A i))) := fun i wx hi ho => ho.cellOf (hra i hi).1
 have HBc : Hid (∀ i wx, i < n -> Old W wx -> wx.cell? ⟨bb, ob + i, none⟩ = some (.int .u64 (B i))) := fun i wx hi ho => ho.cellOf (hrb i hi).1
 clear h h4 hr hY hZ hra hrb hba hbb hT1 hT2 hT3 hR1 hR2 hR3
 obtain ⟨K2, hK2⟩ : ∃ K2, K2 = (w.heap.size + 1, .cells (tkc (some ⟨ba, oa, none⟩) n ca X (some ⟨bb, ob, none⟩) n cb Y Z bp np cp) 41 (0, 0)) :: (w.heap.size, .cells (gc P Q G H a m cap) 25 (0, 0)) :: Ks := ⟨_, rfl⟩
 rw [<- hK2] at HL0
 have HgK : Hid ((w.heap.size, .cells (gc P Q G H a m cap) 25 (0, 0)) ∈ K2) := by unfold Hid; rw [hK2]; simp
 have HtK : Hid ((w.heap.size + 1, .cells (tkc (some ⟨ba, oa, none⟩) n ca X (some ⟨bb, ob, none⟩) n cb Y Z bp np cp) 41 (0, 0)) ∈ K2) := by unfold Hid; rw [hK2]; simp
 have HKs : Hid (∀ e, e ∈ Ks -> e ∈ K2) := by unfold Hid; rw [hK2]; intro e he; simp [he]
 clear hK2
 go_enter Tryz.func81, Tryz.ntmps81
 go_upto_region 1 with fail
 generalize (w.alloc (.cells (gc P Q G H a m cap) 25)).alloc (.cells (tkc (some ⟨ba, oa, none⟩) n ca X (some ⟨bb, ob, none⟩) n cb Y Z bp np cp) 41) = W1 at *
 generalize w.heap.size = gb at *
 have c0 : W1.cell? ⟨gb + 1, 0, none⟩ = some (.slice (some ⟨ba, oa, none⟩) n ca) := cell_of_row _ _ 0 _ _ (0, 0) (HL0.out.prot HtK.out)
 go_upto_region 2 with fail
 clear c0
 go_loopw [17] (fun iv wx => ∃ i : Nat, iv = .int .i64 (i : Int) /\ i <= n /\ Hid (LayB W s n K2 T R (i) [] wx)) (fun iv _ => n - (intOf iv).toNat)
 case atStart => exact ⟨0, rfl, Nat.zero_le _, HL0⟩
 case round =>
  obtain ⟨i, rfl, hi, HL⟩ := hrel
  by_cases hlt : i < n
  · have HTk : Hid (T (i) = A i) := HT1.out i hlt
   have HRk : Hid (R (i) = row28 (i) G (n + i) H) := HR1.out i hlt
   have cA := HAc.out i wr hlt HL.out.old
   go_upto_region 5 with (go_at_call 113; refine (ladd8 W s n K2 T R (i) [] (A i) _ hn (by omega) HTk.out HL.out).mono ?_; rintro e w1 ⟨b, rfl, hl⟩)
   have HA : Hid (LayB W s n K2 T (ones8 R (i)) (i + 1) [(i, b)] w1) := hl
   clear hl HL HTk
   obtain ⟨p, hp⟩ : ∃ p, p = i := ⟨_, rfl⟩
   obtain ⟨q, hq⟩ : ∃ q, q = n + i := ⟨_, rfl⟩
   have HM1 : Hid (∀ wx, Lay1 W s n K2 T R (i) b p wx -> Calls Tryz.prog 114 #[.pointer (some ⟨s, 0, none⟩), .int .i64 (i : Int)] wx (Ret wx (.int .i64 (p : Int)))) := fun wx hR => by rw [hp]; exact lm_a s i wx
   have HM2 : Hid (∀ wx, Lay1 W s n K2 T R (i) b p wx -> Calls Tryz.prog 115 #[.pointer (some ⟨s, 0, none⟩), .int .i64 (i : Int)] wx (Ret wx (.int .i64 (q : Int)))) := fun wx hR => (by obtain ⟨v, u, hrow⟩ := hR.row; rw [hq]; exact lm_r s n i v u wx hn (by omega) hrow)
   have hp8 : p < 7 * n + 3 := by omega
   have hq8 : q < 7 * n + 3 := by omega
   have hpq : p ≠ q := by omega
   have HRow : Hid (R (i) = row28 p G q H) := by unfold Hid; rw [hp, hq]; exact HRk.out
   have HGr : Hid (∀ wx, Lay1 W s n K2 T R (i) b p wx -> wx.heap[gb]? = some (.cells (gc P Q G H a m cap) 25 (0, 0))) := fun wx hR => hR.prot HgK.out
   clear hp hq HRk
   refine wp_region_tab 14 [.k (.slice (some ⟨b, 0, none⟩) (7 * n + 3) (7 * n + 3)), .k (.pointer (some ⟨s, 0, none⟩)), .k (.int .i64 (i : Int)), .k (.int .i64 (p : Int)), .k (.slice (some ⟨b, 0, none⟩) (7 * n + 3) (7 * n + 3)), .k (.pointer (some ⟨s, 0, none⟩)), .k (.int .i64 (i : Int)), .k (.int .i64 (q : Int)), .k (.pointer (some ⟨gb, 2, none⟩)), .k (.int .u64 G), .k (.pointer (some ⟨gb, 3, none⟩)), .k (.int .u64 H), .k (.pointer (some ⟨b, p, none⟩)), laySet W s n K2 T R (i) b p G] (Lay1 W s n K2 T R (i) b p) (by kernel_rfl) (by kernel_rfl) rfl (Lay1.old _ _ (Lay1.of HA.out) (Old.refl _).drew) ?st ?_
   case st =>
    refine .c stp <| .c stp <| .c stp <| .c (stK Lay1.old Tryz.func114 (fun wx hR => HM1.out wx hR)) <| .c stp <| .c stp <| .c stp <| .c (stK Lay1.old Tryz.func115 (fun wx hR => HM2.out wx hR)) <| .c stp <| .c (stf 2 Tryz.underlying22 HGr.out) <| .c stp <| .c (stf 3 Tryz.underlying22 HGr.out) <| .c (sti0 (n := (7 * n + 3)) (c := (7 * n + 3)) hp8 Tryz.underlying29) <| .c (stS (p := ⟨b, p, none⟩) (v := .int .u64 G) (fun _ => lay_stS (i := 13) rfl rfl hp8)) .n
   intro t wx hR hk
   simp only [fill, Ent.val, laySet, List.set_cons_zero, List.set_cons_succ, List.drop_succ_cons, List.drop_zero, List.drop_nil]
   have hl : LayB W s n K2 T (setR (ones8 R (i)) (i) p G) (i + 1) [(i, b)] wx := hk 13 (by omega)
   have q1 := (hl.full List.mem_cons_self).cell q hq8
   have f1 := (hl.full List.mem_cons_self).free q
   have HN : Hid (LayB W s n K2 T R (i + 1) [] (wx.setCell ⟨b, q, none⟩ (.int .u64 H))) := (hl.cell List.mem_cons_self q H).fin28 hpq HRow.out
   clear hl hk hR HA HM1 HM2 HGr HRow
   go_wp2_with fail
   go_roundw
   case rel => exact ⟨i + 1, idx_next i, by omega, HN⟩
   case measure => simp [intOf]; omega
  · have he : n = i := by omega
   subst he
   have c2 : wr.cell? ⟨gb + 1, 2, none⟩ = some (.slice (some ⟨bb, ob, none⟩) n cb) := cell_of_row _ _ 2 _ _ (0, 0) (HL.out.prot HtK.out)
   have HLn : Hid (LayB W s n K2 T R (n + 0) [] wr) := HL
   clear HL HL0
   go_upto_region 8 with fail
   clear c2
   go_loopw [43] (fun iv wx => ∃ i : Nat, iv = .int .i64 (i : Int) /\ i <= n /\ Hid (LayB W s n K2 T R (n + i) [] wx)) (fun iv _ => n - (intOf iv).toNat)
   case atStart => exact ⟨0, rfl, Nat.zero_le _, HLn⟩
   case round =>
    obtain ⟨i, rfl, hi, HL⟩ := hrel
    by_cases hlt : i < n
    · have HTk : Hid (T (n + i) = B i) := HT2.out i hlt
     have HRk : Hid (R (n + i) = row28 (2 * n + i) G (3 * n + i) H) := HR2.out i hlt
     have cB := HBc.out i wr hlt HL.out.old
     go_upto_region 11 with (go_at_call 113; refine (ladd8 W s n K2 T R (n + i) [] (B i) _ hn (by omega) HTk.out HL.out).mono ?_; rintro e w1 ⟨b, rfl, hl⟩)
     have HA : Hid (LayB W s n K2 T (ones8 R (n + i)) (n + i + 1) [(n + i, b)] w1) := hl
     clear hl HL HTk
     obtain ⟨p, hp⟩ : ∃ p, p = 2 * n + i := ⟨_, rfl⟩
     obtain ⟨q, hq⟩ : ∃ q, q = 3 * n + i := ⟨_, rfl⟩
     have HM1 : Hid (∀ wx, Lay1 W s n K2 T R (n + i) b p wx -> Calls Tryz.prog 116 #[.pointer (some ⟨s, 0, none⟩), .int .i64 (i : Int)] wx (Ret wx (.int .i64 (p : Int)))) := fun wx hR => (by obtain ⟨v, u, hrow⟩ := hR.row; rw [hp]; exact lm_b s n i v u wx hn (by omega) hrow)
     have HM2 : Hid (∀ wx, Lay1 W s n K2 T R (n + i) b p wx -> Calls Tryz.prog 117 #[.pointer (some ⟨s, 0, none⟩), .int .i64 (i : Int)] wx (Ret wx (.int .i64 (q : Int)))) := fun wx hR => (by obtain ⟨v, u, hrow⟩ := hR.row; rw [hq]; exact lm_s s n i v u wx hn (by omega) hrow)
     have hp8 : p < 7 * n + 3 := by omega
     have hq8 : q < 7 * n + 3 := by omega
     have hpq : p ≠ q := by omega
     have HRow : Hid (R (n + i) = row28 p G q H) := by unfold Hid; rw [hp, hq]; exact HRk.out
     have HGr : Hid (∀ wx, Lay1 W s n K2 T R (n + i) b p wx -> wx.heap[gb]? = some (.cells (gc P Q G H a m cap) 25 (0, 0))) := fun wx hR => hR.prot HgK.out
     clear hp hq HRk
     refine wp_region_tab 14 [.k (.slice (some ⟨b, 0, none⟩) (7 * n + 3) (7 * n + 3)), .k (.pointer (some ⟨s, 0, none⟩)), .k (.int .i64 (i : Int)), .k (.int .i64 (p : Int)), .k (.slice (some ⟨b, 0, none⟩) (7 * n + 3) (7 * n + 3)), .k (.pointer (some ⟨s, 0, none⟩)), .k (.int .i64 (i : Int)), .k (.int .i64 (q : Int)), .k (.pointer (some ⟨gb, 2, none⟩)), .k (.int .u64 G), .k (.pointer (some ⟨gb, 3, none⟩)), .k (.int .u64 H), .k (.pointer (some ⟨b, p, none⟩)), laySet W s n K2 T R (n + i) b p G] (Lay1 W s n K2 T R (n + i) b p) (by kernel_rfl) (by kernel_rfl) rfl (Lay1.old _ _ (Lay1.of HA.out) (Old.refl _).drew) ?st ?_
     case st =>
      refine .c stp <| .c stp <| .c stp <| .c (stK Lay1.old Tryz.func116 (fun wx hR => HM1.out wx hR)) <| .c stp <| .c stp <| .c stp <| .c (stK Lay1.old Tryz.func117 (fun wx hR => HM2.out wx hR)) <| .c stp <| .c (stf 2 Tryz.underlying22 HGr.out) <| .c stp <| .c (stf 3 Tryz.underlying22 HGr.out) <| .c (sti0 (n := (7 * n + 3)) (c := (7 * n + 3)) hp8 Tryz.underlying29) <| .c (stS (p := ⟨b, p, none⟩) (v := .int .u64 G) (fun _ => lay_stS (i := 13) rfl rfl hp8)) .n
     intro t wx hR hk
     simp only [fill, Ent.val, laySet, List.set_cons_zero, List.set_cons_succ, List.drop_succ_cons, List.drop_zero, List.drop_nil]
     have hl : LayB W s n K2 T (setR (ones8 R (n + i)) (n + i) p G) (n + i + 1) [(n + i, b)] wx := hk 13 (by omega)
     have q1 := (hl.full List.mem_cons_self).cell q hq8
     have f1 := (hl.full List.mem_cons_self).free q
     have HN : Hid (LayB W s n K2 T R (n + i + 1) [] (wx.setCell ⟨b, q, none⟩ (.int .u64 H))) := (hl.cell List.mem_cons_self q H).fin28 hpq HRow.out
     clear hl hk hR HA HM1 HM2 HGr HRow
     go_wp2_with fail
     go_roundw
     case rel => exact ⟨i + 1, idx_next i, by omega, HN⟩
     case measure => simp [intOf]; omega
    · have he : n = i := by omega
     subst he
     have HLm : Hid (LayB W s n K2 T R (2 * n + 0) [] wr) := by have := HL.out; rw [show n + n = 2 * n + 0 by omega] at this; exact this
     obtain ⟨v0, u0, hrow⟩ := HL.out.row
     have c3 : wr.cell? ⟨s, 0, none⟩ = some (.int .i64 (n : Int)) := cell_of_row _ _ 0 _ _ (0, 0) hrow
     clear HL HLn hrow
     go_upto_region 14 with fail
     clear c3
     go_loopw [70] (fun iv wx => ∃ i : Nat, iv = .int .i64 (i : Int) /\ i <= n /\ Hid (LayB W s n K2 T R (2 * n + i) [] wx)) (fun iv _ => n - (intOf iv).toNat)
     case atStart => exact ⟨0, rfl, Nat.zero_le _, HLm⟩
     case round =>
      obtain ⟨i, rfl, hi, HL⟩ := hrel
      by_cases hlt : i < n
      · have HTk : Hid (T (2 * n + i) = bigI P Q G (A i) (B i) Y Z) := HT3.out i hlt
       have HRk : Hid (R (2 * n + i) = row28 (4 * n + i) G (5 * n + i) H) := HR3.out i hlt
       have g0 := cell_of_row _ _ 0 _ _ (0, 0) (HL.out.prot HgK.out)
       have g1 := cell_of_row _ _ 1 _ _ (0, 0) (HL.out.prot HgK.out)
       have g2 := cell_of_row _ _ 2 _ _ (0, 0) (HL.out.prot HgK.out)
       have g3 := cell_of_row _ _ 3 _ _ (0, 0) (HL.out.prot HgK.out)
       have g4 := cell_of_row _ _ 4 _ _ (0, 0) (HL.out.prot HgK.out)
       have t0 := cell_of_row _ _ 0 _ _ (0, 0) (HL.out.prot HtK.out)
       have t1 := cell_of_row _ _ 1 _ _ (0, 0) (HL.out.prot HtK.out)
       have t2 := cell_of_row _ _ 2 _ _ (0, 0) (HL.out.prot HtK.out)
       have t3 := cell_of_row _ _ 3 _ _ (0, 0) (HL.out.prot HtK.out)
       have t4 := cell_of_row _ _ 4 _ _ (0, 0) (HL.out.prot HtK.out)
       have t5 := cell_of_row _ _ 5 _ _ (0, 0) (HL.out.prot HtK.out)
       go_upto_region 17 with (first | (go_at_call 63; refine (HJ.out i _ hlt HL.out.old).mono ?_; rintro e w0 ⟨rfl, o0⟩; have HLj : Hid (LayB W s n K2 T R (2 * n + i) [] w0) := HL.out.old' o0; clear g0 g1 g2 g3 g4 t0 t1 t2 t3 t4 t5) | (go_at_call 113; refine (ladd8 W s n K2 T R (2 * n + i) [] _ _ hn (by omega) HTk.out HLj.out).mono ?_; rintro e w1 ⟨b, rfl, hl⟩))
       have HA : Hid (LayB W s n K2 T (ones8 R (2 * n + i)) (2 * n + i + 1) [(2 * n + i, b)] w1) := hl
       clear hl HL HTk
       obtain ⟨p, hp⟩ : ∃ p, p = 4 * n + i := ⟨_, rfl⟩
       obtain ⟨q, hq⟩ : ∃ q, q = 5 * n + i := ⟨_, rfl⟩
       have HM1 : Hid (∀ wx, Lay1 W s n K2 T R (2 * n + i) b p wx -> Calls Tryz.prog 118 #[.pointer (some ⟨s, 0, none⟩), .int .i64 (i : Int)] wx (Ret wx (.int .i64 (p : Int)))) := fun wx hR => (by obtain ⟨v, u, hrow⟩ := hR.row; rw [hp]; exact lm_d s n i v u wx hn (by omega) hrow)
       have HM2 : Hid (∀ wx, Lay1 W s n K2 T R (2 * n + i) b p wx -> Calls Tryz.prog 119 #[.pointer (some ⟨s, 0, none⟩), .int .i64 (i : Int)] wx (Ret wx (.int .i64 (q : Int)))) := fun wx hR => (by obtain ⟨v, u, hrow⟩ := hR.row; rw [hq]; exact lm_u s n i v u wx hn (by omega) hrow)
       have hp8 : p < 7 * n + 3 := by omega
       have hq8 : q < 7 * n + 3 := by omega
       have hpq : p ≠ q := by omega
       have HRow : Hid (R (2 * n + i) = row28 p G q H) := by unfold Hid; rw [hp, hq]; exact HRk.out
       have HGr : Hid (∀ wx, Lay1 W s n K2 T R (2 * n + i) b p wx -> wx.heap[gb]? = some (.cells (gc P Q G H a m cap) 25 (0, 0))) := fun wx hR => hR.prot HgK.out
       clear hp hq HRk
       refine wp_region_tab 14 [.k (.slice (some ⟨b, 0, none⟩) (7 * n + 3) (7 * n + 3)), .k (.pointer (some ⟨s, 0, none⟩)), .k (.int .i64 (i : Int)), .k (.int .i64 (p : Int)), .k (.slice (some ⟨b, 0, none⟩) (7 * n + 3) (7 * n + 3)), .k (.pointer (some ⟨s, 0, none⟩)), .k (.int .i64 (i : Int)), .k (.int .i64 (q : Int)), .k (.pointer (some ⟨gb, 2, none⟩)), .k (.int .u64 G), .k (.pointer (some ⟨gb, 3, none⟩)), .k (.int .u64 H), .k (.pointer (some ⟨b, p, none⟩)), laySet W s n K2 T R (2 * n + i) b p G] (Lay1 W s n K2 T R (2 * n + i) b p) (by kernel_rfl) (by kernel_rfl) rfl (Lay1.old _ _ (Lay1.of HA.out) (Old.refl _).drew) ?st ?_
       case st =>
        refine .c stp <| .c stp <| .c stp <| .c (stK Lay1.old Tryz.func118 (fun wx hR => HM1.out wx hR)) <| .c stp <| .c stp <| .c stp <| .c (stK Lay1.old Tryz.func119 (fun wx hR => HM2.out wx hR)) <| .c stp <| .c (stf 2 Tryz.underlying22 HGr.out) <| .c stp <| .c (stf 3 Tryz.underlying22 HGr.out) <| .c (sti0 (n := (7 * n + 3)) (c := (7 * n + 3)) hp8 Tryz.underlying29) <| .c (stS (p := ⟨b, p, none⟩) (v := .int .u64 G) (fun _ => lay_stS (i := 13) rfl rfl hp8)) .n
       intro t wx hR hk
       simp only [fill, Ent.val, laySet, List.set_cons_zero, List.set_cons_succ, List.drop_succ_cons, List.drop_zero, List.drop_nil]
       have hl : LayB W s n K2 T (setR (ones8 R (2 * n + i)) (2 * n + i) p G) (2 * n + i + 1) [(2 * n + i, b)] wx := hk 13 (by omega)
       have q1 := (hl.full List.mem_cons_self).cell q hq8
       have f1 := (hl.full List.mem_cons_self).free q
       have HN : Hid (LayB W s n K2 T R (2 * n + i + 1) [] (wx.setCell ⟨b, q, none⟩ (.int .u64 H))) := (hl.cell List.mem_cons_self q H).fin28 hpq HRow.out
       clear hl hk hR HA HM1 HM2 HGr HRow
       go_wp2_with fail
       go_roundw
       case rel => exact ⟨i + 1, idx_next i, by omega, HN⟩
       case measure => simp [intOf]; omega
      · have he : n = i := by omega
       subst he
       have HE : Hid (LayB W s n Ks T R (3 * n) [] wr) := by have := HL.out.less HKs.out; rw [show 2 * n + n = 3 * n by omega] at this; exact this
       clear HL HLm
       go_wp2_with fail
       go_end0
       exact ⟨rfl, HE.out⟩
end
section
open Go.RowKit
theorem int_u64 (q : Nat) (h : q <= 1000) : Value.int .u64 (IntKind.u64.wrap (q : Int)) = .int .u64 (q : Int) := by
 rw [IntKind.wrap_u64]
 congr 1
 omega
theorem spf_any (P Q G H : Int) (a : Option Addr) (n cap : Nat) (ba : Option Addr) (na ca : Nat) (X : Int) (bb : Option Addr) (nb cb : Nat) (Y Z : Int) (bp : Option Addr) (np cp : Nat) (m : Nat) (w : World) (hm : m <= 100) (hX : U64 X) (hY : U64 Y) (hZ : U64 Z) :
  Calls Tryz.prog 121 #[gv P Q G H a n cap, tk ba na ca X bb nb cb Y Z bp np cp, .int .i64 (m : Int)] w (Ret w (.int .u64 (prodI Q (kF Q X Y Z) m))) := by
 have HF : Hid (∀ i wx, i < m -> Calls Tryz.prog 66 #[gv P Q G H a n cap, tk ba na ca X bb nb cb Y Z bp np cp, .int .u64 ((i + 1 : Nat) : Int)] wx (Ret wx (.int .u64 (kF Q X Y Z i)))) := fun i wx hi => sfactor_any P Q G H a n cap ba na ca X bb nb cb Y Z bp np cp ((i + 1 : Nat) : Int) wx hX hY hZ ⟨by omega, by omega⟩
 have HFu : Hid (∀ i, U64 (kF Q X Y Z i)) := fun i => by unfold kF subI; exact ⟨(subI_bd _ _ _).1, Int.le_trans (subI_bd _ _ _).2 (by decide)⟩
 have HZ := lain2 w (gc P Q G H a n cap) (tkc ba na ca X bb nb cb Y Z bp np cp) 25 41
 have HG0 := fun w' ho => (HZ.then (W' := w') ho).row 0 (by simp)
 have HT0 := fun w' ho => (HZ.then (W' := w') ho).row 1 (by simp)
 have HW0 : Hid (Old w ((w.alloc (.cells (gc P Q G H a n cap) 25)).alloc (.cells (tkc ba na ca X bb nb cb Y Z bp np cp) 41))) := HZ.old
 clear HZ hX hY hZ
 go_enter Tryz.func121, Tryz.ntmps121
 go_upto_region 1 with fail
 generalize (w.alloc (.cells (gc P Q G H a n cap) 25)).alloc (.cells (tkc ba na ca X bb nb cb Y Z bp np cp) 41) = W at *
 have HG : Hid (∀ wx, Old W wx -> wx.heap[w.heap.size]? = some (.cells (gc P Q G H a n cap) 25 (0, 0))) := HG0
 have HT : Hid (∀ wx, Old W wx -> wx.heap[w.heap.size + 1]? = some (.cells (tkc ba na ca X bb nb cb Y Z bp np cp) 41 (0, 0))) := HT0
 clear HG0 HT0
 generalize w.heap.size = gb at *
 go_upto_region 3 with fail
 go_loopw [7, 8] (fun v iv wx => ∃ i : Nat, iv = .int .i64 ((i + 1 : Nat) : Int) /\ i <= m /\ v = .int .u64 (prodI Q (kF Q X Y Z) i) /\ Hid (Old W wx)) (fun _ iv _ => m + 1 - (intOf iv).toNat)
 case atStart => exact ⟨0, rfl, by omega, rfl, Old.refl _⟩
 case round =>
  obtain ⟨i, rfl, hi, rfl, HO⟩ := hrel
  by_cases hlt : i < m
  · have hlt' : i + 1 <= m := hlt
   have HGr : Hid (∀ wx, Old wr wx -> wx.heap[gb]? = some (.cells (gc P Q G H a n cap) 25 (0, 0))) := fun wx hx => HG.out _ (HO.out.trans hx)
   have HTr : Hid (∀ wx, Old wr wx -> wx.heap[gb + 1]? = some (.cells (tkc ba na ca X bb nb cb Y Z bp np cp) 41 (0, 0))) := fun wx hx => HT.out _ (HO.out.trans hx)
   have HFi : Hid (∀ wx, Calls Tryz.prog 66 #[gv P Q G H a n cap, tk ba na ca X bb nb cb Y Z bp np cp, .int .u64 ((i + 1 : Nat) : Int)] wx (Ret wx (.int .u64 (kF Q X Y Z i)))) := fun wx => HF.out i wx hlt
   have HPu : Hid (U64 (prodI Q (kF Q X Y Z) i)) := prodI_bd _ _ _
   go_upto_region 5 with fail
   refine wp_region_tab 9 [.k (.int .u64 (prodI Q (kF Q X Y Z) i)), .k (gv P Q G H a n cap), .k (tk ba na ca X bb nb cb Y Z bp np cp), .k (.int .i64 ((i + 1 : Nat) : Int)), .k (.int .u64 ((i + 1 : Nat) : Int)), .k (.int .u64 (kF Q X Y Z i)), .k (.pointer (some ⟨gb, 1, none⟩)), .k (.int .u64 Q), .k (.int .u64 (mulI (prodI Q (kF Q X Y Z) i) (kF Q X Y Z i) Q))] (Old wr) (by kernel_rfl) (by kernel_rfl) rfl ((Old.refl _).drew) ?st ?_
   case st =>
    refine .c stp <| .c (sts Tryz.underlying25 HGr.out) <| .c (sts Tryz.underlying41 HTr.out) <| .c stp <| .c (stv (v' := .int .u64 (IntKind.u64.wrap ((i + 1 : Nat) : Int))) (int_u64 (i + 1) (by omega))) <| .c (stK old_R Tryz.func66 (fun wx _ => HFi.out wx)) <| .c stp <| .c (stf 1 Tryz.underlying22 HGr.out) <| .c (stK old_R Tryz.func72 (fun wx _ => smul_any _ _ Q HPu.out (HFu.out i) wx)) .n
   intro t wx hR hk
   simp only [fill, Ent.val, List.set_cons_zero, List.set_cons_succ, List.drop_succ_cons, List.drop_zero, List.drop_nil]
   have HN : Hid (Old W wx) := HO.out.trans hR
   clear hR hk HO HGr HTr HFi HPu
   go_wp2_with fail
   go_roundw
   case rel => exact ⟨i + 1, idx_next (i + 1), by omega, rfl, HN⟩
   case measure => simp [intOf]; omega
  · have he : m = i := by omega
   subst he
   have HE : Hid (Old w wr) := HW0.out.trans HO.out
   go_wp2_with fail
   go_ret
   exact ⟨by rfl, HE.out⟩
end
section
open Go.RowKit
section
variable {W w w' : World} {s n : Nat} {Ks : List (Nat × Obj)} {T : Nat -> Int} {R : Nat -> Nat -> Int} {k b p : Nat}
theorem Lay1.oldW (h : Lay1 W s n Ks T R k b p w) : Old W w := let ⟨_, h⟩ := h; h.old
theorem LayB.fin18 {x : Int} {bl : List (Nat × Nat)} (h : LayB W s n Ks T (setR (ones8 R k) k p x) (k + 1) bl w) (hR : R k = row18 p x) : LayB W s n Ks T R (k + 1) [] w := by
 refine (h.drop (bl' := []) (by simp)).congr fun j hj r _ => ?_
 unfold setR ones8
 by_cases hjk : j = k
 · subst hjk
  rw [hR]
  unfold row18
  simp
 · simp [hjk, show j < k by omega]
theorem layB_old {Bs : Nat -> Nat -> Int} {bl : List (Nat × Nat)} (w w' : World) (h : LayB W s n Ks T Bs k bl w) (ho : Old w w') : LayB W s n Ks T Bs k bl w' := h.old' ho
end
theorem lprod_any (W : World) (s n : Nat) (Ks : List (Nat × Obj)) (T : Nat -> Int) (R : Nat -> Nat -> Int) (P Q G H : Int) (a : Option Addr) (m cap : Nat) (ba : Option Addr) (na ca : Nat) (X : Int) (bb : Option Addr) (nb cb : Nat) (Y Z : Int) (bp : Option Addr) (cp : Nat) (Pp : Nat -> Int) (w : World) (h0n : 0 < n) (hn : n <= 8) (h4 : Four P Q G H) (hr : Righ P Q G) (hX : U64 X) (hY : U64 Y) (hZ : U64 Z) (hP : FacsIn W bp n Pp)
  (hT1 : ∀ i, i + 1 < n -> T (3 * n + i) = Pp (i + 1)) (hT2 : T (3 * n + (n - 1)) = lastI P Q G X Y Z n (Pp (n - 1)))
  (hR1 : ∀ i, i + 1 < n -> R (3 * n + i) = row28 (4 * n + (i + 1)) (Pp i) (6 * n + i) H) (hR2 : R (3 * n + (n - 1)) = row18 (7 * n - 1) H)
  (h : LayB W s n Ks T R (3 * n) [] w) :
  Calls Tryz.prog 82 #[.pointer (some ⟨s, 0, none⟩), gv P Q G H a m cap, tk ba na ca X bb nb cb Y Z bp n cp] w fun e w' => e = .returned (.tuple #[]) /\ LayB W s n Ks T R (4 * n) [] w' := by
 rcases hP with h0 | ⟨bp, op, rfl, hbp, hrp⟩
 · omega
 obtain ⟨kk, hkk⟩ : ∃ kk, kk = prodI Q (kF Q X Y Z) n := ⟨_, rfl⟩
 have HK : Hid (∀ wx, Calls Tryz.prog 121 #[gv P Q G H a m cap, tk ba na ca X bb nb cb Y Z (some ⟨bp, op, none⟩) n cp, .int .i64 (n : Int)] wx (Ret wx (.int .u64 kk))) := fun wx => by rw [hkk]; exact spf_any P Q G H a m cap ba na ca X bb nb cb Y Z (some ⟨bp, op, none⟩) n cp n wx (by omega) hX hY hZ
 have HKu : U64 kk := by rw [hkk]; exact prodI_bd _ _ _
 obtain ⟨ek, hek⟩ : ∃ ek, ek = expI P Q G kk := ⟨_, rfl⟩
 have HE : Hid (∀ wx, Calls Tryz.prog 65 #[gv P Q G H a m cap, .int .u64 G, .int .u64 kk] wx (Ret wx (.int .u64 ek))) := fun wx => by rw [hek]; exact gexp_any P Q G H G kk a m cap wx h4 hr h4.g0 h4.g1 HKu.1 HKu.2
 have HO : Hid (∀ wx, Calls Tryz.prog 99 #[gv P Q G H a m cap, .int .u64 (Pp (n - 1)), .int .u64 ek] wx (Ret wx (.int .u64 (overI P (Pp (n - 1)) ek)))) := fun wx => gover_any P Q G H a m cap (Pp (n - 1)) ek wx h4 hr (hrp (n - 1) (by omega)).2 (by rw [hek]; exact hr.exp_in hr.gin)
 have HT2 : Hid (T (3 * n + (n - 1)) = overI P (Pp (n - 1)) ek) := by unfold Hid; rw [hT2, hek, hkk]; rfl
 have HL0 : Hid (LayB W s n ((w.heap.size + 1, .cells (tkc ba na ca X bb nb cb Y Z (some ⟨bp, op, none⟩) n cp) 41 (0, 0)) :: (w.heap.size, .cells (gc P Q G H a m cap) 25 (0, 0)) :: Ks) T R (3 * n) [] ((w.alloc (.cells (gc P Q G H a m cap) 25)).alloc (.cells (tkc ba na ca X bb nb cb Y Z (some ⟨bp, op, none⟩) n cp) 41))) := by
  have := (h.more (.cells (gc P Q G H a m cap) 25 (0, 0))).more (.cells (tkc ba na ca X bb nb cb Y Z (some ⟨bp, op, none⟩) n cp) 41 (0, 0))
  unfold Hid; simpa using this
 have HT1 : Hid (∀ i, i + 1 < n -> T (3 * n + i) = Pp (i + 1)) := hT1
 have HR1 : Hid (∀ i, i + 1 < n -> R (3 * n + i) = row28 (4 * n + (i + 1)) (Pp i) (6 * n + i) H) := hR1
 have HR2 : Hid (R (3 * n + (n - 1)) = row18 (7 * n - 1) H) := hR2
 have HPc : Hid (∀ i wx, i < n -> Old W wx -> wx.cell? ⟨bp, op + i, none⟩ = some (.int .u64 (Pp i))) := fun i wx hi ho => ho.cellOf (hrp i hi).1
 clear h h4 hr hX hY hZ hrp hbp hT1 hT2 hR1 hR2 hkk HKu hek
 obtain ⟨K2, hK2⟩ : ∃ K2, K2 = (w.heap.size + 1, .cells (tkc ba na ca X bb nb cb Y Z (some ⟨bp, op, none⟩) n cp) 41 (0, 0)) :: (w.heap.size, .cells (gc P Q G H a m cap) 25 (0, 0)) :: Ks := ⟨_, rfl⟩
 rw [<- hK2] at HL0
 have HgK : Hid ((w.heap.size, .cells (gc P Q G H a m cap) 25 (0, 0)) ∈ K2) := by unfold Hid; rw [hK2]; simp
 have HtK : Hid ((w.heap.size + 1, .cells (tkc ba na ca X bb nb cb Y Z (some ⟨bp, op, none⟩) n cp) 41 (0, 0)) ∈ K2) := by unfold Hid; rw [hK2]; simp
 have HKs : Hid (∀ e, e ∈ Ks -> e ∈ K2) := by unfold Hid; rw [hK2]; intro e he; simp [he]
 clear hK2
 go_enter Tryz.func82, Tryz.ntmps82
 go_upto_region 1 with fail
 generalize (w.alloc (.cells (gc P Q G H a m cap) 25)).alloc (.cells (tkc ba na ca X bb nb cb Y Z (some ⟨bp, op, none⟩) n cp) 41) = W1 at *
 generalize w.heap.size = gb at *
 go_upto_region 2 with fail
 go_loopw [6] (fun iv wx => ∃ i : Nat, iv = .int .i64 ((i + 1 : Nat) : Int) /\ i + 1 <= n /\ Hid (LayB W s n K2 T R (3 * n + i) [] wx)) (fun iv _ => n - (intOf iv).toNat)
 case atStart => exact ⟨0, rfl, h0n, HL0⟩
 case round =>
  obtain ⟨i, rfl, hi, HL⟩ := hrel
  obtain ⟨v0, u0, hrow⟩ := HL.out.row
  have cn : wr.cell? ⟨s, 0, none⟩ = some (.int .i64 (n : Int)) := cell_of_row _ _ 0 _ _ (0, 0) hrow
  clear hrow
  by_cases hlt : i + 1 < n
  · have HTk : Hid (T (3 * n + i) = Pp (i + 1)) := HT1.out i hlt
   have HRk : Hid (R (3 * n + i) = row28 (4 * n + (i + 1)) (Pp i) (6 * n + i) H) := HR1.out i hlt
   have c5 : wr.cell? ⟨gb + 1, 5, none⟩ = some (.slice (some ⟨bp, op, none⟩) n cp) := cell_of_row _ _ 5 _ _ (0, 0) (HL.out.prot HtK.out)
   have cP := HPc.out (i + 1) wr hlt HL.out.old
   go_upto_region 5 with (go_at_call 113; refine (ladd8 W s n K2 T R (3 * n + i) [] (Pp (i + 1)) _ hn (by omega) HTk.out HL.out).mono ?_; rintro e w1 ⟨b, rfl, hl⟩)
   have HA : Hid (LayB W s n K2 T (ones8 R (3 * n + i)) (3 * n + i + 1) [(3 * n + i, b)] w1) := hl
   clear hl HL HTk cn c5 cP
   obtain ⟨p, hp⟩ : ∃ p, p = 4 * n + (i + 1) := ⟨_, rfl⟩
   obtain ⟨q, hq⟩ : ∃ q, q = 6 * n + i := ⟨_, rfl⟩
   have HM1 : Hid (∀ wx, Lay1 W s n K2 T R (3 * n + i) b p wx -> Calls Tryz.prog 118 #[.pointer (some ⟨s, 0, none⟩), .int .i64 ((i + 1 : Nat) : Int)] wx (Ret wx (.int .i64 (p : Int)))) := fun wx hR => (by obtain ⟨v, u, hrow⟩ := hR.row; rw [hp]; exact lm_d s n (i + 1) v u wx hn (by omega) hrow)
   have HM2 : Hid (∀ wx, Lay1 W s n K2 T R (3 * n + i) b p wx -> Calls Tryz.prog 120 #[.pointer (some ⟨s, 0, none⟩), .int .i64 (i : Int)] wx (Ret wx (.int .i64 (q : Int)))) := fun wx hR => (by obtain ⟨v, u, hrow⟩ := hR.row; rw [hq]; exact lm_t s n i v u wx hn (by omega) hrow)
   have hp8 : p < 7 * n + 3 := by omega
   have hq8 : q < 7 * n + 3 := by omega
   have hpq : p ≠ q := by omega
   have hin : i < n := by omega
   have hi1 : i + 1 <= 100 := by omega
   have HRow : Hid (R (3 * n + i) = row28 p (Pp i) q H) := by unfold Hid; rw [hp, hq]; exact HRk.out
   have HGr : Hid (∀ wx, Lay1 W s n K2 T R (3 * n + i) b p wx -> wx.heap[gb]? = some (.cells (gc P Q G H a m cap) 25 (0, 0))) := fun wx hR => hR.prot HgK.out
   have HTr : Hid (∀ wx, Lay1 W s n K2 T R (3 * n + i) b p wx -> wx.heap[gb + 1]? = some (.cells (tkc ba na ca X bb nb cb Y Z (some ⟨bp, op, none⟩) n cp) 41 (0, 0))) := fun wx hR => hR.prot HtK.out
   have HPr : Hid (∀ wx, Lay1 W s n K2 T R (3 * n + i) b p wx -> wx.cell? ⟨bp, op + i, none⟩ = some (.int .u64 (Pp i))) := fun wx hR => HPc.out i wx hin hR.oldW
   clear hp hq HRk
   refine wp_region_tab 19 [.k (.slice (some ⟨b, 0, none⟩) (7 * n + 3) (7 * n + 3)), .k (.pointer (some ⟨s, 0, none⟩)), .k (.int .i64 ((i + 1 : Nat) : Int)), .k (.int .i64 (p : Int)), .k (.slice (some ⟨b, 0, none⟩) (7 * n + 3) (7 * n + 3)), .k (.pointer (some ⟨s, 0, none⟩)), .k (.int .i64 ((i + 1 : Nat) : Int)), .k (.int .i64 (i : Int)), .k (.int .i64 (q : Int)), .k (.pointer (some ⟨gb + 1, 5, none⟩)), .k (.slice (some ⟨bp, op, none⟩) n cp), .k (.int .i64 ((i + 1 : Nat) : Int)), .k (.int .i64 (i : Int)), .k (.pointer (some ⟨bp, op + i, none⟩)), .k (.int .u64 (Pp i)), .k (.pointer (some ⟨gb, 3, none⟩)), .k (.int .u64 H), .k (.pointer (some ⟨b, p, none⟩)), laySet W s n K2 T R (3 * n + i) b p (Pp i)] (Lay1 W s n K2 T R (3 * n + i) b p) (by kernel_rfl) (by kernel_rfl) rfl (Lay1.old _ _ (Lay1.of HA.out) (Old.refl _).drew) ?st ?_
   case st =>
    refine .c stp <| .c stp <| .c stp <| .c (stK Lay1.old Tryz.func118 (fun wx hR => HM1.out wx hR)) <| .c stp <| .c stp <| .c stp <| .c (stv (int_pred i (by omega))) <| .c (stK Lay1.old Tryz.func120 (fun wx hR => HM2.out wx hR)) <| .c stp <| .c (stf 5 Tryz.underlying29 HTr.out) <| .c stp <| .c (stv (int_pred i (by omega))) <| .c (sti (n := n) (c := cp) hin Tryz.underlying29) <| .c (stl Tryz.underlying22 HPr.out) <| .c stp <| .c (stf 3 Tryz.underlying22 HGr.out) <| .c (sti0 (n := (7 * n + 3)) (c := (7 * n + 3)) hp8 Tryz.underlying29) <| .c (stS (p := ⟨b, p, none⟩) (v := .int .u64 (Pp i)) (fun _ => lay_stS (i := 18) rfl rfl hp8)) .n
   intro t wx hR hk
   simp only [fill, Ent.val, laySet, List.set_cons_zero, List.set_cons_succ, List.drop_succ_cons, List.drop_zero, List.drop_nil]
   have hl : LayB W s n K2 T (setR (ones8 R (3 * n + i)) (3 * n + i) p (Pp i)) (3 * n + i + 1) [(3 * n + i, b)] wx := hk 18 (by omega)
   have q1 := (hl.full List.mem_cons_self).cell q hq8
   have f1 := (hl.full List.mem_cons_self).free q
   have HN : Hid (LayB W s n K2 T R (3 * n + i + 1) [] (wx.setCell ⟨b, q, none⟩ (.int .u64 H))) := (hl.cell List.mem_cons_self q H).fin28 hpq HRow.out
   clear hl hk hR HA HM1 HM2 HGr HTr HPr HRow
   go_wp2_with fail
   go_roundw
   case rel => exact ⟨i + 1, idx_next (i + 1), by omega, HN⟩
   case measure => simp [intOf]; omega
  · have he : n = i + 1 := by omega
   obtain ⟨k, hk0⟩ : ∃ k, k = 3 * n + (n - 1) := ⟨_, rfl⟩
   have HLk : Hid (LayB W s n K2 T R k [] wr) := by have := HL.out; rw [show 3 * n + i = k by omega] at this; exact this
   rw [<- hk0] at HT2 HR2
   have hkn : Hid (k + 1 = 4 * n) := by unfold Hid; omega
   have hk8 : k <= 100 := by omega
   have hi0 : i = n - 1 := by omega
   have HPr : Hid (∀ wx, LayB W s n K2 T R k [] wx -> wx.cell? ⟨bp, op + i, none⟩ = some (.int .u64 (Pp (n - 1)))) := fun wx hR => by rw [hi0]; exact HPc.out (n - 1) wx (by omega) hR.old
   have HGr : Hid (∀ wx, LayB W s n K2 T R k [] wx -> wx.heap[gb]? = some (.cells (gc P Q G H a m cap) 25 (0, 0))) := fun wx hR => hR.prot HgK.out
   have HTr : Hid (∀ wx, LayB W s n K2 T R k [] wx -> wx.heap[gb + 1]? = some (.cells (tkc ba na ca X bb nb cb Y Z (some ⟨bp, op, none⟩) n cp) 41 (0, 0))) := fun wx hR => hR.prot HtK.out
   have HSr : Hid (∀ wx, LayB W s n K2 T R k [] wx -> wx.cell? ⟨s, 0, none⟩ = some (.int .i64 (n : Int))) := fun wx hR => by obtain ⟨v, u, hrow⟩ := hR.row; exact cell_of_row _ _ 0 _ _ (0, 0) hrow
   have hin : i < n := by omega
   have hpred : Value.int .i64 (IntKind.i64.wrap ((n : Int) - 1)) = .int .i64 (i : Int) := by rw [he]; exact int_pred i (by omega)
   clear HL hk0 hi0
   go_upto_region 6 with fail
   clear cn
   refine wp_region_tab 23 [.k (.pointer (some ⟨s, 0, none⟩)), .k (gv P Q G H a m cap), .k (.pointer (some ⟨gb + 1, 5, none⟩)), .k (.slice (some ⟨bp, op, none⟩) n cp), .k (.pointer (some ⟨s, 0, none⟩)), .k (.pointer (some ⟨s, 0, none⟩)), .k (.pointer (some ⟨s, 0, none⟩)), .k (.int .i64 (n : Int)), .k (.int .i64 (i : Int)), .k (.pointer (some ⟨bp, op + i, none⟩)), .k (.int .u64 (Pp (n - 1))), .k (gv P Q G H a m cap), .k (.pointer (some ⟨gb, 2, none⟩)), .k (.int .u64 G), .k (gv P Q G H a m cap), .k (tk ba na ca X bb nb cb Y Z (some ⟨bp, op, none⟩) n cp), .k (.pointer (some ⟨s, 0, none⟩)), .k (.pointer (some ⟨s, 0, none⟩)), .k (.pointer (some ⟨s, 0, none⟩)), .k (.int .i64 (n : Int)), .k (.int .u64 kk), .k (.int .u64 ek), .k (.int .u64 (overI P (Pp (n - 1)) ek))] (LayB W s n K2 T R k []) (by kernel_rfl) (by kernel_rfl) rfl (layB_old _ _ HLk.out (Old.refl _).drew) ?st ?_
   case st =>
    refine .c stp <| .c (sts Tryz.underlying25 HGr.out) <| .c stp <| .c (stf 5 Tryz.underlying29 HTr.out) <| .c stp <| .c stp <| .c stp <| .c (stl Tryz.underlying3 HSr.out) <| .c (stv hpred) <| .c (sti (n := n) (c := cp) hin Tryz.underlying29) <| .c (stl Tryz.underlying22 HPr.out) <| .c (sts Tryz.underlying25 HGr.out) <| .c stp <| .c (stf 2 Tryz.underlying22 HGr.out) <| .c (sts Tryz.underlying25 HGr.out) <| .c (sts Tryz.underlying41 HTr.out) <| .c stp <| .c stp <| .c stp <| .c (stl Tryz.underlying3 HSr.out) <| .c (stK layB_old Tryz.func121 (fun wx _ => HK.out wx)) <| .c (stK layB_old Tryz.func65 (fun wx _ => HE.out wx)) <| .c (stK layB_old Tryz.func99 (fun wx _ => HO.out wx)) .n
   intro t wx hR hk
   simp only [fill, Ent.val, List.set_cons_zero, List.set_cons_succ, List.drop_succ_cons, List.drop_zero, List.drop_nil]
   have HLx : Hid (LayB W s n K2 T R k [] wx) := hR
   clear hR hk HLk HGr HTr HPr HSr he hpred hin HPc hlt hi
   go_upto_region 7 with (go_at_call 113; refine (ladd8 W s n K2 T R k [] (overI P (Pp (n - 1)) ek) _ hn hk8 HT2.out HLx.out).mono ?_; rintro e w1 ⟨b, rfl, hl⟩)
   have HA : Hid (LayB W s n K2 T (ones8 R k) (k + 1) [(k, b)] w1) := hl
   clear hl HLx HT2
   obtain ⟨p, hp⟩ : ∃ p, p = 7 * n - 1 := ⟨_, rfl⟩
   have hp8 : p < 7 * n + 3 := by omega
   have HM1 : Hid (∀ wx, LayB W s n K2 T (ones8 R k) (k + 1) [(k, b)] wx -> Calls Tryz.prog 122 #[.pointer (some ⟨s, 0, none⟩)] wx (Ret wx (.int .i64 (p : Int)))) := fun wx hR => (by obtain ⟨v, u, hrow⟩ := hR.row; rw [hp]; exact lm_tLast s n v u wx h0n hn hrow)
   have HGr : Hid (∀ wx, LayB W s n K2 T (ones8 R k) (k + 1) [(k, b)] wx -> wx.heap[gb]? = some (.cells (gc P Q G H a m cap) 25 (0, 0))) := fun wx hR => hR.prot HgK.out
   rw [<- hp] at HR2
   clear hp
   refine wp_region_tab 5 [.k (.slice (some ⟨b, 0, none⟩) (7 * n + 3) (7 * n + 3)), .k (.pointer (some ⟨s, 0, none⟩)), .k (.int .i64 (p : Int)), .k (.pointer (some ⟨gb, 3, none⟩)), .k (.int .u64 H)] (LayB W s n K2 T (ones8 R k) (k + 1) [(k, b)]) (by kernel_rfl) (by kernel_rfl) rfl (layB_old _ _ HA.out (Old.refl _).drew) ?st ?_
   case st =>
    refine .c stp <| .c stp <| .c (stK layB_old Tryz.func122 (fun wx hR => HM1.out wx hR)) <| .c stp <| .c (stf 3 Tryz.underlying22 HGr.out) .n
   intro t wx hR hk
   simp only [fill, Ent.val, List.set_cons_zero, List.set_cons_succ, List.drop_succ_cons, List.drop_zero, List.drop_nil]
   have q1 := (hR.full List.mem_cons_self).cell p hp8
   have f1 := (hR.full List.mem_cons_self).free p
   have HN : Hid (LayB W s n Ks T R (4 * n) [] (wx.setCell ⟨b, p, none⟩ (.int .u64 H))) := by
    have := ((hR.cell List.mem_cons_self p H).fin18 HR2.out).less HKs.out
    rw [hkn.out] at this
    exact this
   clear hR hk HA HM1 HGr
   go_wp2_with fail
   go_end0
   exact ⟨rfl, HN.out⟩
end
end Go.Proofs.YtlnmjbbpenhdbaaGreat
