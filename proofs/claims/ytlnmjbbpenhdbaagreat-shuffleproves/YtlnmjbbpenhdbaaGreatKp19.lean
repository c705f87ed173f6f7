/-
  What the proof needs, part 19.
-/
import Derived.Test.YtlnmjbbpenhdbaaGreatKp18
import Derived.Test.YtlnmjbbpenhdbaaGreatKp11
import Derived.Test.YtlnmjbbpenhdbaaGreatKp10
namespace Go.Proofs.YtlnmjbbpenhdbaaGreat
set_option linter.unusedSimpArgs false
set_option linter.unusedVariables false
set_option maxRecDepth 100000
set_option maxHeartbeats 32000000
section
open Go.RowKit
theorem bc_at (F : Nat -> Int) : ∀ e, e < 3 -> (bc (F 0) (F 1) (F 2) (F 3) (F 4) (F 5))[0 + e * 2]? = some (.int .u64 (F (2 * e))) /\ (bc (F 0) (F 1) (F 2) (F 3) (F 4) (F 5))[0 + e * 2 + 1]? = some (.int .u64 (F (2 * e + 1)))
 | 0, _ => ⟨rfl, rfl⟩
 | 1, _ => ⟨rfl, rfl⟩
 | 2, _ => ⟨rfl, rfl⟩
section
variable {W w w' : World} {s n : Nat} {Ks : List (Nat × Obj)} {T : Nat -> Int} {Bs R : Nat -> Nat -> Int} {k K r b p : Nat} {bl : List (Nat × Nat)}
theorem Ly.more2 {N i k : Nat} {v u : Value} {bk : Nat -> Nat} {o : Obj} (h : Ly W s N Ks T Bs i k v u bk w) (ho : Old w w') (hb : w.heap.size <= b) (hob : w'.heap[b]? = some o) : Ly W s N ((b, o) :: Ks) T Bs i k v u bk w' := by
 have h' := h.old' ho
 refine ⟨h'.old, h'.ws, h'.big, h'.nums, h'.own, h'.full, h.inj, h.s1, h.s2, h.s3, fun e he => ?_⟩
 rcases List.mem_cons.1 he with rfl | he
 · refine ⟨hob, by have := h.big; show b ≠ s; omega, fun hc => ?_, fun hc => ?_, fun j hj hc => ?_⟩
  · have := (World.ownsRow.lt h.nums _ hc).2; omega
  · have := (World.ownsRow.lt h.own _ hc).2; omega
  · have := (h.full j hj).2.lt; omega
 · exact h'.prot e he
theorem LayB.more2 {o : Obj} (h : LayB W s n Ks T Bs k bl w) (ho : Old w w') (hb : w.heap.size <= b) (hob : w'.heap[b]? = some o) : LayB W s n ((b, o) :: Ks) T Bs k bl w' := let ⟨v, u, bk, h1, h2⟩ := h; ⟨v, u, bk, h1, h2.ly.more2 ho hb hob, (ho.block _ h2.ly.big).trans h2.row⟩
def LayC (W : World) (s n : Nat) (Ks : List (Nat × Obj)) (T : Nat -> Int) (Bs : Nat -> Nat -> Int) (K : Nat) (bl : List (Nat × Nat)) (r p : Nat) (wx : World) : Prop := ∃ c, LayB W s n Ks T (setR Bs r p c) K bl wx
theorem LayC.old (w w' : World) (h : LayC W s n Ks T Bs K bl r p w) (ho : Old w w') : LayC W s n Ks T Bs K bl r p w' := let ⟨c, h⟩ := h; ⟨c, h.old' ho⟩
theorem LayC.row (h : LayC W s n Ks T Bs K bl r p w) : ∃ v u, w.heap[s]? = some (.cells #[.int .i64 (n : Int), v, u] 109 (0, 0)) := let ⟨_, h⟩ := h; h.row
theorem LayC.prot (h : LayC W s n Ks T Bs K bl r p w) {b' : Nat} {o : Obj} (he : (b', o) ∈ Ks) : w.heap[b']? = some o := let ⟨_, h⟩ := h; h.prot he
theorem LayC.of (h : LayB W s n Ks T Bs K bl w) : LayC W s n Ks T Bs K bl r p w := ⟨Bs r p, h.congr fun j hj q _ => by
 unfold setR
 by_cases hjk : j = r
 · subst hjk; rw [if_pos rfl]; by_cases hq : q = p
  · subst hq; simp
  · simp [hq]
 · rw [if_neg hjk]⟩
def layCset (W : World) (s n : Nat) (Ks : List (Nat × Obj)) (T : Nat -> Int) (Bs : Nat -> Nat -> Int) (K : Nat) (bl : List (Nat × Nat)) (r p : Nat) (x : Int) : Ent := .u (fun _ w => LayB W s n Ks T (setR Bs r p x) K bl w) fun _ _ _ h ho => h.old' ho
theorem layC_stS {E : List Ent} {i : Nat} {x : Int} (hk : knownBut E i = true) (hE : E[i]? = some (layCset W s n Ks T Bs K bl r p x)) (he : (r, b) ∈ bl) (hp : p < 7 * n + 3) (wx : World) (h : LayC W s n Ks T Bs K bl r p wx) :
  (∃ o, wx.cell? ⟨b, p, none⟩ = some o) /\ wx.frozen? ⟨b, p, none⟩ = false /\ ResT E (LayC W s n Ks T Bs K bl r p) (layCset W s n Ks T Bs K bl r p x) wx undef (wx.setCell ⟨b, p, none⟩ (.int .u64 x)) := by
 obtain ⟨c, h⟩ := h
 have hF := h.full he
 have hs : LayB W s n Ks T (setR Bs r p x) K bl (wx.setCell ⟨b, p, none⟩ (.int .u64 x)) := by
  refine (h.cell he p x).congr fun j _ q _ => ?_
  unfold setR
  by_cases hjk : j = r
  · subst hjk; simp only [if_true]; by_cases hq : q = p
   · simp [hq]
   · simp [hq]
  · simp [hjk]
 exact ⟨⟨_, hF.cell p hp⟩, hF.free p, resT_store hk hE ⟨x, hs⟩ fun _ => hs⟩
end
def two8r (R : Nat -> Nat -> Int) (k : Nat) (f g : Nat -> Int) : Nat -> Nat -> Int := fun j => if j < k then R j else if j = k then f else g
def rowP (m i : Nat) (W : Nat -> Int) : Nat -> Int := fun q => if m <= q /\ q < m + i then W (q - m) else 1
section
variable {W w : World} {s n : Nat} {Ks : List (Nat × Obj)} {T : Nat -> Int} {R : Nat -> Nat -> Int} {k i q : Nat} {bl : List (Nat × Nat)} {WU WV : Nat -> Int}
theorem LayB.two (h : LayB W s n Ks T (ones8 (ones8 R k) (k + 1)) (k + 2) bl w) : LayB W s n Ks T (two8r R k (rowP (2 * n) 0 WU) (rowP (2 * n) 0 WV)) (k + 2) bl w := by
 refine h.congr fun j hj r _ => ?_
 unfold ones8 two8r rowP
 have e : ¬ (2 * n <= r /\ r < 2 * n + 0) := by omega
 by_cases h1 : j < k
 · simp [h1, show j < k + 1 by omega]
 · by_cases h2 : j = k
  · subst h2; simp; intro a b; omega
  · have h3 : ¬ j < k + 1 := by omega
   simp [h1, h2, h3]; intro a b; omega
theorem LayB.step (h : LayB W s n Ks T (setR (setR (two8r R k (rowP (2 * n) i WU) (rowP (2 * n) i WV)) k (2 * n + i) (WU i)) (k + 1) (2 * n + i) (WV i)) (k + 2) bl w) : LayB W s n Ks T (two8r R k (rowP (2 * n) (i + 1) WU) (rowP (2 * n) (i + 1) WV)) (k + 2) bl w := by
 have e : ∀ (V : Nat -> Int) r, (if r = 2 * n + i then V i else rowP (2 * n) i V r) = rowP (2 * n) (i + 1) V r := fun V r => by
  unfold rowP
  by_cases h1 : r = 2 * n + i
  · subst h1; simp
  · rw [if_neg h1]
   by_cases h2 : 2 * n <= r /\ r < 2 * n + i
   · rw [if_pos h2, if_pos ⟨h2.1, by omega⟩]
   · rw [if_neg h2, if_neg (by omega)]
 refine h.congr fun j hj r _ => ?_
 unfold setR two8r
 by_cases h1 : j < k
 · have h2 : j ≠ k := by omega
  have h3 : j ≠ k + 1 := by omega
  simp [h1, h2, h3]
 · by_cases h2 : j = k
  · subst h2; have := e WU r; simpa using this
  · have h3 : j = k + 1 := by omega
   subst h3; have := e WV r; have h4 : ¬ k + 1 < k := by omega
   simpa [h4] using this
theorem LayB.finS {x z : Int} (h : LayB W s n Ks T (setR (setR (two8r R k (rowP (2 * n) n WU) (rowP (2 * n) n WV)) k q x) (k + 1) q z) (k + 2) bl w) (hq : 3 * n <= q) (hU : R k = rowS8 (2 * n) n WU q x) (hV : R (k + 1) = rowS8 (2 * n) n WV q z) : LayB W s n Ks T R (k + 2) [] w := by
 have e : ∀ (V : Nat -> Int) y r, (if r = q then y else rowP (2 * n) n V r) = rowS8 (2 * n) n V q y r := fun V y r => by
  unfold rowP rowS8
  by_cases h1 : r = q
  · subst h1; rw [if_pos rfl, if_neg (by omega), if_pos rfl]
  · rw [if_neg h1]; by_cases h2 : 2 * n <= r /\ r < 2 * n + n
   · rw [if_pos h2, if_pos h2]
   · rw [if_neg h2, if_neg h2, if_neg h1]
 refine (h.drop (bl' := []) (by simp)).congr fun j hj r _ => ?_
 unfold setR two8r
 by_cases h1 : j < k
 · have h2 : j ≠ k := by omega
  have h3 : j ≠ k + 1 := by omega
  simp [h1, h2, h3]
 · by_cases h2 : j = k
  · subst h2; have := e WU x r; rw [hU]; simpa using this
  · have h3 : j = k + 1 := by omega
   subst h3; have := e WV z r; rw [hV]; have h4 : ¬ k + 1 < k := by omega
   simpa [h4] using this
end
theorem lsum_any (W : World) (s n : Nat) (Ks : List (Nat × Obj)) (T : Nat -> Int) (R : Nat -> Nat -> Int) (P Q G H : Int) (a : Option Addr) (m cap : Nat) (y : Int) (bi : Option Addr) (ci : Nat) (C : Nat -> Nat -> Int) (bo : Option Addr) (co : Nat) (O : Nat -> Nat -> Int) (ba : Option Addr) (na ca : Nat) (X : Int) (bb : Option Addr) (nb cb : Nat) (Y Z : Int) (bp : Option Addr) (np cp : Nat) (e k : Nat) (w : World) (h0n : 0 < n) (hn : n <= 8) (he : e < 3) (hke : k <= 98) (h4 : Four P Q G H) (hr : Righ P Q G) (hX : U64 X) (hC : BoxsIn W bi n C) (hO : BoxsIn W bo n O)
  (hT1 : T k = prodI P (fun j => expI P Q (C j (2 * e)) (powI X ((j : Int) + 1) Q)) n) (hT2 : T (k + 1) = prodI P (fun j => expI P Q (C j (2 * e + 1)) (powI X ((j : Int) + 1) Q)) n)
  (hR1 : R k = rowS8 (2 * n) n (fun i => O i (2 * e)) (7 * n + e) G) (hR2 : R (k + 1) = rowS8 (2 * n) n (fun i => O i (2 * e + 1)) (7 * n + e) y)
  (h : LayB W s n Ks T R k [] w) :
  Calls Tryz.prog 83 #[.pointer (some ⟨s, 0, none⟩), gv P Q G H a m cap, .int .u64 y, .slice bi n ci, .slice bo n co, tk ba na ca X bb nb cb Y Z bp np cp, .int .i64 (e : Int)] w fun r w' => r = .returned (.tuple #[]) /\ LayB W s n Ks T R (k + 2) [] w' := by
 rcases hC with h0 | ⟨bi, oi, rfl, _, hc⟩
 · omega
 rcases hO with h0 | ⟨bo, oo, rfl, _, hoo⟩
 · omega
 have HC : Hid (∀ i wx, i < n -> Old W wx -> ∀ j, j < 6 -> wx.cell? ⟨bi, oi + i * 6 + j, none⟩ = some (.int .u64 (C i j))) := fun i wx hi ho j hj => ho.cellOf (hc i hi j hj).1
 have HCu : Hid (∀ i j, i < n -> j < 6 -> U64 (C i j)) := fun i j hi hj => (hc i hi j hj).2
 have HOc : Hid (∀ i wx, i < n -> Old W wx -> ∀ j, j < 6 -> wx.cell? ⟨bo, oo + i * 6 + j, none⟩ = some (.int .u64 (O i j))) := fun i wx hi ho j hj => ho.cellOf (hoo i hi j hj).1
 obtain ⟨uF, huF⟩ : ∃ uF : Nat -> Int, uF = fun i => prodI P (fun j => expI P Q (C j (2 * e)) (powI X ((j : Int) + 1) Q)) i := ⟨_, rfl⟩
 obtain ⟨vF, hvF⟩ : ∃ vF : Nat -> Int, vF = fun i => prodI P (fun j => expI P Q (C j (2 * e + 1)) (powI X ((j : Int) + 1) Q)) i := ⟨_, rfl⟩
 have HT1 : Hid (T k = uF n) := by unfold Hid; rw [hT1, huF]
 have HT2 : Hid (T (k + 1) = vF n) := by unfold Hid; rw [hT2, hvF]
 have Hu0 : Hid (uF 0 = 1) := by unfold Hid; rw [huF]; rfl
 have Hv0 : Hid (vF 0 = 1) := by unfold Hid; rw [hvF]; rfl
 have Huu : Hid (∀ i, U64 (uF i)) := fun i => by rw [huF]; exact prodI_bd _ _ _
 have Hvu : Hid (∀ i, U64 (vF i)) := fun i => by rw [hvF]; exact prodI_bd _ _ _
 have Hus : Hid (∀ i, uF (i + 1) = mulI (uF i) (expI P Q (C i (2 * e)) (powI X ((i : Int) + 1) Q)) P) := fun i => by rw [huF]; rfl
 have Hvs : Hid (∀ i, vF (i + 1) = mulI (vF i) (expI P Q (C i (2 * e + 1)) (powI X ((i : Int) + 1) Q)) P) := fun i => by rw [hvF]; rfl
 have HPw : Hid (∀ i wx, i < n -> Calls Tryz.prog 61 #[.int .u64 X, .int .u64 ((i : Int) + 1), .int .u64 Q] wx (Ret wx (.int .u64 (powI X ((i : Int) + 1) Q)))) := fun i wx hi => spow_any X ((i : Int) + 1) Q hX ⟨by omega, by omega⟩ wx
 have HEx : Hid (∀ i j wx, i < n -> j < 6 -> Calls Tryz.prog 65 #[gv P Q G H a m cap, .int .u64 (C i j), .int .u64 (powI X ((i : Int) + 1) Q)] wx (Ret wx (.int .u64 (expI P Q (C i j) (powI X ((i : Int) + 1) Q))))) := fun i j wx hi hj => gexp_any P Q G H (C i j) (powI X ((i : Int) + 1) Q) a m cap wx h4 hr (HCu.out i j hi hj).1 (HCu.out i j hi hj).2 (u64_pow _ _ _).1 (u64_pow _ _ _).2
 have HPd : Hid (∀ (x z : Int) (b base : Nat) (wx : World), U64 x -> U64 z -> Nums wx base (.slice (some ⟨b, 0, none⟩) 2 2) 2 (two7 x z) -> Calls Tryz.prog 64 #[gv P Q G H a m cap, .slice (some ⟨b, 0, none⟩) 2 2] wx (Ret wx (.int .u64 (mulI x z P)))) := fun x z b base wx hx hz hN => gprod7 P Q G H a m cap x z h4 hr hx hz hN
 have HL0 : Hid (LayB W s n ((w.heap.size + 1, .cells (tkc ba na ca X bb nb cb Y Z bp np cp) 41 (0, 0)) :: (w.heap.size, .cells (gc P Q G H a m cap) 25 (0, 0)) :: Ks) T R k [] ((w.alloc (.cells (gc P Q G H a m cap) 25)).alloc (.cells (tkc ba na ca X bb nb cb Y Z bp np cp) 41))) := by
  have := (h.more (.cells (gc P Q G H a m cap) 25 (0, 0))).more (.cells (tkc ba na ca X bb nb cb Y Z bp np cp) 41 (0, 0))
  unfold Hid; simpa using this
 have HR1 : Hid (R k = rowS8 (2 * n) n (fun i => O i (2 * e)) (7 * n + e) G) := hR1
 have HR2 : Hid (R (k + 1) = rowS8 (2 * n) n (fun i => O i (2 * e + 1)) (7 * n + e) y) := hR2
 clear h h4 hr hX hc hoo hT1 hT2 hR1 hR2 huF hvF
 obtain ⟨K2, hK2⟩ : ∃ K2, K2 = (w.heap.size + 1, .cells (tkc ba na ca X bb nb cb Y Z bp np cp) 41 (0, 0)) :: (w.heap.size, .cells (gc P Q G H a m cap) 25 (0, 0)) :: Ks := ⟨_, rfl⟩
 rw [<- hK2] at HL0
 have HgK : Hid ((w.heap.size, .cells (gc P Q G H a m cap) 25 (0, 0)) ∈ K2) := by unfold Hid; rw [hK2]; simp
 have HtK : Hid ((w.heap.size + 1, .cells (tkc ba na ca X bb nb cb Y Z bp np cp) 41 (0, 0)) ∈ K2) := by unfold Hid; rw [hK2]; simp
 have HKs : Hid (∀ e, e ∈ Ks -> e ∈ K2) := by unfold Hid; rw [hK2]; intro e he; simp [he]
 clear hK2
 go_enter Tryz.func83, Tryz.ntmps83
 go_upto_region 1 with fail
 generalize (w.alloc (.cells (gc P Q G H a m cap) 25)).alloc (.cells (tkc ba na ca X bb nb cb Y Z bp np cp) 41) = W1 at *
 generalize w.heap.size = gb at *
 have HW2 : Hid (Old W1 (W1.alloc (.cells #[.int .u64 1, .int .u64 1] 69))) := (Old.refl _).alloc _
 have HP2 : Hid ((W1.alloc (.cells #[.int .u64 1, .int .u64 1] 69)).heap[W1.heap.size]? = some (.cells #[.int .u64 (uF 0), .int .u64 (vF 0)] 69 (0, 0))) := by unfold Hid; rw [Hu0.out, Hv0.out]; exact heap_alloc_last _ _
 go_upto_region 2 with fail
 generalize W1.alloc (.cells #[.int .u64 1, .int .u64 1] 69) = W2 at *
 obtain ⟨pb, hpb⟩ : ∃ pb, pb = W1.heap.size := ⟨_, rfl⟩
 have Hpb : Hid (pb = W1.heap.size) := hpb
 rw [<- hpb] at HP2
 rw [<- hpb]
 clear hpb
 go_upto_region 3 with fail
 go_loopw [25] (fun iv wx => ∃ i : Nat, iv = .int .i64 (i : Int) /\ i <= n /\ Hid (Old W1 wx) /\ Hid (wx.heap[pb]? = some (.cells #[.int .u64 (uF i), .int .u64 (vF i)] 69 (0, 0)))) (fun iv _ => n - (intOf iv).toNat)
 case atStart => exact ⟨0, rfl, Nat.zero_le _, HW2, HP2⟩
 case round =>
  obtain ⟨i, rfl, hi, HO, HP⟩ := hrel
  have HLr : Hid (LayB W s n K2 T R k [] wr) := HL0.out.old' HO.out
  by_cases hlt : i < n
  · have hcc := HC.out i wr hlt HLr.out.old
   have c0 : wr.cell? ⟨bi, oi + i * 6, none⟩ = some (.int .u64 (C i 0)) := hcc 0 (by omega)
   have c1 := hcc 1 (by omega)
   have c2 := hcc 2 (by omega)
   have c3 := hcc 3 (by omega)
   have c4 := hcc 4 (by omega)
   have c5 := hcc 5 (by omega)
   clear hcc
   have HOb : Hid (Old wr (wr.alloc (.cells (bc (C i 0) (C i 1) (C i 2) (C i 3) (C i 4) (C i 5)) 74))) := (Old.refl _).alloc _
   have HBb : Hid ((wr.alloc (.cells (bc (C i 0) (C i 1) (C i 2) (C i 3) (C i 4) (C i 5)) 74)).heap[wr.heap.size]? = some (.cells (bc (C i 0) (C i 1) (C i 2) (C i 3) (C i 4) (C i 5)) 74 (0, 0))) := heap_alloc_last _ _
   go_upto_region 5 with fail
   clear c0 c1 c2 c3 c4 c5
   generalize wr.alloc (.cells (bc (C i 0) (C i 1) (C i 2) (C i 3) (C i 4) (C i 5)) 74) = w3 at *
   obtain ⟨eb, hsz⟩ : ∃ eb, eb = wr.heap.size := ⟨_, rfl⟩
   rw [<- hsz] at HBb
   rw [<- hsz]
   have HP3 : Hid (w3.heap[pb]? = some (.cells #[.int .u64 (uF i), .int .u64 (vF i)] 69 (0, 0))) := (HOb.out.block _ (obj_lt HP.out)).trans HP.out
   have HO3 : Hid (Old W1 w3) := HO.out.trans HOb.out
   have HL3 : Hid (LayB W s n K2 T R k [] w3) := HLr.out.old' HOb.out
   have hne : pb ≠ eb := by have := obj_lt HP.out; omega
   clear HO HP HLr HOb hsz
   have x1 : w3.cell? ⟨gb, 1, none⟩ = some (.int .u64 Q) := cell_of_row _ _ 1 _ _ (0, 0) (HL3.out.prot HgK.out)
   have x2 : w3.cell? ⟨gb + 1, 1, none⟩ = some (.int .u64 X) := cell_of_row _ _ 1 _ _ (0, 0) (HL3.out.prot HtK.out)
   have k1 : IntKind.u64.wrap (i : Int) = (i : Int) := by rw [IntKind.wrap_u64]; omega
   have k2 : IntKind.u64.wrap ((i : Int) + 1) = (i : Int) + 1 := by rw [IntKind.wrap_u64]; omega
   obtain ⟨pw, hpw⟩ : ∃ pw, pw = powI X ((i : Int) + 1) Q := ⟨_, rfl⟩
   have HPi : Hid (∀ wx, Calls Tryz.prog 61 #[.int .u64 X, .int .u64 ((i : Int) + 1), .int .u64 Q] wx (Ret wx (.int .u64 pw))) := fun wx => by rw [hpw]; exact HPw.out i wx hlt
   obtain ⟨eU, heU⟩ : ∃ eU, eU = expI P Q (C i (2 * e)) pw := ⟨_, rfl⟩
   obtain ⟨eV, heV⟩ : ∃ eV, eV = expI P Q (C i (2 * e + 1)) pw := ⟨_, rfl⟩
   have HEU : Hid (∀ wx, Calls Tryz.prog 65 #[gv P Q G H a m cap, .int .u64 (C i (2 * e)), .int .u64 pw] wx (Ret wx (.int .u64 eU))) := fun wx => by rw [heU, hpw]; exact HEx.out i (2 * e) wx hlt (by omega)
   have HEV : Hid (∀ wx, Calls Tryz.prog 65 #[gv P Q G H a m cap, .int .u64 (C i (2 * e + 1)), .int .u64 pw] wx (Ret wx (.int .u64 eV))) := fun wx => by rw [heV, hpw]; exact HEx.out i (2 * e + 1) wx hlt (by omega)
   have HsU : Hid (mulI (uF i) eU P = uF (i + 1)) := by unfold Hid; rw [Hus.out i, heU, hpw]
   have HsV : Hid (mulI (vF i) eV P = vF (i + 1)) := by unfold Hid; rw [Hvs.out i, heV, hpw]
   have HeU : Hid (U64 eU) := by rw [heU]; exact u64_exp _ _ _ _
   have HeV : Hid (U64 eV) := by rw [heV]; exact u64_exp _ _ _ _
   clear hpw heU heV
   have HBq : Hid (∀ (wx : World), wx.heap[eb]? = some (.cells (bc (C i 0) (C i 1) (C i 2) (C i 3) (C i 4) (C i 5)) 74 (0, 0)) -> wx.cell? ⟨eb, 0 + e * 2, none⟩ = some (.int .u64 (C i (2 * e))) /\ wx.cell? ⟨eb, 0 + e * 2 + 1, none⟩ = some (.int .u64 (C i (2 * e + 1)))) := fun wx hrow =>
    ⟨(cell_of_row wx eb (0 + e * 2) _ _ (0, 0) hrow).trans (bc_at (C i) e he).1, (cell_of_row wx eb (0 + e * 2 + 1) _ _ (0, 0) hrow).trans (bc_at (C i) e he).2⟩
   go_upto_region 6 with (go_at_call 61; refine (HPi.out _).mono ?_; rintro r w5 ⟨rfl, o5⟩)
   clear x1 x2 k1 k2 HPi
   have HP5 : Hid (w5.heap[pb]? = some (.cells #[.int .u64 (uF i), .int .u64 (vF i)] 69 (0, 0))) := (o5.block _ (obj_lt HP3.out)).trans HP3.out
   have HO5 : Hid (Old W1 w5) := HO3.out.trans o5
   have HB5 : Hid (w5.heap[eb]? = some (.cells (bc (C i 0) (C i 1) (C i 2) (C i 3) (C i 4) (C i 5)) 74 (0, 0))) := (o5.block _ (obj_lt HBb.out)).trans HBb.out
   clear HP3 HO3 HL3 HBb o5
   refine wp_region_tab 12 [.k (gv P Q G H a m cap), .k (.pointer (some ⟨pb, 0, none⟩)), .k (.int .u64 (uF i)), .k (gv P Q G H a m cap), .k (.int .i64 (e : Int)), .k (.pointer (some ⟨eb, 0 + e * 2, none⟩)), .k (.pointer (some ⟨eb, 0 + e * 2, none⟩)), .k (.int .u64 (C i (2 * e))), .k (.int .u64 pw), .k (.int .u64 eU), two8 w5.heap.size (uF i) eU, .k (.int .u64 (uF (i + 1)))] (Old w5) (by kernel_rfl) (by kernel_rfl) rfl ((Old.refl _).drew) ?st ?_
   case st =>
    refine .c (sts Tryz.underlying25 (fun wx hx => (HL0.out.old' (HO5.out.trans hx)).prot HgK.out)) <| .c stp <| .c (stf 0 Tryz.underlying22 (fun wx hx => (hx.block _ (obj_lt HP5.out)).trans HP5.out)) <| .c (sts Tryz.underlying25 (fun wx hx => (HL0.out.old' (HO5.out.trans hx)).prot HgK.out)) <| .c stp <| .c (saj 2 he Tryz.underlying74) <| .c stp <| .c (stl Tryz.underlying22 (fun wx hx => (HBq.out wx ((hx.block _ (obj_lt HB5.out)).trans HB5.out)).1)) <| .c stp <| .c (stK old_R Tryz.func65 (fun wx _ => HEU.out wx)) <| .c (stm (ob := fun t => .cells #[.int .u64 (uF i), .int .u64 eU] 22) (v := fun s => .slice (some ⟨s, 0, none⟩) 2 2) old_R fun t wx hR hd => ⟨_, rfl, nums_new wx w5.heap.size 2 [.int .u64 (uF i), .int .u64 eU] (two7 (uF i) eU) hR.size (by omega) rfl⟩) <| .c (stC (args := fun t => #[gv P Q G H a m cap, t 10]) old_R Tryz.func64 fun t wx hR hd => ?_) .n
    obtain ⟨b, e10, hN⟩ : ∃ b, t 10 = .slice (some ⟨b, 0, none⟩) 2 2 /\ Nums wx w5.heap.size (t 10) 2 (two7 (uF i) eU) := hd 10 (by kernel_rfl)
    rw [e10] at hN ⊢
    exact (HPd.out _ _ b _ wx (Huu.out i) HeU.out hN).mono fun r w' ⟨h, k⟩ => ⟨_, h, k, by rw [HsU.out]; rfl⟩
   intro t wx hR hk
   simp only [fill, Ent.val, two8, List.set_cons_zero, List.set_cons_succ, List.drop_succ_cons, List.drop_zero, List.drop_nil]
   have HP6 : Hid ((wx.setCell ⟨pb, 0, none⟩ (.int .u64 (uF (i + 1)))).heap[pb]? = some (.cells #[.int .u64 (uF (i + 1)), .int .u64 (vF i)] 69 (0, 0))) := by
    have := set_row ((hR.block _ (obj_lt HP5.out)).trans HP5.out) 0 (.int .u64 (uF (i + 1)))
    unfold Hid; simpa using this
   have HO6 : Hid (Old W1 (wx.setCell ⟨pb, 0, none⟩ (.int .u64 (uF (i + 1))))) := (HO5.out.trans hR).setCell (p := ⟨pb, 0, none⟩) (Nat.le_of_eq Hpb.out.symm) _
   have HB6 : Hid ((wx.setCell ⟨pb, 0, none⟩ (.int .u64 (uF (i + 1)))).heap[eb]? = some (.cells (bc (C i 0) (C i 1) (C i 2) (C i 3) (C i 4) (C i 5)) 74 (0, 0))) := (Below.heap_setCell _ ⟨pb, 0, none⟩ _ _ hne.symm).trans ((hR.block _ (obj_lt HB5.out)).trans HB5.out)
   have q1 : wx.cell? ⟨pb, 0, none⟩ = some (.int .u64 (uF i)) := cell_of_row _ _ 0 _ _ (0, 0) ((hR.block _ (obj_lt HP5.out)).trans HP5.out)
   have f1 : wx.frozen? ⟨pb, 0, none⟩ = false := row_frozen ((hR.block _ (obj_lt HP5.out)).trans HP5.out) 0
   clear hR hk HP5 HO5 HB5 HEU HsU HeU
   go_upto_region 7 with fail
   clear q1 f1
   generalize wx.setCell ⟨pb, 0, none⟩ (.int .u64 (uF (i + 1))) = w6 at *
   refine wp_region_tab 12 [.k (gv P Q G H a m cap), .k (.pointer (some ⟨pb, 1, none⟩)), .k (.int .u64 (vF i)), .k (gv P Q G H a m cap), .k (.int .i64 (e : Int)), .k (.pointer (some ⟨eb, 0 + e * 2, none⟩)), .k (.pointer (some ⟨eb, 0 + e * 2 + 1, none⟩)), .k (.int .u64 (C i (2 * e + 1))), .k (.int .u64 pw), .k (.int .u64 eV), two8 w6.heap.size (vF i) eV, .k (.int .u64 (vF (i + 1)))] (Old w6) (by kernel_rfl) (by kernel_rfl) rfl ((Old.refl _).drew) ?st ?_
   case st =>
    refine .c (sts Tryz.underlying25 (fun wx hx => (HL0.out.old' (HO6.out.trans hx)).prot HgK.out)) <| .c stp <| .c (stf 1 Tryz.underlying22 (fun wx hx => (hx.block _ (obj_lt HP6.out)).trans HP6.out)) <| .c (sts Tryz.underlying25 (fun wx hx => (HL0.out.old' (HO6.out.trans hx)).prot HgK.out)) <| .c stp <| .c (saj 2 he Tryz.underlying74) <| .c stp <| .c (stl Tryz.underlying22 (fun wx hx => (HBq.out wx ((hx.block _ (obj_lt HB6.out)).trans HB6.out)).2)) <| .c stp <| .c (stK old_R Tryz.func65 (fun wx _ => HEV.out wx)) <| .c (stm (ob := fun t => .cells #[.int .u64 (vF i), .int .u64 eV] 22) (v := fun s => .slice (some ⟨s, 0, none⟩) 2 2) old_R fun t wx hR hd => ⟨_, rfl, nums_new wx w6.heap.size 2 [.int .u64 (vF i), .int .u64 eV] (two7 (vF i) eV) hR.size (by omega) rfl⟩) <| .c (stC (args := fun t => #[gv P Q G H a m cap, t 10]) old_R Tryz.func64 fun t wx hR hd => ?_) .n
    obtain ⟨b, e10, hN⟩ : ∃ b, t 10 = .slice (some ⟨b, 0, none⟩) 2 2 /\ Nums wx w6.heap.size (t 10) 2 (two7 (vF i) eV) := hd 10 (by kernel_rfl)
    rw [e10] at hN ⊢
    exact (HPd.out _ _ b _ wx (Hvu.out i) HeV.out hN).mono fun r w' ⟨h, k⟩ => ⟨_, h, k, by rw [HsV.out]; rfl⟩
   intro t wx hR hk
   simp only [fill, Ent.val, two8, List.set_cons_zero, List.set_cons_succ, List.drop_succ_cons, List.drop_zero, List.drop_nil]
   have HP7 : Hid ((wx.setCell ⟨pb, 1, none⟩ (.int .u64 (vF (i + 1)))).heap[pb]? = some (.cells #[.int .u64 (uF (i + 1)), .int .u64 (vF (i + 1))] 69 (0, 0))) := by
    have := set_row ((hR.block _ (obj_lt HP6.out)).trans HP6.out) 1 (.int .u64 (vF (i + 1)))
    unfold Hid; simpa using this
   have HO7 : Hid (Old W1 (wx.setCell ⟨pb, 1, none⟩ (.int .u64 (vF (i + 1))))) := (HO6.out.trans hR).setCell (p := ⟨pb, 1, none⟩) (Nat.le_of_eq Hpb.out.symm) _
   have q1 : wx.cell? ⟨pb, 1, none⟩ = some (.int .u64 (vF i)) := cell_of_row _ _ 1 _ _ (0, 0) ((hR.block _ (obj_lt HP6.out)).trans HP6.out)
   have f1 : wx.frozen? ⟨pb, 1, none⟩ = false := row_frozen ((hR.block _ (obj_lt HP6.out)).trans HP6.out) 1
   clear hR hk HP6 HO6 HB6 HEV HsV HeV HBq
   go_wp2_with fail
   go_roundw
   case rel => exact ⟨i + 1, idx_next i, by omega, HO7, HP7⟩
   case measure => simp [intOf]; omega
  · have he : n = i := by omega
   subst he
   have HLs : Hid (LayB W s n ((pb, .cells #[.int .u64 (uF n), .int .u64 (vF n)] 69 (0, 0)) :: K2) T R k [] wr) := HL0.out.more2 HO.out (Nat.le_of_eq Hpb.out.symm) HP.out
   obtain ⟨K3, hK3⟩ : ∃ K3, K3 = (pb, Obj.cells #[.int .u64 (uF n), .int .u64 (vF n)] 69 (0, 0)) :: K2 := ⟨_, rfl⟩
   rw [<- hK3] at HLs
   have HpK : Hid ((pb, Obj.cells #[.int .u64 (uF n), .int .u64 (vF n)] 69 (0, 0)) ∈ K3) := by unfold Hid; rw [hK3]; simp
   have HgK3 : Hid ((gb, .cells (gc P Q G H a m cap) 25 (0, 0)) ∈ K3) := by unfold Hid; rw [hK3]; simp [HgK.out]
   have HKs3 : Hid (∀ e, e ∈ Ks -> e ∈ K3) := by unfold Hid; rw [hK3]; intro e he; simp [HKs.out e he]
   clear hK3 HO HP HLr HL0 HgK HtK HKs HC HCu Hu0 Hv0 Huu Hvu Hus Hvs HPw HEx HPd Hpb HW2 HP2
   have HS : Hid (∀ (wx : World) Bs k' bl, LayB W s n K3 T Bs k' bl wx -> wx.cell? ⟨pb, 0, none⟩ = some (.int .u64 (uF n)) /\ wx.cell? ⟨pb, 1, none⟩ = some (.int .u64 (vF n))) := fun wx Bs k' bl h => ⟨cell_of_row _ _ 0 _ _ (0, 0) (h.prot HpK.out), cell_of_row _ _ 1 _ _ (0, 0) (h.prot HpK.out)⟩
   have HLd : Hid (LayB W s n K3 T R k [] wr.drew) := HLs.out.old' (Old.refl _).drew
   clear HLs
   go_upto_region 9 with fail
   go_region_held3 (fun w' => w'.cell? ⟨pb, 0, none⟩ = some (.int .u64 (uF n)) /\ w'.cell? ⟨pb, 1, none⟩ = some (.int .u64 (vF n))) (first | exact HS.out _ _ _ _ hlB.out | exact HS.out _ _ _ _ hlA.out | exact HS.out _ _ _ _ HLd.out) (first
    | (have hg := hlA; clear hg; go_at_call 113; refine (ladd8 W s n K3 T (ones8 R k) (k + 1) _ (vF n) _ hn (by omega) HT2.out hlA.out).mono ?_; rintro r w2 ⟨bV, rfl, hl⟩; have hlB : Hid (LayB W s n K3 T _ _ _ w2) := hl; clear hl)
    | (go_at_call 113; refine (ladd8 W s n K3 T R k [] (uF n) _ hn (by omega) HT1.out HLd.out).mono ?_; rintro r w1 ⟨bU, rfl, hl⟩; have hlA : Hid (LayB W s n K3 T _ _ _ w1) := hl; clear hl))
   have HQ0 : Hid (LayB W s n K3 T (two8r R k (rowP (2 * n) 0 (fun i => O i (2 * e))) (rowP (2 * n) 0 (fun i => O i (2 * e + 1)))) (k + 2) [(k + 1, bV), (k, bU)] w2) := hlB.out.two
   clear hlA hlB HLd HT1 HT2 HS HpK
   go_upto_region 11 with fail
   go_loopw [75] (fun iv wx => ∃ i : Nat, iv = .int .i64 (i : Int) /\ i <= n /\ Hid (LayB W s n K3 T (two8r R k (rowP (2 * n) i (fun i => O i (2 * e))) (rowP (2 * n) i (fun i => O i (2 * e + 1)))) (k + 2) [(k + 1, bV), (k, bU)] wx)) (fun iv _ => n - (intOf iv).toNat)
   case atStart => exact ⟨0, rfl, Nat.zero_le _, HQ0⟩
   case round =>
    obtain ⟨i, rfl, hi, HL⟩ := hrel
    by_cases hlt : i < n
    · have hcc := HOc.out i wr hlt HL.out.old
     have c0 : wr.cell? ⟨bo, oo + i * 6, none⟩ = some (.int .u64 (O i 0)) := hcc 0 (by omega)
     have c1 := hcc 1 (by omega)
     have c2 := hcc 2 (by omega)
     have c3 := hcc 3 (by omega)
     have c4 := hcc 4 (by omega)
     have c5 := hcc 5 (by omega)
     clear hcc
     have HLb : Hid (LayB W s n ((wr.heap.size, .cells (bc (O i 0) (O i 1) (O i 2) (O i 3) (O i 4) (O i 5)) 74 (0, 0)) :: K3) T (two8r R k (rowP (2 * n) i (fun i => O i (2 * e))) (rowP (2 * n) i (fun i => O i (2 * e + 1)))) (k + 2) [(k + 1, bV), (k, bU)] (wr.alloc (.cells (bc (O i 0) (O i 1) (O i 2) (O i 3) (O i 4) (O i 5)) 74))) := HL.out.more _
     go_upto_region 13 with fail
     clear c0 c1 c2 c3 c4 c5
     generalize wr.alloc (.cells (bc (O i 0) (O i 1) (O i 2) (O i 3) (O i 4) (O i 5)) 74) = w3 at *
     obtain ⟨eb, hsz⟩ : ∃ eb, eb = wr.heap.size := ⟨_, rfl⟩
     rw [<- hsz] at HLb
     rw [<- hsz]
     obtain ⟨K4, hK4⟩ : ∃ K4, K4 = (eb, Obj.cells (bc (O i 0) (O i 1) (O i 2) (O i 3) (O i 4) (O i 5)) 74 (0, 0)) :: K3 := ⟨_, rfl⟩
     rw [<- hK4] at HLb
     have HeK : Hid ((eb, Obj.cells (bc (O i 0) (O i 1) (O i 2) (O i 3) (O i 4) (O i 5)) 74 (0, 0)) ∈ K4) := by unfold Hid; rw [hK4]; simp
     have HKs4 : Hid (∀ e, e ∈ K3 -> e ∈ K4) := by unfold Hid; rw [hK4]; intro e he; simp [he]
     clear hK4 hsz HL
     obtain ⟨p, hp⟩ : ∃ p, p = 2 * n + i := ⟨_, rfl⟩
     have hp8 : p < 7 * n + 3 := by omega
     obtain ⟨Bs, hBs⟩ : ∃ Bs, Bs = (two8r R k (rowP (2 * n) i (fun i => O i (2 * e))) (rowP (2 * n) i (fun i => O i (2 * e + 1)))) := ⟨_, rfl⟩
     have HM : Hid (∀ wx, LayC W s n K4 T Bs (k + 2) [(k + 1, bV), (k, bU)] k p wx -> Calls Tryz.prog 116 #[.pointer (some ⟨s, 0, none⟩), .int .i64 (i : Int)] wx (Ret wx (.int .i64 (p : Int)))) := fun wx hR => (by obtain ⟨v, u, hrow⟩ := hR.row; rw [hp]; exact lm_b s n i v u wx hn (by omega) hrow)
     have HBq : Hid (∀ wx, LayC W s n K4 T Bs (k + 2) [(k + 1, bV), (k, bU)] k p wx -> wx.cell? ⟨eb, 0 + e * 2, none⟩ = some (.int .u64 (O i (2 * e))) /\ wx.cell? ⟨eb, 0 + e * 2 + 1, none⟩ = some (.int .u64 (O i (2 * e + 1)))) := fun wx hR =>
      ⟨(cell_of_row wx eb (0 + e * 2) _ _ (0, 0) (hR.prot HeK.out)).trans (bc_at (O i) e he).1, (cell_of_row wx eb (0 + e * 2 + 1) _ _ (0, 0) (hR.prot HeK.out)).trans (bc_at (O i) e he).2⟩
     rw [<- hBs] at HLb
     have Hp : Hid (p = 2 * n + i) := hp
     have HBs : Hid (Bs = (two8r R k (rowP (2 * n) i (fun i => O i (2 * e))) (rowP (2 * n) i (fun i => O i (2 * e + 1))))) := hBs
     clear hp hBs
     refine wp_region_tab 18 [.k (.slice (some ⟨bU, 0, none⟩) (7 * n + 3) (7 * n + 3)), .k (.pointer (some ⟨s, 0, none⟩)), .k (.int .i64 (i : Int)), .k (.int .i64 (p : Int)), .k (.slice (some ⟨bV, 0, none⟩) (7 * n + 3) (7 * n + 3)), .k (.pointer (some ⟨s, 0, none⟩)), .k (.int .i64 (i : Int)), .k (.int .i64 (p : Int)), .k (.int .i64 (e : Int)), .k (.pointer (some ⟨eb, 0 + e * 2, none⟩)), .k (.pointer (some ⟨eb, 0 + e * 2, none⟩)), .k (.int .u64 (O i (2 * e))), .k (.int .i64 (e : Int)), .k (.pointer (some ⟨eb, 0 + e * 2, none⟩)), .k (.pointer (some ⟨eb, 0 + e * 2 + 1, none⟩)), .k (.int .u64 (O i (2 * e + 1))), .k (.pointer (some ⟨bU, p, none⟩)), layCset W s n K4 T Bs (k + 2) [(k + 1, bV), (k, bU)] k p (O i (2 * e))] (LayC W s n K4 T Bs (k + 2) [(k + 1, bV), (k, bU)] k p) (by kernel_rfl) (by kernel_rfl) rfl (LayC.old _ _ (LayC.of HLb.out) (Old.refl _).drew) ?st ?_
     case st =>
      refine .c stp <| .c stp <| .c stp <| .c (stK LayC.old Tryz.func116 (fun wx hR => HM.out wx hR)) <| .c stp <| .c stp <| .c stp <| .c (stK LayC.old Tryz.func116 (fun wx hR => HM.out wx hR)) <| .c stp <| .c (saj 2 he Tryz.underlying74) <| .c stp <| .c (stl Tryz.underlying22 (fun wx hR => (HBq.out wx hR).1)) <| .c stp <| .c (saj 2 he Tryz.underlying74) <| .c stp <| .c (stl Tryz.underlying22 (fun wx hR => (HBq.out wx hR).2)) <| .c (sti0 (n := (7 * n + 3)) (c := (7 * n + 3)) hp8 Tryz.underlying29) <| .c (stS (p := ⟨bU, p, none⟩) (v := .int .u64 (O i (2 * e))) (fun _ => layC_stS (i := 17) rfl rfl (by simp) hp8)) .n
     intro t wx hR hk
     simp only [fill, Ent.val, layCset, List.set_cons_zero, List.set_cons_succ, List.drop_succ_cons, List.drop_zero, List.drop_nil]
     have hl : LayB W s n K4 T (setR Bs k p (O i (2 * e))) (k + 2) [(k + 1, bV), (k, bU)] wx := hk 17 (by omega)
     have q1 := (hl.full (r := k + 1) (b := bV) (by simp)).cell p hp8
     have f1 := (hl.full (r := k + 1) (b := bV) (by simp)).free p
     have HN : Hid (LayB W s n K3 T (two8r R k (rowP (2 * n) (i + 1) (fun i => O i (2 * e))) (rowP (2 * n) (i + 1) (fun i => O i (2 * e + 1)))) (k + 2) [(k + 1, bV), (k, bU)] (wx.setCell ⟨bV, p, none⟩ (.int .u64 (O i (2 * e + 1))))) := by
      have := hl.cell (r := k + 1) (b := bV) (by simp) p (O i (2 * e + 1))
      rw [HBs.out] at this
      rw [Hp.out] at this ⊢
      exact (LayB.step (WU := fun i => O i (2 * e)) (WV := fun i => O i (2 * e + 1)) this).less HKs4.out
     clear hl hk hR HM HBq HLb HBs Hp
     go_wp2_with fail
     go_roundw
     case rel => exact ⟨i + 1, idx_next i, by omega, HN⟩
     case measure => simp [intOf]; omega
    · have he' : n = i := by omega
     subst he'
     obtain ⟨q, hq⟩ : ∃ q, q = 7 * n + e := ⟨_, rfl⟩
     have hq8 : q < 7 * n + 3 := by omega
     have hq3 : 3 * n <= q := by omega
     rw [<- hq] at HR1 HR2
     obtain ⟨Bs, hBs⟩ : ∃ Bs, Bs = (two8r R k (rowP (2 * n) n (fun i => O i (2 * e))) (rowP (2 * n) n (fun i => O i (2 * e + 1)))) := ⟨_, rfl⟩
     have HLn : Hid (LayB W s n K3 T Bs (k + 2) [(k + 1, bV), (k, bU)] wr) := by rw [hBs]; exact HL.out
     have HBs : Hid (Bs = (two8r R k (rowP (2 * n) n (fun i => O i (2 * e))) (rowP (2 * n) n (fun i => O i (2 * e + 1))))) := hBs
     have HM : Hid (∀ wx, LayC W s n K3 T Bs (k + 2) [(k + 1, bV), (k, bU)] k q wx -> Calls Tryz.prog 123 #[.pointer (some ⟨s, 0, none⟩), .int .i64 (e : Int)] wx (Ret wx (.int .i64 (q : Int)))) := fun wx hR => (by obtain ⟨v, u, hrow⟩ := hR.row; rw [hq]; exact lm_rho s n e v u wx hn (by omega) hrow)
     have HGr : Hid (∀ wx, LayC W s n K3 T Bs (k + 2) [(k + 1, bV), (k, bU)] k q wx -> wx.heap[gb]? = some (.cells (gc P Q G H a m cap) 25 (0, 0))) := fun wx hR => hR.prot HgK3.out
     clear hq hBs HL
     go_upto_region 15 with fail
     refine wp_region_tab 13 [.k (.slice (some ⟨bU, 0, none⟩) (7 * n + 3) (7 * n + 3)), .k (.pointer (some ⟨s, 0, none⟩)), .k (.int .i64 (e : Int)), .k (.int .i64 (q : Int)), .k (.slice (some ⟨bV, 0, none⟩) (7 * n + 3) (7 * n + 3)), .k (.pointer (some ⟨s, 0, none⟩)), .k (.int .i64 (e : Int)), .k (.int .i64 (q : Int)), .k (.pointer (some ⟨gb, 2, none⟩)), .k (.int .u64 G), .k (.int .u64 y), .k (.pointer (some ⟨bU, q, none⟩)), layCset W s n K3 T Bs (k + 2) [(k + 1, bV), (k, bU)] k q G] (LayC W s n K3 T Bs (k + 2) [(k + 1, bV), (k, bU)] k q) (by kernel_rfl) (by kernel_rfl) rfl (LayC.old _ _ (LayC.of HLn.out) (Old.refl _).drew) ?st ?_
     case st =>
      refine .c stp <| .c stp <| .c stp <| .c (stK LayC.old Tryz.func123 (fun wx hR => HM.out wx hR)) <| .c stp <| .c stp <| .c stp <| .c (stK LayC.old Tryz.func123 (fun wx hR => HM.out wx hR)) <| .c stp <| .c (stf 2 Tryz.underlying22 HGr.out) <| .c stp <| .c (sti0 (n := (7 * n + 3)) (c := (7 * n + 3)) hq8 Tryz.underlying29) <| .c (stS (p := ⟨bU, q, none⟩) (v := .int .u64 G) (fun _ => layC_stS (i := 12) rfl rfl (by simp) hq8)) .n
     intro t wx hR hk
     simp only [fill, Ent.val, layCset, List.set_cons_zero, List.set_cons_succ, List.drop_succ_cons, List.drop_zero, List.drop_nil]
     have hl : LayB W s n K3 T (setR Bs k q G) (k + 2) [(k + 1, bV), (k, bU)] wx := hk 12 (by omega)
     have q1 := (hl.full (r := k + 1) (b := bV) (by simp)).cell q hq8
     have f1 := (hl.full (r := k + 1) (b := bV) (by simp)).free q
     have HN : Hid (LayB W s n Ks T R (k + 2) [] (wx.setCell ⟨bV, q, none⟩ (.int .u64 y))) := by
      have := hl.cell (r := k + 1) (b := bV) (by simp) q y
      rw [HBs.out] at this
      exact (this.finS hq3 HR1.out HR2.out).less HKs3.out
     clear hl hk hR HM HLn HBs HGr
     go_wp2_with fail
     go_end0
     exact ⟨rfl, HN.out⟩
end
section
open Go.RowKit
def fitB (l no na nb np : Nat) : Bool := cnt8 l && decide (no = l) && decide (na = l) && decide (nb = l) && decide (np = l)
theorem fitB_iff {l no na nb np : Nat} : fitB l no na nb np = true ↔ (1 <= l /\ l <= 8) /\ no = l /\ na = l /\ nb = l /\ np = l := by
 unfold fitB
 simp only [Bool.and_eq_true_iff, cnt8_iff, decide_eq_true_eq, and_assoc]
theorem ssizes_any (bi : Option Addr) (l ci : Nat) (bo : Option Addr) (no co : Nat) (ba : Option Addr) (na ca : Nat) (X : Int) (bb : Option Addr) (nb cb : Nat) (Y Z : Int) (bp : Option Addr) (np cp : Nat) (w : World) (hl : l <= 9223372036854775807) :
  Calls Tryz.prog 79 #[.slice bi l ci, .slice bo no co, tk ba na ca X bb nb cb Y Z bp np cp] w (Ret w (.bool (fitB l no na nb np))) := by
 have HW0 : Hid (Old w (w.alloc (.cells (tkc ba na ca X bb nb cb Y Z bp np cp) 41))) := (Old.refl _).alloc _
 have HR0 : Hid ((w.alloc (.cells (tkc ba na ca X bb nb cb Y Z bp np cp) 41)).heap[w.heap.size]? = some (.cells (tkc ba na ca X bb nb cb Y Z bp np cp) 41 (0, 0))) := heap_alloc_last _ _
 have HCn : ∀ wx, Calls Tryz.prog 102 #[.int .i64 (l : Int)] wx fun e w' => e = .returned (.bool (cnt8 l)) /\ w' = wx := fun wx => scount_any l wx hl
 cases hc : cnt8 l with
 | false =>
  have HV : Hid (fitB l no na nb np = false) := by unfold Hid fitB; rw [hc]; simp
  rw [hc] at HCn
  have HCn : Hid (∀ wx, Calls Tryz.prog 102 #[.int .i64 (l : Int)] wx fun e w' => e = .returned (.bool false) /\ w' = wx) := HCn
  go_enter Tryz.func79, Tryz.ntmps79
  go_upto_region 1 with fail
  generalize w.alloc (.cells (tkc ba na ca X bb nb cb Y Z bp np cp) 41) = W1 at *
  have c0 : W1.cell? ⟨w.heap.size, 0, none⟩ = some (.slice ba na ca) := cell_of_row _ _ 0 _ _ (0, 0) HR0.out
  have c2 : W1.cell? ⟨w.heap.size, 2, none⟩ = some (.slice bb nb cb) := cell_of_row _ _ 2 _ _ (0, 0) HR0.out
  have c5 : W1.cell? ⟨w.heap.size, 5, none⟩ = some (.slice bp np cp) := cell_of_row _ _ 5 _ _ (0, 0) HR0.out
  generalize w.heap.size = gb at *
  go_wp2_with (go_at_call 102; refine (HCn.out _).mono ?_; rintro e w1 ⟨rfl, rfl⟩)
  go_ret
  exact ⟨by rw [HV.out]; first | rfl | (show Ending.returned (.bool ((np : Int) == (l : Int))) = _; rw [show ((np : Int) == (l : Int)) = false by simpa using nnp]), HW0.out⟩
 | true =>
  rw [hc] at HCn
  have HCn : Hid (∀ wx, Calls Tryz.prog 102 #[.int .i64 (l : Int)] wx fun e w' => e = .returned (.bool true) /\ w' = wx) := HCn
  by_cases hno : l = no
  case neg =>
   have mno : ¬ no = l := fun h => hno h.symm
   have HV : Hid (fitB l no na nb np = false) := by unfold Hid fitB; simp [mno]
   have nno : ¬ (no : Int) = (l : Int) := by omega
   clear hno mno
   go_enter Tryz.func79, Tryz.ntmps79
   go_upto_region 1 with fail
   generalize w.alloc (.cells (tkc ba na ca X bb nb cb Y Z bp np cp) 41) = W1 at *
   have c0 : W1.cell? ⟨w.heap.size, 0, none⟩ = some (.slice ba na ca) := cell_of_row _ _ 0 _ _ (0, 0) HR0.out
   have c2 : W1.cell? ⟨w.heap.size, 2, none⟩ = some (.slice bb nb cb) := cell_of_row _ _ 2 _ _ (0, 0) HR0.out
   have c5 : W1.cell? ⟨w.heap.size, 5, none⟩ = some (.slice bp np cp) := cell_of_row _ _ 5 _ _ (0, 0) HR0.out
   generalize w.heap.size = gb at *
   go_wp2_with (go_at_call 102; refine (HCn.out _).mono ?_; rintro e w1 ⟨rfl, rfl⟩)
   go_ret
   exact ⟨by rw [HV.out]; first | rfl | (show Ending.returned (.bool ((np : Int) == (l : Int))) = _; rw [show ((np : Int) == (l : Int)) = false by simpa using nnp]), HW0.out⟩
  subst hno
  by_cases hna : l = na
  case neg =>
   have mna : ¬ na = l := fun h => hna h.symm
   have HV : Hid (fitB l l na nb np = false) := by unfold Hid fitB; simp [mna]
   have nna : ¬ (na : Int) = (l : Int) := by omega
   clear hna mna
   go_enter Tryz.func79, Tryz.ntmps79
   go_upto_region 1 with fail
   generalize w.alloc (.cells (tkc ba na ca X bb nb cb Y Z bp np cp) 41) = W1 at *
   have c0 : W1.cell? ⟨w.heap.size, 0, none⟩ = some (.slice ba na ca) := cell_of_row _ _ 0 _ _ (0, 0) HR0.out
   have c2 : W1.cell? ⟨w.heap.size, 2, none⟩ = some (.slice bb nb cb) := cell_of_row _ _ 2 _ _ (0, 0) HR0.out
   have c5 : W1.cell? ⟨w.heap.size, 5, none⟩ = some (.slice bp np cp) := cell_of_row _ _ 5 _ _ (0, 0) HR0.out
   generalize w.heap.size = gb at *
   go_wp2_with (go_at_call 102; refine (HCn.out _).mono ?_; rintro e w1 ⟨rfl, rfl⟩)
   go_ret
   exact ⟨by rw [HV.out]; first | rfl | (show Ending.returned (.bool ((np : Int) == (l : Int))) = _; rw [show ((np : Int) == (l : Int)) = false by simpa using nnp]), HW0.out⟩
  subst hna
  by_cases hnb : l = nb
  case neg =>
   have mnb : ¬ nb = l := fun h => hnb h.symm
   have HV : Hid (fitB l l l nb np = false) := by unfold Hid fitB; simp [mnb]
   have nnb : ¬ (nb : Int) = (l : Int) := by omega
   clear hnb mnb
   go_enter Tryz.func79, Tryz.ntmps79
   go_upto_region 1 with fail
   generalize w.alloc (.cells (tkc ba l ca X bb nb cb Y Z bp np cp) 41) = W1 at *
   have c0 : W1.cell? ⟨w.heap.size, 0, none⟩ = some (.slice ba l ca) := cell_of_row _ _ 0 _ _ (0, 0) HR0.out
   have c2 : W1.cell? ⟨w.heap.size, 2, none⟩ = some (.slice bb nb cb) := cell_of_row _ _ 2 _ _ (0, 0) HR0.out
   have c5 : W1.cell? ⟨w.heap.size, 5, none⟩ = some (.slice bp np cp) := cell_of_row _ _ 5 _ _ (0, 0) HR0.out
   generalize w.heap.size = gb at *
   go_wp2_with (go_at_call 102; refine (HCn.out _).mono ?_; rintro e w1 ⟨rfl, rfl⟩)
   go_ret
   exact ⟨by rw [HV.out]; first | rfl | (show Ending.returned (.bool ((np : Int) == (l : Int))) = _; rw [show ((np : Int) == (l : Int)) = false by simpa using nnp]), HW0.out⟩
  subst hnb
  by_cases hnp : l = np
  case neg =>
   have mnp : ¬ np = l := fun h => hnp h.symm
   have HV : Hid (fitB l l l l np = false) := by unfold Hid fitB; simp [mnp]
   have nnp : ¬ (np : Int) = (l : Int) := by omega
   clear hnp mnp
   go_enter Tryz.func79, Tryz.ntmps79
   go_upto_region 1 with fail
   generalize w.alloc (.cells (tkc ba l ca X bb l cb Y Z bp np cp) 41) = W1 at *
   have c0 : W1.cell? ⟨w.heap.size, 0, none⟩ = some (.slice ba l ca) := cell_of_row _ _ 0 _ _ (0, 0) HR0.out
   have c2 : W1.cell? ⟨w.heap.size, 2, none⟩ = some (.slice bb l cb) := cell_of_row _ _ 2 _ _ (0, 0) HR0.out
   have c5 : W1.cell? ⟨w.heap.size, 5, none⟩ = some (.slice bp np cp) := cell_of_row _ _ 5 _ _ (0, 0) HR0.out
   generalize w.heap.size = gb at *
   go_wp2_with (go_at_call 102; refine (HCn.out _).mono ?_; rintro e w1 ⟨rfl, rfl⟩)
   go_ret
   exact ⟨by rw [HV.out]; first | rfl | (show Ending.returned (.bool ((np : Int) == (l : Int))) = _; rw [show ((np : Int) == (l : Int)) = false by simpa using nnp]), HW0.out⟩
  subst hnp
  have HV : Hid (fitB l l l l l = true) := by unfold Hid fitB; simp [hc]
  go_enter Tryz.func79, Tryz.ntmps79
  go_upto_region 1 with fail
  generalize w.alloc (.cells (tkc ba l ca X bb l cb Y Z bp l cp) 41) = W1 at *
  have c0 : W1.cell? ⟨w.heap.size, 0, none⟩ = some (.slice ba l ca) := cell_of_row _ _ 0 _ _ (0, 0) HR0.out
  have c2 : W1.cell? ⟨w.heap.size, 2, none⟩ = some (.slice bb l cb) := cell_of_row _ _ 2 _ _ (0, 0) HR0.out
  have c5 : W1.cell? ⟨w.heap.size, 5, none⟩ = some (.slice bp l cp) := cell_of_row _ _ 5 _ _ (0, 0) HR0.out
  generalize w.heap.size = gb at *
  go_wp2_with (go_at_call 102; refine (HCn.out _).mono ?_; rintro e w1 ⟨rfl, rfl⟩)
  go_ret
  exact ⟨by rw [HV.out]; first | rfl | (show Ending.returned (.bool ((l : Int) == (l : Int))) = _; rw [show ((l : Int) == (l : Int)) = false by simpa using nnp]), HW0.out⟩
def eltB (P Q y : Int) (l : Nat) (C : Nat -> Nat -> Int) (no : Nat) (O : Nat -> Nat -> Int) (na : Nat) (A : Nat -> Int) (nb : Nat) (B : Nat -> Int) (np : Nat) (Pp : Nat -> Int) : Bool := inI P Q y && batB P Q l C && batB P Q no O && elB P Q na A && elB P Q nb B && elB P Q np Pp
theorem eltB_iff {P Q y : Int} {l : Nat} {C : Nat -> Nat -> Int} {no : Nat} {O : Nat -> Nat -> Int} {na : Nat} {A : Nat -> Int} {nb : Nat} {B : Nat -> Int} {np : Nat} {Pp : Nat -> Int} : eltB P Q y l C no O na A nb B np Pp = true ↔ inI P Q y = true /\ batB P Q l C = true /\ batB P Q no O = true /\ elB P Q na A = true /\ elB P Q nb B = true /\ elB P Q np Pp = true := by
 unfold eltB
 simp only [Bool.and_eq_true_iff, and_assoc]
theorem sallel_any (P Q G H : Int) (a : Option Addr) (m cap : Nat) (y : Int) (bi : Option Addr) (l ci : Nat) (C : Nat -> Nat -> Int) (bo : Option Addr) (no co : Nat) (O : Nat -> Nat -> Int) (ba : Option Addr) (na ca : Nat) (A : Nat -> Int) (X : Int) (bb : Option Addr) (nb cb : Nat) (B : Nat -> Int) (Y Z : Int) (bp : Option Addr) (np cp : Nat) (Pp : Nat -> Int) (w : World) (h4 : Four P Q G H) (hy : U64 y) (hl : l <= 1000) (hno : no <= 1000) (hC : BoxsIn w bi l C) (hO : BoxsIn w bo no O) (hna : na <= 1000) (hnb : nb <= 1000) (hnp : np <= 1000) (hA : FacsIn w ba na A) (hB : FacsIn w bb nb B) (hP : FacsIn w bp np Pp) :
  Calls Tryz.prog 80 #[gv P Q G H a m cap, .int .u64 y, .slice bi l ci, .slice bo no co, tk ba na ca X bb nb cb Y Z bp np cp] w (Ret w (.bool (eltB P Q y l C no O na A nb B np Pp))) := by
 have HZ := lain2 w (gc P Q G H a m cap) (tkc ba na ca X bb nb cb Y Z bp np cp) 25 41
 have HG0 := fun w' ho => (HZ.then (W' := w') ho).row 0 (by simp)
 have HT0 := fun w' ho => (HZ.then (W' := w') ho).row 1 (by simp)
 have HW0 : Hid (Old w ((w.alloc (.cells (gc P Q G H a m cap) 25)).alloc (.cells (tkc ba na ca X bb nb cb Y Z bp np cp) 41))) := HZ.old
 clear HZ
 have HIn : Hid (∀ wx, Old w wx -> Calls Tryz.prog 52 #[gv P Q G H a m cap, .int .u64 y] wx (Ret wx (.bool (inI P Q y)))) := fun wx _ => gin0 P Q G H y a m cap wx h4.q0 h4.q1 hy.2
 have HBi : Hid (∀ wx, Old w wx -> Calls Tryz.prog 51 #[gv P Q G H a m cap, .slice bi l ci] wx (Ret wx (.bool (batB P Q l C)))) := fun wx ho => sbatch_any P Q G H a m cap bi l ci C wx h4 hl (hC.old ho)
 have HBo : Hid (∀ wx, Old w wx -> Calls Tryz.prog 51 #[gv P Q G H a m cap, .slice bo no co] wx (Ret wx (.bool (batB P Q no O)))) := fun wx ho => sbatch_any P Q G H a m cap bo no co O wx h4 hno (hO.old ho)
 have HEA : Hid (∀ wx, Old w wx -> Calls Tryz.prog 103 #[gv P Q G H a m cap, .slice ba na ca] wx (Ret wx (.bool (elB P Q na A)))) := fun wx ho => sels_any P Q G H a m cap ba na ca A wx h4 (by omega) (hA.old ho)
 have HEB : Hid (∀ wx, Old w wx -> Calls Tryz.prog 103 #[gv P Q G H a m cap, .slice bb nb cb] wx (Ret wx (.bool (elB P Q nb B)))) := fun wx ho => sels_any P Q G H a m cap bb nb cb B wx h4 (by omega) (hB.old ho)
 have HEP : Hid (∀ wx, Old w wx -> Calls Tryz.prog 103 #[gv P Q G H a m cap, .slice bp np cp] wx (Ret wx (.bool (elB P Q np Pp)))) := fun wx ho => sels_any P Q G H a m cap bp np cp Pp wx h4 (by omega) (hP.old ho)
 clear h4 hy hl hno hC hO hna hnb hnp hA hB hP
 cases hIn : inI P Q y with
 | false =>
  have HV : Hid (eltB P Q y l C no O na A nb B np Pp = false) := by unfold Hid eltB; simp [hIn]
  rw [hIn] at HIn
  go_enter Tryz.func80, Tryz.ntmps80
  go_upto_region 1 with fail
  generalize (w.alloc (.cells (gc P Q G H a m cap) 25)).alloc (.cells (tkc ba na ca X bb nb cb Y Z bp np cp) 41) = W1 at *
  have HG : Hid (∀ wx, Old W1 wx -> wx.heap[w.heap.size]? = some (.cells (gc P Q G H a m cap) 25 (0, 0))) := HG0
  have HT : Hid (∀ wx, Old W1 wx -> wx.heap[w.heap.size + 1]? = some (.cells (tkc ba na ca X bb nb cb Y Z bp np cp) 41 (0, 0))) := HT0
  clear HG0 HT0
  have HS : Hid (∀ wx, Old W1 wx -> wx.cell? ⟨w.heap.size, 0, none⟩ = some (.int .u64 P) /\ wx.cell? ⟨w.heap.size, 1, none⟩ = some (.int .u64 Q) /\ wx.cell? ⟨w.heap.size, 2, none⟩ = some (.int .u64 G) /\ wx.cell? ⟨w.heap.size, 3, none⟩ = some (.int .u64 H) /\ wx.cell? ⟨w.heap.size, 4, none⟩ = some (.slice a m cap) /\ wx.cell? ⟨w.heap.size + 1, 0, none⟩ = some (.slice ba na ca) /\ wx.cell? ⟨w.heap.size + 1, 2, none⟩ = some (.slice bb nb cb) /\ wx.cell? ⟨w.heap.size + 1, 5, none⟩ = some (.slice bp np cp)) := fun wx ho => ⟨cell_of_row _ _ 0 _ _ (0, 0) (HG.out _ ho), cell_of_row _ _ 1 _ _ (0, 0) (HG.out _ ho), cell_of_row _ _ 2 _ _ (0, 0) (HG.out _ ho), cell_of_row _ _ 3 _ _ (0, 0) (HG.out _ ho), cell_of_row _ _ 4 _ _ (0, 0) (HG.out _ ho), cell_of_row _ _ 0 _ _ (0, 0) (HT.out _ ho), cell_of_row _ _ 2 _ _ (0, 0) (HT.out _ ho), cell_of_row _ _ 5 _ _ (0, 0) (HT.out _ ho)⟩
  clear HG HT
  generalize w.heap.size = gb at *
  have O0 : Hid (Old W1 W1) := Old.refl _
  obtain ⟨x0, x1, x2, x3, x4, x5, x6, x7⟩ := HS.out _ O0.out
  go_wp2_with (first
   | (go_at_call 52; refine (HIn.out _ (HW0.out.trans O0.out)).mono ?_; rintro e w1 ⟨rfl, o⟩; have O1 : Hid (Old W1 w1) := O0.out.trans o; clear o; clear x0 x1 x2 x3 x4 x5 x6 x7; obtain ⟨x0, x1, x2, x3, x4, x5, x6, x7⟩ := HS.out _ O1.out))
  go_ret
  exact ⟨by rw [HV.out]; rfl, HW0.out.trans O1.out⟩
 | true =>
  rw [hIn] at HIn
  cases hBi : batB P Q l C with
  | false =>
   have HV : Hid (eltB P Q y l C no O na A nb B np Pp = false) := by unfold Hid eltB; simp [hBi]
   rw [hBi] at HBi
   go_enter Tryz.func80, Tryz.ntmps80
   go_upto_region 1 with fail
   generalize (w.alloc (.cells (gc P Q G H a m cap) 25)).alloc (.cells (tkc ba na ca X bb nb cb Y Z bp np cp) 41) = W1 at *
   have HG : Hid (∀ wx, Old W1 wx -> wx.heap[w.heap.size]? = some (.cells (gc P Q G H a m cap) 25 (0, 0))) := HG0
   have HT : Hid (∀ wx, Old W1 wx -> wx.heap[w.heap.size + 1]? = some (.cells (tkc ba na ca X bb nb cb Y Z bp np cp) 41 (0, 0))) := HT0
   clear HG0 HT0
   have HS : Hid (∀ wx, Old W1 wx -> wx.cell? ⟨w.heap.size, 0, none⟩ = some (.int .u64 P) /\ wx.cell? ⟨w.heap.size, 1, none⟩ = some (.int .u64 Q) /\ wx.cell? ⟨w.heap.size, 2, none⟩ = some (.int .u64 G) /\ wx.cell? ⟨w.heap.size, 3, none⟩ = some (.int .u64 H) /\ wx.cell? ⟨w.heap.size, 4, none⟩ = some (.slice a m cap) /\ wx.cell? ⟨w.heap.size + 1, 0, none⟩ = some (.slice ba na ca) /\ wx.cell? ⟨w.heap.size + 1, 2, none⟩ = some (.slice bb nb cb) /\ wx.cell? ⟨w.heap.size + 1, 5, none⟩ = some (.slice bp np cp)) := fun wx ho => ⟨cell_of_row _ _ 0 _ _ (0, 0) (HG.out _ ho), cell_of_row _ _ 1 _ _ (0, 0) (HG.out _ ho), cell_of_row _ _ 2 _ _ (0, 0) (HG.out _ ho), cell_of_row _ _ 3 _ _ (0, 0) (HG.out _ ho), cell_of_row _ _ 4 _ _ (0, 0) (HG.out _ ho), cell_of_row _ _ 0 _ _ (0, 0) (HT.out _ ho), cell_of_row _ _ 2 _ _ (0, 0) (HT.out _ ho), cell_of_row _ _ 5 _ _ (0, 0) (HT.out _ ho)⟩
   clear HG HT
   generalize w.heap.size = gb at *
   have O0 : Hid (Old W1 W1) := Old.refl _
   obtain ⟨x0, x1, x2, x3, x4, x5, x6, x7⟩ := HS.out _ O0.out
   go_wp2_with (first
    | (go_at_call 51; refine (HBi.out _ (HW0.out.trans O1.out)).mono ?_; rintro e w2 ⟨rfl, o⟩; have O2 : Hid (Old W1 w2) := O1.out.trans o; clear o; clear x0 x1 x2 x3 x4 x5 x6 x7; obtain ⟨x0, x1, x2, x3, x4, x5, x6, x7⟩ := HS.out _ O2.out)
    | (go_at_call 52; refine (HIn.out _ (HW0.out.trans O0.out)).mono ?_; rintro e w1 ⟨rfl, o⟩; have O1 : Hid (Old W1 w1) := O0.out.trans o; clear o; clear x0 x1 x2 x3 x4 x5 x6 x7; obtain ⟨x0, x1, x2, x3, x4, x5, x6, x7⟩ := HS.out _ O1.out))
   go_ret
   exact ⟨by rw [HV.out]; rfl, HW0.out.trans O2.out⟩
  | true =>
   rw [hBi] at HBi
   cases hBo : batB P Q no O with
   | false =>
    have HV : Hid (eltB P Q y l C no O na A nb B np Pp = false) := by unfold Hid eltB; simp [hBo]
    rw [hBo] at HBo
    go_enter Tryz.func80, Tryz.ntmps80
    go_upto_region 1 with fail
    generalize (w.alloc (.cells (gc P Q G H a m cap) 25)).alloc (.cells (tkc ba na ca X bb nb cb Y Z bp np cp) 41) = W1 at *
    have HG : Hid (∀ wx, Old W1 wx -> wx.heap[w.heap.size]? = some (.cells (gc P Q G H a m cap) 25 (0, 0))) := HG0
    have HT : Hid (∀ wx, Old W1 wx -> wx.heap[w.heap.size + 1]? = some (.cells (tkc ba na ca X bb nb cb Y Z bp np cp) 41 (0, 0))) := HT0
    clear HG0 HT0
    have HS : Hid (∀ wx, Old W1 wx -> wx.cell? ⟨w.heap.size, 0, none⟩ = some (.int .u64 P) /\ wx.cell? ⟨w.heap.size, 1, none⟩ = some (.int .u64 Q) /\ wx.cell? ⟨w.heap.size, 2, none⟩ = some (.int .u64 G) /\ wx.cell? ⟨w.heap.size, 3, none⟩ = some (.int .u64 H) /\ wx.cell? ⟨w.heap.size, 4, none⟩ = some (.slice a m cap) /\ wx.cell? ⟨w.heap.size + 1, 0, none⟩ = some (.slice ba na ca) /\ wx.cell? ⟨w.heap.size + 1, 2, none⟩ = some (.slice bb nb cb) /\ wx.cell? ⟨w.heap.size + 1, 5, none⟩ = some (.slice bp np cp)) := fun wx ho => ⟨cell_of_row _ _ 0 _ _ (0, 0) (HG.out _ ho), cell_of_row _ _ 1 _ _ (0, 0) (HG.out _ ho), cell_of_row _ _ 2 _ _ (0, 0) (HG.out _ ho), cell_of_row _ _ 3 _ _ (0, 0) (HG.out _ ho), cell_of_row _ _ 4 _ _ (0, 0) (HG.out _ ho), cell_of_row _ _ 0 _ _ (0, 0) (HT.out _ ho), cell_of_row _ _ 2 _ _ (0, 0) (HT.out _ ho), cell_of_row _ _ 5 _ _ (0, 0) (HT.out _ ho)⟩
    clear HG HT
    generalize w.heap.size = gb at *
    have O0 : Hid (Old W1 W1) := Old.refl _
    obtain ⟨x0, x1, x2, x3, x4, x5, x6, x7⟩ := HS.out _ O0.out
    go_wp2_with (first
     | (go_at_call 51; refine (HBo.out _ (HW0.out.trans O2.out)).mono ?_; rintro e w3 ⟨rfl, o⟩; have O3 : Hid (Old W1 w3) := O2.out.trans o; clear o; clear x0 x1 x2 x3 x4 x5 x6 x7; obtain ⟨x0, x1, x2, x3, x4, x5, x6, x7⟩ := HS.out _ O3.out)
     | (go_at_call 51; refine (HBi.out _ (HW0.out.trans O1.out)).mono ?_; rintro e w2 ⟨rfl, o⟩; have O2 : Hid (Old W1 w2) := O1.out.trans o; clear o; clear x0 x1 x2 x3 x4 x5 x6 x7; obtain ⟨x0, x1, x2, x3, x4, x5, x6, x7⟩ := HS.out _ O2.out)
     | (go_at_call 52; refine (HIn.out _ (HW0.out.trans O0.out)).mono ?_; rintro e w1 ⟨rfl, o⟩; have O1 : Hid (Old W1 w1) := O0.out.trans o; clear o; clear x0 x1 x2 x3 x4 x5 x6 x7; obtain ⟨x0, x1, x2, x3, x4, x5, x6, x7⟩ := HS.out _ O1.out))
    go_ret
    exact ⟨by rw [HV.out]; rfl, HW0.out.trans O3.out⟩
   | true =>
    rw [hBo] at HBo
    cases hEA : elB P Q na A with
    | false =>
     have HV : Hid (eltB P Q y l C no O na A nb B np Pp = false) := by unfold Hid eltB; simp [hEA]
     rw [hEA] at HEA
     go_enter Tryz.func80, Tryz.ntmps80
     go_upto_region 1 with fail
     generalize (w.alloc (.cells (gc P Q G H a m cap) 25)).alloc (.cells (tkc ba na ca X bb nb cb Y Z bp np cp) 41) = W1 at *
     have HG : Hid (∀ wx, Old W1 wx -> wx.heap[w.heap.size]? = some (.cells (gc P Q G H a m cap) 25 (0, 0))) := HG0
     have HT : Hid (∀ wx, Old W1 wx -> wx.heap[w.heap.size + 1]? = some (.cells (tkc ba na ca X bb nb cb Y Z bp np cp) 41 (0, 0))) := HT0
     clear HG0 HT0
     have HS : Hid (∀ wx, Old W1 wx -> wx.cell? ⟨w.heap.size, 0, none⟩ = some (.int .u64 P) /\ wx.cell? ⟨w.heap.size, 1, none⟩ = some (.int .u64 Q) /\ wx.cell? ⟨w.heap.size, 2, none⟩ = some (.int .u64 G) /\ wx.cell? ⟨w.heap.size, 3, none⟩ = some (.int .u64 H) /\ wx.cell? ⟨w.heap.size, 4, none⟩ = some (.slice a m cap) /\ wx.cell? ⟨w.heap.size + 1, 0, none⟩ = some (.slice ba na ca) /\ wx.cell? ⟨w.heap.size + 1, 2, none⟩ = some (.slice bb nb cb) /\ wx.cell? ⟨w.heap.size + 1, 5, none⟩ = some (.slice bp np cp)) := fun wx ho => ⟨cell_of_row _ _ 0 _ _ (0, 0) (HG.out _ ho), cell_of_row _ _ 1 _ _ (0, 0) (HG.out _ ho), cell_of_row _ _ 2 _ _ (0, 0) (HG.out _ ho), cell_of_row _ _ 3 _ _ (0, 0) (HG.out _ ho), cell_of_row _ _ 4 _ _ (0, 0) (HG.out _ ho), cell_of_row _ _ 0 _ _ (0, 0) (HT.out _ ho), cell_of_row _ _ 2 _ _ (0, 0) (HT.out _ ho), cell_of_row _ _ 5 _ _ (0, 0) (HT.out _ ho)⟩
     clear HG HT
     generalize w.heap.size = gb at *
     have O0 : Hid (Old W1 W1) := Old.refl _
     obtain ⟨x0, x1, x2, x3, x4, x5, x6, x7⟩ := HS.out _ O0.out
     go_wp2_with (first
      | (go_at_call 103; refine (HEA.out _ (HW0.out.trans O3.out)).mono ?_; rintro e w4 ⟨rfl, o⟩; have O4 : Hid (Old W1 w4) := O3.out.trans o; clear o; clear x0 x1 x2 x3 x4 x5 x6 x7; obtain ⟨x0, x1, x2, x3, x4, x5, x6, x7⟩ := HS.out _ O4.out)
      | (go_at_call 51; refine (HBo.out _ (HW0.out.trans O2.out)).mono ?_; rintro e w3 ⟨rfl, o⟩; have O3 : Hid (Old W1 w3) := O2.out.trans o; clear o; clear x0 x1 x2 x3 x4 x5 x6 x7; obtain ⟨x0, x1, x2, x3, x4, x5, x6, x7⟩ := HS.out _ O3.out)
      | (go_at_call 51; refine (HBi.out _ (HW0.out.trans O1.out)).mono ?_; rintro e w2 ⟨rfl, o⟩; have O2 : Hid (Old W1 w2) := O1.out.trans o; clear o; clear x0 x1 x2 x3 x4 x5 x6 x7; obtain ⟨x0, x1, x2, x3, x4, x5, x6, x7⟩ := HS.out _ O2.out)
      | (go_at_call 52; refine (HIn.out _ (HW0.out.trans O0.out)).mono ?_; rintro e w1 ⟨rfl, o⟩; have O1 : Hid (Old W1 w1) := O0.out.trans o; clear o; clear x0 x1 x2 x3 x4 x5 x6 x7; obtain ⟨x0, x1, x2, x3, x4, x5, x6, x7⟩ := HS.out _ O1.out))
     go_ret
     exact ⟨by rw [HV.out]; rfl, HW0.out.trans O4.out⟩
    | true =>
     rw [hEA] at HEA
     cases hEB : elB P Q nb B with
     | false =>
      have HV : Hid (eltB P Q y l C no O na A nb B np Pp = false) := by unfold Hid eltB; simp [hEB]
      rw [hEB] at HEB
      go_enter Tryz.func80, Tryz.ntmps80
      go_upto_region 1 with fail
      generalize (w.alloc (.cells (gc P Q G H a m cap) 25)).alloc (.cells (tkc ba na ca X bb nb cb Y Z bp np cp) 41) = W1 at *
      have HG : Hid (∀ wx, Old W1 wx -> wx.heap[w.heap.size]? = some (.cells (gc P Q G H a m cap) 25 (0, 0))) := HG0
      have HT : Hid (∀ wx, Old W1 wx -> wx.heap[w.heap.size + 1]? = some (.cells (tkc ba na ca X bb nb cb Y Z bp np cp) 41 (0, 0))) := HT0
      clear HG0 HT0
      have HS : Hid (∀ wx, Old W1 wx -> wx.cell? ⟨w.heap.size, 0, none⟩ = some (.int .u64 P) /\ wx.cell? ⟨w.heap.size, 1, none⟩ = some (.int .u64 Q) /\ wx.cell? ⟨w.heap.size, 2, none⟩ = some (.int .u64 G) /\ wx.cell? ⟨w.heap.size, 3, none⟩ = some (.int .u64 H) /\ wx.cell? ⟨w.heap.size, 4, none⟩ = some (.slice a m cap) /\ wx.cell? ⟨w.heap.size + 1, 0, none⟩ = some (.slice ba na ca) /\ wx.cell? ⟨w.heap.size + 1, 2, none⟩ = some (.slice bb nb cb) /\ wx.cell? ⟨w.heap.size + 1, 5, none⟩ = some (.slice bp np cp)) := fun wx ho => ⟨cell_of_row _ _ 0 _ _ (0, 0) (HG.out _ ho), cell_of_row _ _ 1 _ _ (0, 0) (HG.out _ ho), cell_of_row _ _ 2 _ _ (0, 0) (HG.out _ ho), cell_of_row _ _ 3 _ _ (0, 0) (HG.out _ ho), cell_of_row _ _ 4 _ _ (0, 0) (HG.out _ ho), cell_of_row _ _ 0 _ _ (0, 0) (HT.out _ ho), cell_of_row _ _ 2 _ _ (0, 0) (HT.out _ ho), cell_of_row _ _ 5 _ _ (0, 0) (HT.out _ ho)⟩
      clear HG HT
      generalize w.heap.size = gb at *
      have O0 : Hid (Old W1 W1) := Old.refl _
      obtain ⟨x0, x1, x2, x3, x4, x5, x6, x7⟩ := HS.out _ O0.out
      go_wp2_with (first
       | (go_at_call 103; refine (HEB.out _ (HW0.out.trans O4.out)).mono ?_; rintro e w5 ⟨rfl, o⟩; have O5 : Hid (Old W1 w5) := O4.out.trans o; clear o; clear x0 x1 x2 x3 x4 x5 x6 x7; obtain ⟨x0, x1, x2, x3, x4, x5, x6, x7⟩ := HS.out _ O5.out)
       | (go_at_call 103; refine (HEA.out _ (HW0.out.trans O3.out)).mono ?_; rintro e w4 ⟨rfl, o⟩; have O4 : Hid (Old W1 w4) := O3.out.trans o; clear o; clear x0 x1 x2 x3 x4 x5 x6 x7; obtain ⟨x0, x1, x2, x3, x4, x5, x6, x7⟩ := HS.out _ O4.out)
       | (go_at_call 51; refine (HBo.out _ (HW0.out.trans O2.out)).mono ?_; rintro e w3 ⟨rfl, o⟩; have O3 : Hid (Old W1 w3) := O2.out.trans o; clear o; clear x0 x1 x2 x3 x4 x5 x6 x7; obtain ⟨x0, x1, x2, x3, x4, x5, x6, x7⟩ := HS.out _ O3.out)
       | (go_at_call 51; refine (HBi.out _ (HW0.out.trans O1.out)).mono ?_; rintro e w2 ⟨rfl, o⟩; have O2 : Hid (Old W1 w2) := O1.out.trans o; clear o; clear x0 x1 x2 x3 x4 x5 x6 x7; obtain ⟨x0, x1, x2, x3, x4, x5, x6, x7⟩ := HS.out _ O2.out)
       | (go_at_call 52; refine (HIn.out _ (HW0.out.trans O0.out)).mono ?_; rintro e w1 ⟨rfl, o⟩; have O1 : Hid (Old W1 w1) := O0.out.trans o; clear o; clear x0 x1 x2 x3 x4 x5 x6 x7; obtain ⟨x0, x1, x2, x3, x4, x5, x6, x7⟩ := HS.out _ O1.out))
      go_ret
      exact ⟨by rw [HV.out]; rfl, HW0.out.trans O5.out⟩
     | true =>
      rw [hEB] at HEB
      cases hEP : elB P Q np Pp with
      | false =>
       have HV : Hid (eltB P Q y l C no O na A nb B np Pp = false) := by unfold Hid eltB; simp [hEP]
       rw [hEP] at HEP
       go_enter Tryz.func80, Tryz.ntmps80
       go_upto_region 1 with fail
       generalize (w.alloc (.cells (gc P Q G H a m cap) 25)).alloc (.cells (tkc ba na ca X bb nb cb Y Z bp np cp) 41) = W1 at *
       have HG : Hid (∀ wx, Old W1 wx -> wx.heap[w.heap.size]? = some (.cells (gc P Q G H a m cap) 25 (0, 0))) := HG0
       have HT : Hid (∀ wx, Old W1 wx -> wx.heap[w.heap.size + 1]? = some (.cells (tkc ba na ca X bb nb cb Y Z bp np cp) 41 (0, 0))) := HT0
       clear HG0 HT0
       have HS : Hid (∀ wx, Old W1 wx -> wx.cell? ⟨w.heap.size, 0, none⟩ = some (.int .u64 P) /\ wx.cell? ⟨w.heap.size, 1, none⟩ = some (.int .u64 Q) /\ wx.cell? ⟨w.heap.size, 2, none⟩ = some (.int .u64 G) /\ wx.cell? ⟨w.heap.size, 3, none⟩ = some (.int .u64 H) /\ wx.cell? ⟨w.heap.size, 4, none⟩ = some (.slice a m cap) /\ wx.cell? ⟨w.heap.size + 1, 0, none⟩ = some (.slice ba na ca) /\ wx.cell? ⟨w.heap.size + 1, 2, none⟩ = some (.slice bb nb cb) /\ wx.cell? ⟨w.heap.size + 1, 5, none⟩ = some (.slice bp np cp)) := fun wx ho => ⟨cell_of_row _ _ 0 _ _ (0, 0) (HG.out _ ho), cell_of_row _ _ 1 _ _ (0, 0) (HG.out _ ho), cell_of_row _ _ 2 _ _ (0, 0) (HG.out _ ho), cell_of_row _ _ 3 _ _ (0, 0) (HG.out _ ho), cell_of_row _ _ 4 _ _ (0, 0) (HG.out _ ho), cell_of_row _ _ 0 _ _ (0, 0) (HT.out _ ho), cell_of_row _ _ 2 _ _ (0, 0) (HT.out _ ho), cell_of_row _ _ 5 _ _ (0, 0) (HT.out _ ho)⟩
       clear HG HT
       generalize w.heap.size = gb at *
       have O0 : Hid (Old W1 W1) := Old.refl _
       obtain ⟨x0, x1, x2, x3, x4, x5, x6, x7⟩ := HS.out _ O0.out
       go_wp2_with (first
        | (go_at_call 103; refine (HEP.out _ (HW0.out.trans O5.out)).mono ?_; rintro e w6 ⟨rfl, o⟩; have O6 : Hid (Old W1 w6) := O5.out.trans o; clear o; clear x0 x1 x2 x3 x4 x5 x6 x7; obtain ⟨x0, x1, x2, x3, x4, x5, x6, x7⟩ := HS.out _ O6.out)
        | (go_at_call 103; refine (HEB.out _ (HW0.out.trans O4.out)).mono ?_; rintro e w5 ⟨rfl, o⟩; have O5 : Hid (Old W1 w5) := O4.out.trans o; clear o; clear x0 x1 x2 x3 x4 x5 x6 x7; obtain ⟨x0, x1, x2, x3, x4, x5, x6, x7⟩ := HS.out _ O5.out)
        | (go_at_call 103; refine (HEA.out _ (HW0.out.trans O3.out)).mono ?_; rintro e w4 ⟨rfl, o⟩; have O4 : Hid (Old W1 w4) := O3.out.trans o; clear o; clear x0 x1 x2 x3 x4 x5 x6 x7; obtain ⟨x0, x1, x2, x3, x4, x5, x6, x7⟩ := HS.out _ O4.out)
        | (go_at_call 51; refine (HBo.out _ (HW0.out.trans O2.out)).mono ?_; rintro e w3 ⟨rfl, o⟩; have O3 : Hid (Old W1 w3) := O2.out.trans o; clear o; clear x0 x1 x2 x3 x4 x5 x6 x7; obtain ⟨x0, x1, x2, x3, x4, x5, x6, x7⟩ := HS.out _ O3.out)
        | (go_at_call 51; refine (HBi.out _ (HW0.out.trans O1.out)).mono ?_; rintro e w2 ⟨rfl, o⟩; have O2 : Hid (Old W1 w2) := O1.out.trans o; clear o; clear x0 x1 x2 x3 x4 x5 x6 x7; obtain ⟨x0, x1, x2, x3, x4, x5, x6, x7⟩ := HS.out _ O2.out)
        | (go_at_call 52; refine (HIn.out _ (HW0.out.trans O0.out)).mono ?_; rintro e w1 ⟨rfl, o⟩; have O1 : Hid (Old W1 w1) := O0.out.trans o; clear o; clear x0 x1 x2 x3 x4 x5 x6 x7; obtain ⟨x0, x1, x2, x3, x4, x5, x6, x7⟩ := HS.out _ O1.out))
       go_ret
       exact ⟨by rw [HV.out]; rfl, HW0.out.trans O6.out⟩
      | true =>
       rw [hEP] at HEP
       have HV : Hid (eltB P Q y l C no O na A nb B np Pp = true) := by unfold Hid eltB; simp [hIn, hBi, hBo, hEA, hEB, hEP]
       go_enter Tryz.func80, Tryz.ntmps80
       go_upto_region 1 with fail
       generalize (w.alloc (.cells (gc P Q G H a m cap) 25)).alloc (.cells (tkc ba na ca X bb nb cb Y Z bp np cp) 41) = W1 at *
       have HG : Hid (∀ wx, Old W1 wx -> wx.heap[w.heap.size]? = some (.cells (gc P Q G H a m cap) 25 (0, 0))) := HG0
       have HT : Hid (∀ wx, Old W1 wx -> wx.heap[w.heap.size + 1]? = some (.cells (tkc ba na ca X bb nb cb Y Z bp np cp) 41 (0, 0))) := HT0
       clear HG0 HT0
       have HS : Hid (∀ wx, Old W1 wx -> wx.cell? ⟨w.heap.size, 0, none⟩ = some (.int .u64 P) /\ wx.cell? ⟨w.heap.size, 1, none⟩ = some (.int .u64 Q) /\ wx.cell? ⟨w.heap.size, 2, none⟩ = some (.int .u64 G) /\ wx.cell? ⟨w.heap.size, 3, none⟩ = some (.int .u64 H) /\ wx.cell? ⟨w.heap.size, 4, none⟩ = some (.slice a m cap) /\ wx.cell? ⟨w.heap.size + 1, 0, none⟩ = some (.slice ba na ca) /\ wx.cell? ⟨w.heap.size + 1, 2, none⟩ = some (.slice bb nb cb) /\ wx.cell? ⟨w.heap.size + 1, 5, none⟩ = some (.slice bp np cp)) := fun wx ho => ⟨cell_of_row _ _ 0 _ _ (0, 0) (HG.out _ ho), cell_of_row _ _ 1 _ _ (0, 0) (HG.out _ ho), cell_of_row _ _ 2 _ _ (0, 0) (HG.out _ ho), cell_of_row _ _ 3 _ _ (0, 0) (HG.out _ ho), cell_of_row _ _ 4 _ _ (0, 0) (HG.out _ ho), cell_of_row _ _ 0 _ _ (0, 0) (HT.out _ ho), cell_of_row _ _ 2 _ _ (0, 0) (HT.out _ ho), cell_of_row _ _ 5 _ _ (0, 0) (HT.out _ ho)⟩
       clear HG HT
       generalize w.heap.size = gb at *
       have O0 : Hid (Old W1 W1) := Old.refl _
       obtain ⟨x0, x1, x2, x3, x4, x5, x6, x7⟩ := HS.out _ O0.out
       go_wp2_with (first
        | (go_at_call 103; refine (HEP.out _ (HW0.out.trans O5.out)).mono ?_; rintro e w6 ⟨rfl, o⟩; have O6 : Hid (Old W1 w6) := O5.out.trans o; clear o; clear x0 x1 x2 x3 x4 x5 x6 x7; obtain ⟨x0, x1, x2, x3, x4, x5, x6, x7⟩ := HS.out _ O6.out)
        | (go_at_call 103; refine (HEB.out _ (HW0.out.trans O4.out)).mono ?_; rintro e w5 ⟨rfl, o⟩; have O5 : Hid (Old W1 w5) := O4.out.trans o; clear o; clear x0 x1 x2 x3 x4 x5 x6 x7; obtain ⟨x0, x1, x2, x3, x4, x5, x6, x7⟩ := HS.out _ O5.out)
        | (go_at_call 103; refine (HEA.out _ (HW0.out.trans O3.out)).mono ?_; rintro e w4 ⟨rfl, o⟩; have O4 : Hid (Old W1 w4) := O3.out.trans o; clear o; clear x0 x1 x2 x3 x4 x5 x6 x7; obtain ⟨x0, x1, x2, x3, x4, x5, x6, x7⟩ := HS.out _ O4.out)
        | (go_at_call 51; refine (HBo.out _ (HW0.out.trans O2.out)).mono ?_; rintro e w3 ⟨rfl, o⟩; have O3 : Hid (Old W1 w3) := O2.out.trans o; clear o; clear x0 x1 x2 x3 x4 x5 x6 x7; obtain ⟨x0, x1, x2, x3, x4, x5, x6, x7⟩ := HS.out _ O3.out)
        | (go_at_call 51; refine (HBi.out _ (HW0.out.trans O1.out)).mono ?_; rintro e w2 ⟨rfl, o⟩; have O2 : Hid (Old W1 w2) := O1.out.trans o; clear o; clear x0 x1 x2 x3 x4 x5 x6 x7; obtain ⟨x0, x1, x2, x3, x4, x5, x6, x7⟩ := HS.out _ O2.out)
        | (go_at_call 52; refine (HIn.out _ (HW0.out.trans O0.out)).mono ?_; rintro e w1 ⟨rfl, o⟩; have O1 : Hid (Old W1 w1) := O0.out.trans o; clear o; clear x0 x1 x2 x3 x4 x5 x6 x7; obtain ⟨x0, x1, x2, x3, x4, x5, x6, x7⟩ := HS.out _ O1.out))
       go_ret
       exact ⟨by rw [HV.out]; rfl, HW0.out.trans O6.out⟩
end
end Go.Proofs.YtlnmjbbpenhdbaaGreat
