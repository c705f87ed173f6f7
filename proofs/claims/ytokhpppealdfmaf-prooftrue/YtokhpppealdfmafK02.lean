/-
  The first inner loop of the document's Sum: the 64 words of a piece.
-/
import Derived.Test.YtokhpppealdfmafK01
import Derived.Deep.CutRange
import Derived.Deep.CutBlock
import Derived.Deep.DeepCutAuto
import Derived.Deep.RegionHeld3
import Derived.Laws.BitsAllLaws
namespace Go.Proofs.Ytokhpppealdfmaf
open Go.RowKit

/-- The block of that number in a body. -/
def findBlock (n : Nat) : Code → Option Code
  | .block m c => if m = n then some (.block m c) else findBlock n c
  | .seq a b => match findBlock n a with
    | some c => some c
    | none => findBlock n b
  | .loop c => findBlock n c
  | .cond _ a b => match findBlock n a with
    | some c => some c
    | none => findBlock n b
  | _ => none

theorem words_step {W wr : World} {ty : TypeId} {D : Nat → Int} {t : Nat} {v : Int} (h : Old W wr ∧ wr.rowIs W.heap.size ty 64 (fun j => .int .u32 (sched D t j))) (hv : v = word D (sched D t) t) :
    Old W (wr.setCell ⟨W.heap.size, t, none⟩ (.int .u32 v)) ∧ (wr.setCell ⟨W.heap.size, t, none⟩ (.int .u32 v)).rowIs W.heap.size ty 64 (fun j => .int .u32 (sched D (t + 1) j)) := by
  refine ⟨h.1.setCell (Nat.le_refl _) _, (h.2.set t _).congr fun j _ => ?_⟩
  show (if j = t then Value.int .u32 v else .int .u32 (sched D t j)) = .int .u32 (if j = t then word D (sched D t) t else sched D t j)
  split
  · rw [hv]
  · rfl

/-- Two cells of a row hold what they held behind a store into a third. -/
theorem keep_two {w : World} {b t i j : Nat} {x y v : Value} (h : w.cell? ⟨b, i, none⟩ = some x ∧ w.cell? ⟨b, j, none⟩ = some y) (hi : t ≠ i) (hj : t ≠ j) : (w.setCell ⟨b, t, none⟩ v).cell? ⟨b, i, none⟩ = some x ∧ (w.setCell ⟨b, t, none⟩ v).cell? ⟨b, j, none⟩ = some y := by
  refine ⟨?_, ?_⟩
  · rw [World.cell?_setCell_other _ _ _ _ (fun e => hi (congrArg Addr.off e))]
    exact h.1
  · rw [World.cell?_setCell_other _ _ _ _ (fun e => hj (congrArg Addr.off e))]
    exact h.2

theorem add_four (a b c d : Int) : add32 (add32 (add32 a b) c) d = (a + b + c + d) % 4294967296 := by
  unfold add32
  omega
theorem word_low {D : Nat → Int} {S : Nat → Int} {t : Nat} (h : t < 16) : word D S t = four (D (4 * t)) (D (4 * t + 1)) (D (4 * t + 2)) (D (4 * t + 3)) := by
  unfold word
  rw [if_pos h]
theorem word_high {D : Nat → Int} {S : Nat → Int} {t : Nat} (h : ¬ t < 16) : word D S t = add32 (add32 (add32 (S (t - 16)) (low0 (S (t - 15)))) (S (t - 7))) (low1 (S (t - 2))) := by
  unfold word
  rw [if_neg h]

set_option maxRecDepth 100000 in
set_option maxHeartbeats 4000000 in
theorem words_loop {K : Act → World → Prop} {Q' : Exit → Act → World → Prop} (W w0 : World) (B : Nat → Int) (g M bc c : Nat) (c0 c1 c2 c3 c4 c9 c10 c11 c12 c13 c14 c15 c16 c17 c18 c19 c20 c21 c22 c23 c24 c25 c26 c27 c28 c29 c30 c31 c32 c33 c34 c35 c36 c37 c38 c39 c40 c41 c42 c43 c44 c45 c46 c47 c48 c49 c50 c51 c52 c53 c54 c55 c56 c57 c58 c59 c60 c61 c62 c63 c64 c65 c66 c67 c68 c69 c70 c71 c72 c73 c74 c75 c76 c77 c78 c79 c80 c81 c82 c83 c84 c85 c86 c87 c88 c89 c90 c91 c92 c93 c94 c95 c96 c97 c98 c99 c100 c101 c102 c103 c104 c105 c106 c107 c108 c109 c110 c111 c112 c113 c114 c115 c116 c117 c118 c119 c120 c121 c122 c123 c124 c125 c126 c127 c128 c129 c130 c131 c132 c133 c134 c135 c136 c137 c138 c139 c140 c141 c142 c143 c144 c145 c146 c147 c148 c149 c150 c151 c152 c153 c154 c155 c156 c157 c158 c159 c160 c161 c162 c163 c164 c165 c166 c167 c168 c169 c170 c171 c172 c173 c174 c175 c176 c177 c178 c179 c180 c181 c182 c183 c184 c185 c186 c187 c188 c189 c190 c191 c192 c193 c194 c195 c196 c197 c198 c199 c200 c201 c202 c203 c204 c205 c206 c207 c208 c209 c210 c211 c212 c213 c214 c215 c216 c217 c218 c219 c220 c221 c222 c223 c224 c225 c226 c227 c228 c229 c230 c231 c232 c233 c234 c235 c236 c237 c238 c239 c240 c241 c242 c243 c244 c245 c246 c247 c248 c249 c250 c251 c252 c253 c254 c255 c256 c257 c258 c259 c260 c261 c262 c263 c264 c265 c266 c267 : Value)
    (hM : 64 * c + 64 ≤ M) (hM2 : M ≤ 2000000) (hold : Old W w0) (htext : ∀ j, j < M → W.cell? ⟨g, j, none⟩ = some (.int .u8 (B j))) (hB : ∀ i, 0 ≤ B i ∧ B i ≤ 255)
    (hrow : w0.rowIs W.heap.size 124 64 (fun _ => .int .u32 0))
    (hK : ∀ (u8 u9 u10 u11 u47 u48 u49 u50 u51 u52 u53 u54 u55 u56 u57 u58 u59 u60 u61 u62 u63 u64 u65 u66 u67 u68 u69 u70 u71 u72 u73 u74 u75 u76 u77 u78 u79 u80 u81 u82 u83 u84 u85 u86 u87 u88 u89 u90 u91 u92 u93 u94 u95 u96 u97 u98 u99 u100 u101 u102 u103 u104 u105 u106 u107 u108 u109 u110 u111 u112 u113 u114 u115 u116 u117 u118 u119 u120 u121 u122 u123 u124 u125 u126 u127 u128 u129 u130 : Value) (w' : World), Old W w' → w'.rowIs W.heap.size 124 64 (fun j => .int .u32 (sched (fun j => B (64 * c + j)) 64 j)) → K ⟨#[c0, c1, c2, c3, c4, .slice (some ⟨g, 0, none⟩) M bc, .int .i64 (64 * (c : Int)), .slice (some ⟨W.heap.size, 0, none⟩) 64 64, u8, u9, u10, u11, c12, c13, c14, c15, c16, c17, c18, c19, c20, c21, c22, c23, c24, c25, c26, c27, c28, c29, c30, c31, c32, c33, c34, c35, c36, c37, c38, c39, c40, c41, c42, c43, c44, c45, c46, u47, u48, u49, u50, u51, u52, u53, u54, u55, u56, u57, u58, u59, u60, u61, u62, u63, u64, u65, u66, u67, u68, u69, u70, u71, u72, u73, u74, u75, u76, u77, u78, u79, u80, u81, u82, u83, u84, u85, u86, u87, u88, u89, u90, u91, u92, u93, u94, u95, u96, u97, u98, u99, u100, u101, u102, u103, u104, u105, u106, u107, u108, u109, u110, u111, u112, u113, u114, u115, u116, u117, u118, u119, u120, u121, u122, u123, u124, u125, u126, u127, u128, u129, u130, c131, c132, c133, c134, c135, c136, c137, c138, c139, c140, c141, c142, c143, c144, c145, c146, c147, c148, c149, c150, c151, c152, c153, c154, c155, c156, c157, c158, c159, c160, c161, c162, c163, c164, c165, c166, c167, c168, c169, c170, c171, c172, c173, c174, c175, c176, c177, c178, c179, c180, c181, c182, c183, c184, c185, c186, c187, c188, c189, c190, c191, c192, c193, c194, c195, c196, c197, c198, c199, c200, c201, c202, c203, c204, c205, c206, c207, c208, c209, c210, c211, c212, c213, c214, c215, c216, c217, c218, c219, c220, c221, c222, c223, c224, c225, c226, c227, c228, c229, c230, c231, c232, c233, c234, c235, c236, c237, c238, c239, c240, c241, c242, c243, c244, c245, c246, c247, c248, c249, c250, c251, c252, c253, c254, c255, c256, c257, c258, c259, c260, c261, c262, c263, c264, c265, c266, c267], []⟩ w') :
    Code.wp Try.prog ((findBlock 4 (Try.f93.body.getD .skip)).getD .skip) (Exit.then K Q') ⟨#[c0, c1, c2, c3, c4, .slice (some ⟨g, 0, none⟩) M bc, .int .i64 (64 * (c : Int)), .slice (some ⟨W.heap.size, 0, none⟩) 64 64, .int .i64 0, c9, c10, c11, c12, c13, c14, c15, c16, c17, c18, c19, c20, c21, c22, c23, c24, c25, c26, c27, c28, c29, c30, c31, c32, c33, c34, c35, c36, c37, c38, c39, c40, c41, c42, c43, c44, c45, c46, c47, c48, c49, c50, c51, c52, c53, c54, c55, c56, c57, c58, c59, c60, c61, c62, c63, c64, c65, c66, c67, c68, c69, c70, c71, c72, c73, c74, c75, c76, c77, c78, c79, c80, c81, c82, c83, c84, c85, c86, c87, c88, c89, c90, c91, c92, c93, c94, c95, c96, c97, c98, c99, c100, c101, c102, c103, c104, c105, c106, c107, c108, c109, c110, c111, c112, c113, c114, c115, c116, c117, c118, c119, c120, c121, c122, c123, c124, c125, c126, c127, c128, c129, c130, c131, c132, c133, c134, c135, c136, c137, c138, c139, c140, c141, c142, c143, c144, c145, c146, c147, c148, c149, c150, c151, c152, c153, c154, c155, c156, c157, c158, c159, c160, c161, c162, c163, c164, c165, c166, c167, c168, c169, c170, c171, c172, c173, c174, c175, c176, c177, c178, c179, c180, c181, c182, c183, c184, c185, c186, c187, c188, c189, c190, c191, c192, c193, c194, c195, c196, c197, c198, c199, c200, c201, c202, c203, c204, c205, c206, c207, c208, c209, c210, c211, c212, c213, c214, c215, c216, c217, c218, c219, c220, c221, c222, c223, c224, c225, c226, c227, c228, c229, c230, c231, c232, c233, c234, c235, c236, c237, c238, c239, c240, c241, c242, c243, c244, c245, c246, c247, c248, c249, c250, c251, c252, c253, c254, c255, c256, c257, c258, c259, c260, c261, c262, c263, c264, c265, c266, c267], []⟩ w0 := by
  conv => arg 2; whnf
  have HT : Hid (∀ j, j < M → W.cell? ⟨g, j, none⟩ = some (.int .u8 (B j))) := htext
  have HB : Hid (∀ i, 0 ≤ B i ∧ B i ≤ 255) := hB
  have HK : Hid (∀ (u8 u9 u10 u11 u47 u48 u49 u50 u51 u52 u53 u54 u55 u56 u57 u58 u59 u60 u61 u62 u63 u64 u65 u66 u67 u68 u69 u70 u71 u72 u73 u74 u75 u76 u77 u78 u79 u80 u81 u82 u83 u84 u85 u86 u87 u88 u89 u90 u91 u92 u93 u94 u95 u96 u97 u98 u99 u100 u101 u102 u103 u104 u105 u106 u107 u108 u109 u110 u111 u112 u113 u114 u115 u116 u117 u118 u119 u120 u121 u122 u123 u124 u125 u126 u127 u128 u129 u130 : Value) (w' : World), Old W w' → w'.rowIs W.heap.size 124 64 (fun j => .int .u32 (sched (fun j => B (64 * c + j)) 64 j)) → K ⟨#[c0, c1, c2, c3, c4, .slice (some ⟨g, 0, none⟩) M bc, .int .i64 (64 * (c : Int)), .slice (some ⟨W.heap.size, 0, none⟩) 64 64, u8, u9, u10, u11, c12, c13, c14, c15, c16, c17, c18, c19, c20, c21, c22, c23, c24, c25, c26, c27, c28, c29, c30, c31, c32, c33, c34, c35, c36, c37, c38, c39, c40, c41, c42, c43, c44, c45, c46, u47, u48, u49, u50, u51, u52, u53, u54, u55, u56, u57, u58, u59, u60, u61, u62, u63, u64, u65, u66, u67, u68, u69, u70, u71, u72, u73, u74, u75, u76, u77, u78, u79, u80, u81, u82, u83, u84, u85, u86, u87, u88, u89, u90, u91, u92, u93, u94, u95, u96, u97, u98, u99, u100, u101, u102, u103, u104, u105, u106, u107, u108, u109, u110, u111, u112, u113, u114, u115, u116, u117, u118, u119, u120, u121, u122, u123, u124, u125, u126, u127, u128, u129, u130, c131, c132, c133, c134, c135, c136, c137, c138, c139, c140, c141, c142, c143, c144, c145, c146, c147, c148, c149, c150, c151, c152, c153, c154, c155, c156, c157, c158, c159, c160, c161, c162, c163, c164, c165, c166, c167, c168, c169, c170, c171, c172, c173, c174, c175, c176, c177, c178, c179, c180, c181, c182, c183, c184, c185, c186, c187, c188, c189, c190, c191, c192, c193, c194, c195, c196, c197, c198, c199, c200, c201, c202, c203, c204, c205, c206, c207, c208, c209, c210, c211, c212, c213, c214, c215, c216, c217, c218, c219, c220, c221, c222, c223, c224, c225, c226, c227, c228, c229, c230, c231, c232, c233, c234, c235, c236, c237, c238, c239, c240, c241, c242, c243, c244, c245, c246, c247, c248, c249, c250, c251, c252, c253, c254, c255, c256, c257, c258, c259, c260, c261, c262, c263, c264, c265, c266, c267], []⟩ w') := hK
  have HG : Hid (g ≠ W.heap.size) := by
    have := World.block_lt_of_cell? _ _ (HT.out 0 (by omega))
    exact Nat.ne_of_lt this
  have H0 : Hid (Old W w0 ∧ w0.rowIs W.heap.size 124 64 (fun _ => .int .u32 0)) := ⟨hold, hrow⟩
  clear htext hB hK hold hrow
  go_wp2_with fail
  go_loopw [8] (fun tv wx => ∃ t : Nat, tv = .int .i64 (t : Int) ∧ t ≤ 64 ∧ Hid (Old W wx ∧ wx.rowIs W.heap.size 124 64 (fun j => .int .u32 (sched (fun j => B (64 * c + j)) t j)))) (fun tv _ => 64 - (intOf tv).toNat)
  case atStart => exact ⟨0, rfl, Nat.zero_le _, H0⟩
  case round =>
    obtain ⟨t, rfl, ht, HR⟩ := hrel
    by_cases hlt : t < 64
    · have cT : ∀ j, j < M → wr.cell? ⟨g, j, none⟩ = some (.int .u8 (B j)) := fun j hj => HR.out.1.cellOf (HT.out j hj)
      have fz := HR.out.2.frozen t
      have ct := HR.out.2.cell hlt
      by_cases h16 : t < 16
      · have b0 := cT (64 * c + 4 * t) (by omega)
        have b1 := cT (64 * c + 4 * t + 1) (by omega)
        have b2 := cT (64 * c + 4 * t + 2) (by omega)
        have b3 := cT (64 * c + 4 * t + 3) (by omega)
        clear cT
        obtain ⟨x0, y0⟩ := HB.out (64 * c + 4 * t)
        obtain ⟨x1, y1⟩ := HB.out (64 * c + 4 * t + 1)
        obtain ⟨x2, y2⟩ := HB.out (64 * c + 4 * t + 2)
        obtain ⟨x3, y3⟩ := HB.out (64 * c + 4 * t + 3)
        go_wp2_with fail
        have hgw : g ≠ W.heap.size := HG.out
        have hgw' : W.heap.size ≠ g := fun h => hgw h.symm
        have ei : 64 * (c : Int) + 4 * (t : Int) = ((64 * c + 4 * t : Nat) : Int) := by omega
        simp only [ei]
        have HV : Hid (word (fun j => B (64 * c + j)) (sched (fun j => B (64 * c + j)) t) t = four (B (64 * c + 4 * t)) (B (64 * c + 4 * t + 1)) (B (64 * c + 4 * t + 2)) (B (64 * c + 4 * t + 3))) := word_low h16
        generalize 64 * c + 4 * t = i at *
        have i0 : (0 : Int) ≤ (i : Int) := by omega
        have i3 : (i : Int) + 3 < (M : Int) := by omega
        have i2 : (i : Int) + 2 < (M : Int) := by omega
        have i1 : (i : Int) + 1 < (M : Int) := by omega
        have ii : (i : Int) < (M : Int) := by omega
        have w1 : IntKind.i64.wrap ((i : Int) + 1) = (i : Int) + 1 := by rw [IntKind.wrap_i64]; omega
        have w2 : IntKind.i64.wrap ((i : Int) + 2) = (i : Int) + 2 := by rw [IntKind.wrap_i64]; omega
        have w3 : IntKind.i64.wrap ((i : Int) + 3) = (i : Int) + 3 := by rw [IntKind.wrap_i64]; omega
        have n1 : (0 : Int) ≤ (i : Int) + 1 := by omega
        have n2 : (0 : Int) ≤ (i : Int) + 2 := by omega
        have n3 : (0 : Int) ≤ (i : Int) + 3 := by omega
        have t1 : ((i : Int) + 1).toNat = i + 1 := by omega
        have t2 : ((i : Int) + 2).toNat = i + 2 := by omega
        have t3 : ((i : Int) + 3).toNat = i + 3 := by omega
        have tt : (t : Int) < 64 := by omega
        have v0 : IntKind.u32.wrap (B i) = B i := by rw [IntKind.wrap_u32']; omega
        have v1 : IntKind.u32.wrap (B (i + 1)) = B (i + 1) := by rw [IntKind.wrap_u32']; omega
        have v2 : IntKind.u32.wrap (B (i + 2)) = B (i + 2) := by rw [IntKind.wrap_u32']; omega
        have v3 : IntKind.u32.wrap (B (i + 3)) = B (i + 3) := by rw [IntKind.wrap_u32']; omega
        have z0 : IntKind.u32.wrap (B i * 16777216) = B i * 16777216 := by rw [IntKind.wrap_u32']; omega
        have z1 : IntKind.u32.wrap (B (i + 1) * 65536) = B (i + 1) * 65536 := by rw [IntKind.wrap_u32']; omega
        have z2 : IntKind.u32.wrap (B (i + 2) * 256) = B (i + 2) * 256 := by rw [IntKind.wrap_u32']; omega
        clear hM2 hM ei
        go_region_held3 (fun w' => w'.cell? ⟨g, i, none⟩ = some (.int .u8 (B i)) ∧ w'.cell? ⟨g, i + 1, none⟩ = some (.int .u8 (B (i + 1))) ∧ w'.cell? ⟨g, i + 2, none⟩ = some (.int .u8 (B (i + 2))) ∧ w'.cell? ⟨g, i + 3, none⟩ = some (.int .u8 (B (i + 3)))) (go_keep) (fail)
        go_wp2_with fail
        go_roundw
        case rel => exact ⟨t + 1, by go_num, by omega, (words_step HR.out HV.out.symm).1.drew, (words_step HR.out HV.out.symm).2⟩
        case measure => simp [intOf]; omega
      · clear cT
        have c16 := HR.out.2.cell (i := t - 16) (by omega)
        have c15 := HR.out.2.cell (i := t - 15) (by omega)
        have c7 := HR.out.2.cell (i := t - 7) (by omega)
        have c2 := HR.out.2.cell (i := t - 2) (by omega)
        have HV : Hid (word (fun j => B (64 * c + j)) (sched (fun j => B (64 * c + j)) t) t = _) := word_high h16
        generalize sched (fun j => B (64 * c + j)) t (t - 16) = s16 at *
        generalize sched (fun j => B (64 * c + j)) t (t - 15) = s15 at *
        generalize sched (fun j => B (64 * c + j)) t (t - 7) = s7 at *
        generalize sched (fun j => B (64 * c + j)) t (t - 2) = s2 at *
        go_wp2_with fail
        have e16 : ((t : Int) - 16).toNat = t - 16 := by omega
        have e7 : ((t : Int) - 7).toNat = t - 7 := by omega
        have f16 : IntKind.i64.wrap ((t : Int) - 16) = (t : Int) - 16 := by rw [IntKind.wrap_i64]; omega
        have f7 : IntKind.i64.wrap ((t : Int) - 7) = (t : Int) - 7 := by rw [IntKind.wrap_i64]; omega
        have g16 : (0 : Int) ≤ (t : Int) - 16 := by omega
        have g7 : (0 : Int) ≤ (t : Int) - 7 := by omega
        have k16 : (t : Int) - 16 < 64 := by omega
        have k7 : (t : Int) - 7 < 64 := by omega
        have tt : (t : Int) < 64 := by omega
        have p7 : (7 : Int) ≤ (t : Int) := by omega
        have q7 : (t : Int) < 71 := by omega
        have q16 : (t : Int) < 80 := by omega
        clear hM2 hM c15 c2
        go_region_held3 (fun w' => w'.cell? ⟨W.heap.size, t - 16, none⟩ = some (.int .u32 s16) ∧ w'.cell? ⟨W.heap.size, t - 7, none⟩ = some (.int .u32 s7)) (first | go_keep | exact keep_two (by assumption) (by omega) (by omega)) (first
          | (go_at_call_of 103 (Value.int IntKind.i64 7); refine (turn_any _ 7 _ (by omega)).mono ?_; rintro e w' ⟨rfl, nd, rfl⟩)
          | (go_at_call_of 103 (Value.int IntKind.i64 18); refine (turn_any _ 18 _ (by omega)).mono ?_; rintro e w' ⟨rfl, nd, rfl⟩)
          | (go_at_call_of 103 (Value.int IntKind.i64 17); refine (turn_any _ 17 _ (by omega)).mono ?_; rintro e w' ⟨rfl, nd, rfl⟩)
          | (go_at_call_of 103 (Value.int IntKind.i64 19); refine (turn_any _ 19 _ (by omega)).mono ?_; rintro e w' ⟨rfl, nd, rfl⟩))
        simp only [IntKind.wrap_u32']
        go_wp2_with fail
        go_roundw
        case rel => exact ⟨t + 1, by go_num, by omega, words_step ⟨HR.out.1.drewN _, HR.out.2⟩ (by rw [HV.out, add_four]; rfl)⟩
        case measure => simp [intOf]; omega
    · have he : t = 64 := by omega
      subst he
      go_wp2_with fail
      exact HK.out _ _ _ _ _ _ _ _ _ _ _ _ _ _ _ _ _ _ _ _ _ _ _ _ _ _ _ _ _ _ _ _ _ _ _ _ _ _ _ _ _ _ _ _ _ _ _ _ _ _ _ _ _ _ _ _ _ _ _ _ _ _ _ _ _ _ _ _ _ _ _ _ _ _ _ _ _ _ _ _ _ _ _ _ _ _ _ _ _ HR.out.1 HR.out.2

end Go.Proofs.Ytokhpppealdfmaf
