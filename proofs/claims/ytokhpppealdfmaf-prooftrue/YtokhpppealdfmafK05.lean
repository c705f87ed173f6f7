/-
  The loop of the document's Sum over the pieces of a text.
-/
import Derived.Test.YtokhpppealdfmafK03
import Derived.Test.YtokhpppealdfmafK04
namespace Go.Proofs.Ytokhpppealdfmaf
open Go.RowKit

theorem u32info : (Try.prog.info? 124).map (fun i => (i.zero, i.size, i.bytes)) = some (some (.int .u32 0), 1, 4) := by kernel_rfl

/-- All that is known when the text and what stands behind it lie there. -/
structure Laid (w wx : World) (t : TypeId) (B : Nat → Int) (M : Nat) (bv : Value) (h : Nat → Int) : Prop where
  text : ∃ g c', bv = .slice (some ⟨g, 0, none⟩) M c' ∧ w.heap.size < g ∧ ∀ j, j < M → wx.cell? ⟨g, j, none⟩ = some (.int .u8 (B j))
  hrow : wx.rowIs w.heap.size t 8 (fun i => .int .u32 (h i))
  krow : wx.rowIs (w.heap.size + 1) t 64 (fun i => .int .u32 (kS i))
  old : Old w wx

theorem laid_next {w wr w2 w3 : World} {t : TypeId} {B : Nat → Int} {M g bc : Nat} {h h' : Nat → Int} (hl : Laid w wr t B M (.slice (some ⟨g, 0, none⟩) M bc) h) (ho : Old wr w2) (hb : But w.heap.size w2 w3) (hr : w3.rowIs w.heap.size t 8 (fun i => .int .u32 (h' i))) :
    Laid w w3 t B M (.slice (some ⟨g, 0, none⟩) M bc) h' := by
  obtain ⟨g', c', e, hg, hc⟩ := hl.text
  simp at e
  obtain ⟨rfl, rfl⟩ := e
  refine ⟨⟨g, bc, rfl, hg, fun j hj => ?_⟩, hr, hb.row (ho.row hl.krow) (by omega), (hl.old.trans ho).but hb (Nat.le_refl _)⟩
  rw [hb.cell (p := ⟨g, j, none⟩) (Nat.ne_of_gt hg)]
  exact ho.cellOf (hc j hj)

theorem laid_cells {w wr : World} {t : TypeId} {B : Nat → Int} {M g bc : Nat} {h : Nat → Int} (hl : Laid w wr t B M (.slice (some ⟨g, 0, none⟩) M bc) h) : ∀ j, j < M → wr.cell? ⟨g, j, none⟩ = some (.int .u8 (B j)) := by
  obtain ⟨g', c', e, hg, hc⟩ := hl.text
  simp at e
  obtain ⟨rfl, rfl⟩ := e
  exact hc

theorem eight_row (w : World) (t : TypeId) (h : Nat → Int) : (w.alloc (.cells #[.int .u32 (h 0), .int .u32 (h 1), .int .u32 (h 2), .int .u32 (h 3), .int .u32 (h 4), .int .u32 (h 5), .int .u32 (h 6), .int .u32 (h 7)] t)).drew.rowIs w.heap.size t 8 (fun i => .int .u32 (h i)) :=
  World.rowIs_alloc w _ t _ fun i hi => by
    match i, hi with
    | 0, _ => rfl
    | 1, _ => rfl
    | 2, _ => rfl
    | 3, _ => rfl
    | 4, _ => rfl
    | 5, _ => rfl
    | 6, _ => rfl
    | 7, _ => rfl

set_option maxRecDepth 100000 in
set_option maxHeartbeats 8000000 in
theorem pieces_loop {K : Act → World → Prop} {Q' : Exit → Act → World → Prop} (w w0 : World) (B : Nat → Int) (P g bc : Nat) (c0 c1 c2 c7 c8 c9 c10 c11 c12 c13 c14 c15 c16 c17 c18 c19 c20 c21 c22 c23 c24 c25 c26 c27 c28 c29 c30 c31 c32 c33 c34 c35 c36 c37 c38 c39 c40 c41 c42 c43 c44 c45 c46 c47 c48 c49 c50 c51 c52 c53 c54 c55 c56 c57 c58 c59 c60 c61 c62 c63 c64 c65 c66 c67 c68 c69 c70 c71 c72 c73 c74 c75 c76 c77 c78 c79 c80 c81 c82 c83 c84 c85 c86 c87 c88 c89 c90 c91 c92 c93 c94 c95 c96 c97 c98 c99 c100 c101 c102 c103 c104 c105 c106 c107 c108 c109 c110 c111 c112 c113 c114 c115 c116 c117 c118 c119 c120 c121 c122 c123 c124 c125 c126 c127 c128 c129 c130 c131 c132 c133 c134 c135 c136 c137 c138 c139 c140 c141 c142 c143 c144 c145 c146 c147 c148 c149 c150 c151 c152 c153 c154 c155 c156 c157 c158 c159 c160 c161 c162 c163 c164 c165 c166 c167 c168 c169 c170 c171 c172 c173 c174 c175 c176 c177 c178 c179 c180 c181 c182 c183 c184 c185 c186 c187 c188 c189 c190 c191 c192 c193 c194 c195 c196 c197 c198 c199 c200 c201 c202 c203 c204 c205 c206 c207 c208 c209 c210 c211 c212 c213 c214 c215 c216 c217 c218 c219 c220 c221 c222 c223 c224 c225 c226 c227 c228 c229 c230 c231 c232 c233 c234 c235 c236 c237 c238 c239 c240 c241 c242 c243 c244 c245 c246 c247 c248 c249 c250 c251 c252 c253 c254 c255 c256 c257 c258 c259 c260 c261 c262 c263 c264 c265 c266 c267 : Value)
    (hP : P ≤ 20000) (hB : ∀ i, 0 ≤ B i ∧ B i ≤ 255) (hL : Laid w w0 124 B (64 * P) (.slice (some ⟨g, 0, none⟩) (64 * P) bc) (hS))
    (hK : ∀ (u6 u7 u8 u9 u10 u11 u12 u13 u14 u15 u16 u17 u18 u40 u41 u42 u43 u44 u45 u46 u47 u48 u49 u50 u51 u52 u53 u54 u55 u56 u57 u58 u59 u60 u61 u62 u63 u64 u65 u66 u67 u68 u69 u70 u71 u72 u73 u74 u75 u76 u77 u78 u79 u80 u81 u82 u83 u84 u85 u86 u87 u88 u89 u90 u91 u92 u93 u94 u95 u96 u97 u98 u99 u100 u101 u102 u103 u104 u105 u106 u107 u108 u109 u110 u111 u112 u113 u114 u115 u116 u117 u118 u119 u120 u121 u122 u123 u124 u125 u126 u127 u128 u129 u130 u131 u132 u133 u134 u135 u136 u137 u138 u139 u140 u141 u142 u143 u144 u145 u146 u147 u148 u149 u150 u151 u152 u153 u154 u155 u156 u157 u158 u159 u160 u161 u162 u163 u164 u165 u166 u167 u168 u169 u170 u171 u172 u173 u174 u175 u176 u177 u178 u179 u180 u181 u182 u183 u184 u185 u186 u187 u188 u189 u190 u191 u192 u193 u194 u195 u196 u197 u198 u199 u200 u201 u202 u203 u204 u205 u206 u207 u208 u209 u210 u211 u212 u213 u214 u215 u216 u217 u218 u219 u220 u221 u222 u223 u224 u225 u226 u227 u228 u229 u230 u231 u232 u233 u234 u235 u236 u237 u238 u239 u240 u241 u242 u243 u244 u245 u246 u247 u248 u249 u250 u251 u252 u253 u254 : Value) (w' : World), Laid w w' 124 B (64 * P) (.slice (some ⟨g, 0, none⟩) (64 * P) bc) (state B P) → K ⟨#[c0, c1, c2, .slice (some ⟨w.heap.size, 0, none⟩) 8 8, .slice (some ⟨w.heap.size + 1, 0, none⟩) 64 64, .slice (some ⟨g, 0, none⟩) (64 * P) bc, u6, u7, u8, u9, u10, u11, u12, u13, u14, u15, u16, u17, u18, c19, c20, c21, c22, c23, c24, c25, c26, c27, c28, c29, c30, c31, c32, c33, c34, c35, c36, c37, c38, c39, u40, u41, u42, u43, u44, u45, u46, u47, u48, u49, u50, u51, u52, u53, u54, u55, u56, u57, u58, u59, u60, u61, u62, u63, u64, u65, u66, u67, u68, u69, u70, u71, u72, u73, u74, u75, u76, u77, u78, u79, u80, u81, u82, u83, u84, u85, u86, u87, u88, u89, u90, u91, u92, u93, u94, u95, u96, u97, u98, u99, u100, u101, u102, u103, u104, u105, u106, u107, u108, u109, u110, u111, u112, u113, u114, u115, u116, u117, u118, u119, u120, u121, u122, u123, u124, u125, u126, u127, u128, u129, u130, u131, u132, u133, u134, u135, u136, u137, u138, u139, u140, u141, u142, u143, u144, u145, u146, u147, u148, u149, u150, u151, u152, u153, u154, u155, u156, u157, u158, u159, u160, u161, u162, u163, u164, u165, u166, u167, u168, u169, u170, u171, u172, u173, u174, u175, u176, u177, u178, u179, u180, u181, u182, u183, u184, u185, u186, u187, u188, u189, u190, u191, u192, u193, u194, u195, u196, u197, u198, u199, u200, u201, u202, u203, u204, u205, u206, u207, u208, u209, u210, u211, u212, u213, u214, u215, u216, u217, u218, u219, u220, u221, u222, u223, u224, u225, u226, u227, u228, u229, u230, u231, u232, u233, u234, u235, u236, u237, u238, u239, u240, u241, u242, u243, u244, u245, u246, u247, u248, u249, u250, u251, u252, u253, u254, c255, c256, c257, c258, c259, c260, c261, c262, c263, c264, c265, c266, c267], []⟩ w') :
    Code.wp Try.prog ((findBlock 2 (Try.f93.body.getD .skip)).getD .skip) (Exit.then K Q') ⟨#[c0, c1, c2, .slice (some ⟨w.heap.size, 0, none⟩) 8 8, .slice (some ⟨w.heap.size + 1, 0, none⟩) 64 64, .slice (some ⟨g, 0, none⟩) (64 * P) bc, .int .i64 0, c7, c8, c9, c10, c11, c12, c13, c14, c15, c16, c17, c18, c19, c20, c21, c22, c23, c24, c25, c26, c27, c28, c29, c30, c31, c32, c33, c34, c35, c36, c37, c38, c39, c40, c41, c42, c43, c44, c45, c46, c47, c48, c49, c50, c51, c52, c53, c54, c55, c56, c57, c58, c59, c60, c61, c62, c63, c64, c65, c66, c67, c68, c69, c70, c71, c72, c73, c74, c75, c76, c77, c78, c79, c80, c81, c82, c83, c84, c85, c86, c87, c88, c89, c90, c91, c92, c93, c94, c95, c96, c97, c98, c99, c100, c101, c102, c103, c104, c105, c106, c107, c108, c109, c110, c111, c112, c113, c114, c115, c116, c117, c118, c119, c120, c121, c122, c123, c124, c125, c126, c127, c128, c129, c130, c131, c132, c133, c134, c135, c136, c137, c138, c139, c140, c141, c142, c143, c144, c145, c146, c147, c148, c149, c150, c151, c152, c153, c154, c155, c156, c157, c158, c159, c160, c161, c162, c163, c164, c165, c166, c167, c168, c169, c170, c171, c172, c173, c174, c175, c176, c177, c178, c179, c180, c181, c182, c183, c184, c185, c186, c187, c188, c189, c190, c191, c192, c193, c194, c195, c196, c197, c198, c199, c200, c201, c202, c203, c204, c205, c206, c207, c208, c209, c210, c211, c212, c213, c214, c215, c216, c217, c218, c219, c220, c221, c222, c223, c224, c225, c226, c227, c228, c229, c230, c231, c232, c233, c234, c235, c236, c237, c238, c239, c240, c241, c242, c243, c244, c245, c246, c247, c248, c249, c250, c251, c252, c253, c254, c255, c256, c257, c258, c259, c260, c261, c262, c263, c264, c265, c266, c267], []⟩ w0 := by
  conv => arg 2; whnf
  have HK : Hid (∀ (u6 u7 u8 u9 u10 u11 u12 u13 u14 u15 u16 u17 u18 u40 u41 u42 u43 u44 u45 u46 u47 u48 u49 u50 u51 u52 u53 u54 u55 u56 u57 u58 u59 u60 u61 u62 u63 u64 u65 u66 u67 u68 u69 u70 u71 u72 u73 u74 u75 u76 u77 u78 u79 u80 u81 u82 u83 u84 u85 u86 u87 u88 u89 u90 u91 u92 u93 u94 u95 u96 u97 u98 u99 u100 u101 u102 u103 u104 u105 u106 u107 u108 u109 u110 u111 u112 u113 u114 u115 u116 u117 u118 u119 u120 u121 u122 u123 u124 u125 u126 u127 u128 u129 u130 u131 u132 u133 u134 u135 u136 u137 u138 u139 u140 u141 u142 u143 u144 u145 u146 u147 u148 u149 u150 u151 u152 u153 u154 u155 u156 u157 u158 u159 u160 u161 u162 u163 u164 u165 u166 u167 u168 u169 u170 u171 u172 u173 u174 u175 u176 u177 u178 u179 u180 u181 u182 u183 u184 u185 u186 u187 u188 u189 u190 u191 u192 u193 u194 u195 u196 u197 u198 u199 u200 u201 u202 u203 u204 u205 u206 u207 u208 u209 u210 u211 u212 u213 u214 u215 u216 u217 u218 u219 u220 u221 u222 u223 u224 u225 u226 u227 u228 u229 u230 u231 u232 u233 u234 u235 u236 u237 u238 u239 u240 u241 u242 u243 u244 u245 u246 u247 u248 u249 u250 u251 u252 u253 u254 : Value) (w' : World), Laid w w' 124 B (64 * P) (.slice (some ⟨g, 0, none⟩) (64 * P) bc) (state B P) → K ⟨#[c0, c1, c2, .slice (some ⟨w.heap.size, 0, none⟩) 8 8, .slice (some ⟨w.heap.size + 1, 0, none⟩) 64 64, .slice (some ⟨g, 0, none⟩) (64 * P) bc, u6, u7, u8, u9, u10, u11, u12, u13, u14, u15, u16, u17, u18, c19, c20, c21, c22, c23, c24, c25, c26, c27, c28, c29, c30, c31, c32, c33, c34, c35, c36, c37, c38, c39, u40, u41, u42, u43, u44, u45, u46, u47, u48, u49, u50, u51, u52, u53, u54, u55, u56, u57, u58, u59, u60, u61, u62, u63, u64, u65, u66, u67, u68, u69, u70, u71, u72, u73, u74, u75, u76, u77, u78, u79, u80, u81, u82, u83, u84, u85, u86, u87, u88, u89, u90, u91, u92, u93, u94, u95, u96, u97, u98, u99, u100, u101, u102, u103, u104, u105, u106, u107, u108, u109, u110, u111, u112, u113, u114, u115, u116, u117, u118, u119, u120, u121, u122, u123, u124, u125, u126, u127, u128, u129, u130, u131, u132, u133, u134, u135, u136, u137, u138, u139, u140, u141, u142, u143, u144, u145, u146, u147, u148, u149, u150, u151, u152, u153, u154, u155, u156, u157, u158, u159, u160, u161, u162, u163, u164, u165, u166, u167, u168, u169, u170, u171, u172, u173, u174, u175, u176, u177, u178, u179, u180, u181, u182, u183, u184, u185, u186, u187, u188, u189, u190, u191, u192, u193, u194, u195, u196, u197, u198, u199, u200, u201, u202, u203, u204, u205, u206, u207, u208, u209, u210, u211, u212, u213, u214, u215, u216, u217, u218, u219, u220, u221, u222, u223, u224, u225, u226, u227, u228, u229, u230, u231, u232, u233, u234, u235, u236, u237, u238, u239, u240, u241, u242, u243, u244, u245, u246, u247, u248, u249, u250, u251, u252, u253, u254, c255, c256, c257, c258, c259, c260, c261, c262, c263, c264, c265, c266, c267], []⟩ w') := hK
  have HB : Hid (∀ i, 0 ≤ B i ∧ B i ≤ 255) := hB
  have H0 : Hid (Laid w w0 124 B (64 * P) (.slice (some ⟨g, 0, none⟩) (64 * P) bc) (state B 0)) := hL
  clear hK hB hL
  have hmk : ∀ wx, (Instr.makeSlice 130 (.int .i64 64) (.int .i64 64)).run Try.prog wx = .ok (.slice (some ⟨wx.heap.size, 0, none⟩) 64 64) (wx.alloc (.cells (madeCells #[.int .u32 0] 64) 124)) := run_make_row' (P := Try.prog) 130 124 (.int .u32 0) 4 Try.underlying130 u32info rfl .i64 .i64 64 (by omega) (by omega)
  dsimp only
  go_wp2_with fail
  go_loopw [6] (fun av wx => ∃ c : Nat, av = .int .i64 (64 * (c : Int)) ∧ c ≤ P ∧ Hid (Laid w wx 124 B (64 * P) (.slice (some ⟨g, 0, none⟩) (64 * P) bc) (state B c))) (fun av _ => (64 * P - (intOf av).toNat))
  case atStart => exact ⟨0, rfl, Nat.zero_le _, H0⟩
  case round =>
    obtain ⟨c, rfl, hc, HD⟩ := hrel
    by_cases hlt : c < P
    · go_upto_block 4 with fail
      refine words_loop wr _ B g (64 * P) bc c _ _ _ _ _ _ _ _ _ _ _ _ _ _ _ _ _ _ _ _ _ _ _ _ _ _ _ _ _ _ _ _ _ _ _ _ _ _ _ _ _ _ _ _ _ _ _ _ _ _ _ _ _ _ _ _ _ _ _ _ _ _ _ _ _ _ _ _ _ _ _ _ _ _ _ _ _ _ _ _ _ _ _ _ _ _ _ _ _ _ _ _ _ _ _ _ _ _ _ _ _ _ _ _ _ _ _ _ _ _ _ _ _ _ _ _ _ _ _ _ _ _ _ _ _ _ _ _ _ _ _ _ _ _ _ _ _ _ _ _ _ _ _ _ _ _ _ _ _ _ _ _ _ _ _ _ _ _ _ _ _ _ _ _ _ _ _ _ _ _ _ _ _ _ _ _ _ _ _ _ _ _ _ _ _ _ _ _ _ _ _ _ _ _ _ _ _ _ _ _ _ _ _ _ _ _ _ _ _ _ _ _ _ _ _ _ _ _ _ _ _ _ _ _ _ _ _ _ _ _ _ _ _ _ _ _ _ _ _ _ _ _ _ _ _ _ _ _ _ _ _ _ _ _ _ _ _ _ _ _ _ _ _ _ (by omega) (by omega) ((Old.refl wr).alloc _) (laid_cells HD.out) HB.out (World.rowIs_made wr _ 64 _) ?_
      intro u8 u9 u10 u11 u47 u48 u49 u50 u51 u52 u53 u54 u55 u56 u57 u58 u59 u60 u61 u62 u63 u64 u65 u66 u67 u68 u69 u70 u71 u72 u73 u74 u75 u76 u77 u78 u79 u80 u81 u82 u83 u84 u85 u86 u87 u88 u89 u90 u91 u92 u93 u94 u95 u96 u97 u98 u99 u100 u101 u102 u103 u104 u105 u106 u107 u108 u109 u110 u111 u112 u113 u114 u115 u116 u117 u118 u119 u120 u121 u122 u123 u124 u125 u126 u127 u128 u129 u130 w1 hold1 hrow1
      have HW : Hid (Old wr w1 ∧ w1.rowIs wr.heap.size 124 64 (fun j => .int .u32 (sched (fun j => B (64 * c + j)) 64 j))) := ⟨hold1, hrow1⟩
      have hh := hold1.row HD.out.hrow
      clear hold1 hrow1
      have h0 := hh.cell (i := 0) (by omega)
      have h1 := hh.cell (i := 1) (by omega)
      have h2 := hh.cell (i := 2) (by omega)
      have h3 := hh.cell (i := 3) (by omega)
      have h4 := hh.cell (i := 4) (by omega)
      have h5 := hh.cell (i := 5) (by omega)
      have h6 := hh.cell (i := 6) (by omega)
      have h7 := hh.cell (i := 7) (by omega)
      have hnew := World.new_ne w1 _ h0
      clear hh
      dsimp only
      go_wp2_with fail
      generalize hst : state B c = h at *
      have HS : Hid (state B c = h) := hst
      clear hst
      go_region_held3 (fun w' => w'.cell? ⟨w.heap.size, 0, none⟩ = some (.int .u32 (h 0)) ∧ w'.cell? ⟨w.heap.size, 1, none⟩ = some (.int .u32 (h 1)) ∧ w'.cell? ⟨w.heap.size, 2, none⟩ = some (.int .u32 (h 2)) ∧ w'.cell? ⟨w.heap.size, 3, none⟩ = some (.int .u32 (h 3)) ∧ w'.cell? ⟨w.heap.size, 4, none⟩ = some (.int .u32 (h 4)) ∧ w'.cell? ⟨w.heap.size, 5, none⟩ = some (.int .u32 (h 5)) ∧ w'.cell? ⟨w.heap.size, 6, none⟩ = some (.int .u32 (h 6)) ∧ w'.cell? ⟨w.heap.size, 7, none⟩ = some (.int .u32 (h 7))) (go_keep) (fail)
      clear h0 h1 h2 h3 h4 h5 h6 h7 hnew
      go_upto_block 6 with fail
      refine rounds_loop w1 _ (sched (fun j => B (64 * c + j)) 64) h 125 (w.heap.size + 1) wr.heap.size _ _ _ _ _ _ _ _ _ _ _ _ _ _ _ _ _ _ _ _ _ _ _ _ _ _ _ _ _ _ _ _ _ _ _ _ _ _ _ _ _ _ _ _ _ _ _ _ _ _ _ _ _ _ _ _ _ _ _ _ _ _ _ _ _ _ _ _ _ _ _ _ _ _ _ _ _ _ _ _ _ _ _ _ _ _ _ _ _ _ _ _ _ _ _ _ _ _ _ _ _ _ _ _ _ _ _ _ _ _ _ _ _ _ _ _ _ _ _ _ _ _ _ _ _ _ _ _ _ _ _ _ _ _ _ _ _ _ _ _ _ _ _ _ _ _ _ _ _ _ _ _ _ _ _ _ _ _ _ _ _ _ _ _ _ _ _ _ _ _ _ _ _ _ _ _ _ _ _ _ _ _ _ _ _ _ _ _ _ _ _ _ _ _ _ _ _ _ _ _ _ _ _ _ _ _ _ _ _ _ _ _ _ _ _ _ _ _ _ _ _ _ _ _ _ _ _ _ _ _ _ _ _ _ _ _ _ _ _ _ _ _ _ _ _ _ _ _ _ _ _ _ _ _ _ _ _ _ _ _ _ _ _ _ ((Old.refl w1).alloc _).drew (HW.out.1.row HD.out.krow) HW.out.2 (eight_row w1 125 h) ?_
      intro u13 u14 u15 u16 u17 u156 u157 u158 u159 u160 u161 u162 u163 u164 u165 u166 u167 u168 u169 u170 u171 u172 u173 u174 u175 u176 u177 u178 u179 u180 u181 u182 u183 u184 u185 u186 u187 u188 u189 u190 u191 u192 u193 u194 u195 u196 u197 u198 u199 u200 u201 u202 u203 u204 u205 u206 u207 u208 u209 u210 u211 u212 u213 u214 u215 u216 u217 u218 u219 u220 u221 u222 u223 u224 u225 u226 u227 u228 u229 u230 u231 u232 u233 u234 u235 u236 u237 u238 u239 w2 hold2 hrow2
      have HX : Hid (Old w1 w2 ∧ w2.rowIs w1.heap.size 125 8 (fun i => .int .u32 (rounds (sched (fun j => B (64 * c + j)) 64) 64 h i))) := ⟨hold2, hrow2⟩
      clear hold2 hrow2
      dsimp only
      go_upto_block 8 with fail
      refine adds_loop w2 h (rounds (sched (fun j => B (64 * c + j)) 64) 64 h) 125 w.heap.size w1.heap.size _ _ _ _ _ _ _ _ _ _ _ _ _ _ _ _ _ _ _ _ _ _ _ _ _ _ _ _ _ _ _ _ _ _ _ _ _ _ _ _ _ _ _ _ _ _ _ _ _ _ _ _ _ _ _ _ _ _ _ _ _ _ _ _ _ _ _ _ _ _ _ _ _ _ _ _ _ _ _ _ _ _ _ _ _ _ _ _ _ _ _ _ _ _ _ _ _ _ _ _ _ _ _ _ _ _ _ _ _ _ _ _ _ _ _ _ _ _ _ _ _ _ _ _ _ _ _ _ _ _ _ _ _ _ _ _ _ _ _ _ _ _ _ _ _ _ _ _ _ _ _ _ _ _ _ _ _ _ _ _ _ _ _ _ _ _ _ _ _ _ _ _ _ _ _ _ _ _ _ _ _ _ _ _ _ _ _ _ _ _ _ _ _ _ _ _ _ _ _ _ _ _ _ _ _ _ _ _ _ _ _ _ _ _ _ _ _ _ _ _ _ _ _ _ _ _ _ _ _ _ _ _ _ _ _ _ _ _ _ _ _ _ _ _ _ _ _ _ _ _ _ _ _ _ _ _ _ _ _ _ _ _ _ _ _ (Nat.ne_of_gt (HW.out.1.row HD.out.hrow).lt) (HX.out.1.row (HW.out.1.row HD.out.hrow)) HX.out.2 ?_
      intro u18 u240 u241 u242 u243 u244 u245 u246 u247 u248 u249 u250 u251 u252 u253 u254 w3 hbut hrow3
      have HY : Hid (Laid w w3 124 B (64 * P) (.slice (some ⟨g, 0, none⟩) (64 * P) bc) (state B (c + 1))) := laid_next HD.out (HW.out.1.trans HX.out.1) hbut (hrow3.congr fun i _ => by rw [← HS.out]; rfl)
      clear hbut hrow3 HX HW HD HS
      dsimp only
      go_wp2_with fail
      go_roundw
      case rel => exact ⟨c + 1, by go_num, by omega, HY⟩
      case measure => simp [intOf]; omega
    · have he : c = P := by omega
      subst he
      go_wp2_with fail
      exact HK.out _ _ _ _ _ _ _ _ _ _ _ _ _ _ _ _ _ _ _ _ _ _ _ _ _ _ _ _ _ _ _ _ _ _ _ _ _ _ _ _ _ _ _ _ _ _ _ _ _ _ _ _ _ _ _ _ _ _ _ _ _ _ _ _ _ _ _ _ _ _ _ _ _ _ _ _ _ _ _ _ _ _ _ _ _ _ _ _ _ _ _ _ _ _ _ _ _ _ _ _ _ _ _ _ _ _ _ _ _ _ _ _ _ _ _ _ _ _ _ _ _ _ _ _ _ _ _ _ _ _ _ _ _ _ _ _ _ _ _ _ _ _ _ _ _ _ _ _ _ _ _ _ _ _ _ _ _ _ _ _ _ _ _ _ _ _ _ _ _ _ _ _ _ _ _ _ _ _ _ _ _ _ _ _ _ _ _ _ _ _ _ _ _ _ _ _ _ _ _ _ _ _ _ _ _ _ _ _ _ _ _ _ _ _ _ _ _ _ _ _ _ _ _ _ _ _ _ _ _ HD.out

end Go.Proofs.Ytokhpppealdfmaf
