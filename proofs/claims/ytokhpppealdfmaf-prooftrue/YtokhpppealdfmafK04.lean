/-
  The third inner loop of the document's Sum: the eight sums.
-/
import Derived.Test.YtokhpppealdfmafK02
namespace Go.Proofs.Ytokhpppealdfmaf
open Go.RowKit

/-- All blocks but one are as they were. -/
structure But (b : Nat) (w w' : World) : Prop where
  os : w'.os = w.os
  output : w'.output = w.output
  size : w'.heap.size = w.heap.size
  block : ∀ k, k ≠ b → w'.heap[k]? = w.heap[k]?
theorem But.refl (b : Nat) (w : World) : But b w w := ⟨rfl, rfl, rfl, fun _ _ => rfl⟩
theorem But.set {b : Nat} {w w' : World} (h : But b w w') (i : Nat) (v : Value) : But b w (w'.setCell ⟨b, i, none⟩ v) :=
  ⟨h.os, h.output, by simpa [World.setCell] using h.size, fun k hk => (Below.heap_setCell _ _ _ _ hk).trans (h.block k hk)⟩
theorem But.drew {b : Nat} {w w' : World} (h : But b w w') : But b w w'.drew := ⟨h.os, h.output, h.size, h.block⟩
theorem But.drewN {b : Nat} {w w' : World} (h : But b w w') (n : Nat) : But b w (w'.drewN n) := ⟨h.os, h.output, h.size, h.block⟩
theorem But.row {b : Nat} {w w' : World} (h : But b w w') {k : Nat} {t : TypeId} {n : Nat} {f : Nat → Value} (hr : w.rowIs k t n f) (hk : k ≠ b) : w'.rowIs k t n f := hr.of_block (h.block k hk)
theorem But.cell {b : Nat} {w w' : World} (h : But b w w') {p : Addr} (hp : p.block ≠ b) : w'.cell? p = w.cell? p := World.cell?_of_block (w := w) (h.block p.block hp)
theorem Old.but {a b : World} {k : Nat} {c : World} (h : Old a b) (hb : But k b c) (hk : a.heap.size ≤ k) : Old a c :=
  ⟨hb.os.trans h.os, hb.output.trans h.output, by rw [hb.size]; exact h.size, fun i hi => (hb.block i (by omega)).trans (h.block i hi)⟩

theorem adds_step {b : Nat} {w wr : World} {ty : TypeId} {h v : Nat → Int} {t : Nat} {x : Int} (hr : But b w wr ∧ wr.rowIs b ty 8 (fun j => .int .u32 (if j < t then add32 (h j) (v j) else h j))) (hx : x = add32 (h t) (v t)) :
    But b w (wr.setCell ⟨b, t, none⟩ (.int .u32 x)) ∧ (wr.setCell ⟨b, t, none⟩ (.int .u32 x)).rowIs b ty 8 (fun j => .int .u32 (if j < t + 1 then add32 (h j) (v j) else h j)) := by
  refine ⟨hr.1.set t _, (hr.2.set t _).congr fun j _ => ?_⟩
  by_cases he : j = t
  · subst he
    rw [hx]
    simp
  · by_cases hl : j < t
    · simp [he, hl, show j < t + 1 by omega]
    · simp [he, hl, show ¬ j < t + 1 by omega]

set_option maxRecDepth 100000 in
set_option maxHeartbeats 4000000 in
theorem adds_loop {Q : Exit → Act → World → Prop} (w0 : World) (h v : Nat → Int) (T : TypeId) (bh bv : Nat) (c0 c1 c2 c4 c5 c6 c7 c8 c9 c10 c11 c13 c14 c15 c16 c17 c19 c20 c21 c22 c23 c24 c25 c26 c27 c28 c29 c30 c31 c32 c33 c34 c35 c36 c37 c38 c39 c40 c41 c42 c43 c44 c45 c46 c47 c48 c49 c50 c51 c52 c53 c54 c55 c56 c57 c58 c59 c60 c61 c62 c63 c64 c65 c66 c67 c68 c69 c70 c71 c72 c73 c74 c75 c76 c77 c78 c79 c80 c81 c82 c83 c84 c85 c86 c87 c88 c89 c90 c91 c92 c93 c94 c95 c96 c97 c98 c99 c100 c101 c102 c103 c104 c105 c106 c107 c108 c109 c110 c111 c112 c113 c114 c115 c116 c117 c118 c119 c120 c121 c122 c123 c124 c125 c126 c127 c128 c129 c130 c131 c132 c133 c134 c135 c136 c137 c138 c139 c140 c141 c142 c143 c144 c145 c146 c147 c148 c149 c150 c151 c152 c153 c154 c155 c156 c157 c158 c159 c160 c161 c162 c163 c164 c165 c166 c167 c168 c169 c170 c171 c172 c173 c174 c175 c176 c177 c178 c179 c180 c181 c182 c183 c184 c185 c186 c187 c188 c189 c190 c191 c192 c193 c194 c195 c196 c197 c198 c199 c200 c201 c202 c203 c204 c205 c206 c207 c208 c209 c210 c211 c212 c213 c214 c215 c216 c217 c218 c219 c220 c221 c222 c223 c224 c225 c226 c227 c228 c229 c230 c231 c232 c233 c234 c235 c236 c237 c238 c239 c240 c241 c242 c243 c244 c245 c246 c247 c248 c249 c250 c251 c252 c253 c254 c255 c256 c257 c258 c259 c260 c261 c262 c263 c264 c265 c266 c267 : Value)
    (hne : bv ≠ bh) (hh : w0.rowIs bh 124 8 (fun i => .int .u32 (h i))) (hv : w0.rowIs bv T 8 (fun i => .int .u32 (v i)))
    (hK : ∀ (u18 u240 u241 u242 u243 u244 u245 u246 u247 u248 u249 u250 u251 u252 u253 u254 : Value) (w' : World), But bh w0 w' → w'.rowIs bh 124 8 (fun i => .int .u32 (add32 (h i) (v i))) → Q .normal ⟨#[c0, c1, c2, .slice (some ⟨bh, 0, none⟩) 8 8, c4, c5, c6, c7, c8, c9, c10, c11, .pointer (some ⟨bv, 0, none⟩), c13, c14, c15, c16, c17, u18, c19, c20, c21, c22, c23, c24, c25, c26, c27, c28, c29, c30, c31, c32, c33, c34, c35, c36, c37, c38, c39, c40, c41, c42, c43, c44, c45, c46, c47, c48, c49, c50, c51, c52, c53, c54, c55, c56, c57, c58, c59, c60, c61, c62, c63, c64, c65, c66, c67, c68, c69, c70, c71, c72, c73, c74, c75, c76, c77, c78, c79, c80, c81, c82, c83, c84, c85, c86, c87, c88, c89, c90, c91, c92, c93, c94, c95, c96, c97, c98, c99, c100, c101, c102, c103, c104, c105, c106, c107, c108, c109, c110, c111, c112, c113, c114, c115, c116, c117, c118, c119, c120, c121, c122, c123, c124, c125, c126, c127, c128, c129, c130, c131, c132, c133, c134, c135, c136, c137, c138, c139, c140, c141, c142, c143, c144, c145, c146, c147, c148, c149, c150, c151, c152, c153, c154, c155, c156, c157, c158, c159, c160, c161, c162, c163, c164, c165, c166, c167, c168, c169, c170, c171, c172, c173, c174, c175, c176, c177, c178, c179, c180, c181, c182, c183, c184, c185, c186, c187, c188, c189, c190, c191, c192, c193, c194, c195, c196, c197, c198, c199, c200, c201, c202, c203, c204, c205, c206, c207, c208, c209, c210, c211, c212, c213, c214, c215, c216, c217, c218, c219, c220, c221, c222, c223, c224, c225, c226, c227, c228, c229, c230, c231, c232, c233, c234, c235, c236, c237, c238, c239, u240, u241, u242, u243, u244, u245, u246, u247, u248, u249, u250, u251, u252, u253, u254, c255, c256, c257, c258, c259, c260, c261, c262, c263, c264, c265, c266, c267], []⟩ w') :
    Code.wp Try.prog ((findBlock 8 (Try.f93.body.getD .skip)).getD .skip) Q ⟨#[c0, c1, c2, .slice (some ⟨bh, 0, none⟩) 8 8, c4, c5, c6, c7, c8, c9, c10, c11, .pointer (some ⟨bv, 0, none⟩), c13, c14, c15, c16, c17, .int .i64 0, c19, c20, c21, c22, c23, c24, c25, c26, c27, c28, c29, c30, c31, c32, c33, c34, c35, c36, c37, c38, c39, c40, c41, c42, c43, c44, c45, c46, c47, c48, c49, c50, c51, c52, c53, c54, c55, c56, c57, c58, c59, c60, c61, c62, c63, c64, c65, c66, c67, c68, c69, c70, c71, c72, c73, c74, c75, c76, c77, c78, c79, c80, c81, c82, c83, c84, c85, c86, c87, c88, c89, c90, c91, c92, c93, c94, c95, c96, c97, c98, c99, c100, c101, c102, c103, c104, c105, c106, c107, c108, c109, c110, c111, c112, c113, c114, c115, c116, c117, c118, c119, c120, c121, c122, c123, c124, c125, c126, c127, c128, c129, c130, c131, c132, c133, c134, c135, c136, c137, c138, c139, c140, c141, c142, c143, c144, c145, c146, c147, c148, c149, c150, c151, c152, c153, c154, c155, c156, c157, c158, c159, c160, c161, c162, c163, c164, c165, c166, c167, c168, c169, c170, c171, c172, c173, c174, c175, c176, c177, c178, c179, c180, c181, c182, c183, c184, c185, c186, c187, c188, c189, c190, c191, c192, c193, c194, c195, c196, c197, c198, c199, c200, c201, c202, c203, c204, c205, c206, c207, c208, c209, c210, c211, c212, c213, c214, c215, c216, c217, c218, c219, c220, c221, c222, c223, c224, c225, c226, c227, c228, c229, c230, c231, c232, c233, c234, c235, c236, c237, c238, c239, c240, c241, c242, c243, c244, c245, c246, c247, c248, c249, c250, c251, c252, c253, c254, c255, c256, c257, c258, c259, c260, c261, c262, c263, c264, c265, c266, c267], []⟩ w0 := by
  conv => arg 2; whnf
  have HK : Hid (∀ (u18 u240 u241 u242 u243 u244 u245 u246 u247 u248 u249 u250 u251 u252 u253 u254 : Value) (w' : World), But bh w0 w' → w'.rowIs bh 124 8 (fun i => .int .u32 (add32 (h i) (v i))) → Q .normal ⟨#[c0, c1, c2, .slice (some ⟨bh, 0, none⟩) 8 8, c4, c5, c6, c7, c8, c9, c10, c11, .pointer (some ⟨bv, 0, none⟩), c13, c14, c15, c16, c17, u18, c19, c20, c21, c22, c23, c24, c25, c26, c27, c28, c29, c30, c31, c32, c33, c34, c35, c36, c37, c38, c39, c40, c41, c42, c43, c44, c45, c46, c47, c48, c49, c50, c51, c52, c53, c54, c55, c56, c57, c58, c59, c60, c61, c62, c63, c64, c65, c66, c67, c68, c69, c70, c71, c72, c73, c74, c75, c76, c77, c78, c79, c80, c81, c82, c83, c84, c85, c86, c87, c88, c89, c90, c91, c92, c93, c94, c95, c96, c97, c98, c99, c100, c101, c102, c103, c104, c105, c106, c107, c108, c109, c110, c111, c112, c113, c114, c115, c116, c117, c118, c119, c120, c121, c122, c123, c124, c125, c126, c127, c128, c129, c130, c131, c132, c133, c134, c135, c136, c137, c138, c139, c140, c141, c142, c143, c144, c145, c146, c147, c148, c149, c150, c151, c152, c153, c154, c155, c156, c157, c158, c159, c160, c161, c162, c163, c164, c165, c166, c167, c168, c169, c170, c171, c172, c173, c174, c175, c176, c177, c178, c179, c180, c181, c182, c183, c184, c185, c186, c187, c188, c189, c190, c191, c192, c193, c194, c195, c196, c197, c198, c199, c200, c201, c202, c203, c204, c205, c206, c207, c208, c209, c210, c211, c212, c213, c214, c215, c216, c217, c218, c219, c220, c221, c222, c223, c224, c225, c226, c227, c228, c229, c230, c231, c232, c233, c234, c235, c236, c237, c238, c239, u240, u241, u242, u243, u244, u245, u246, u247, u248, u249, u250, u251, u252, u253, u254, c255, c256, c257, c258, c259, c260, c261, c262, c263, c264, c265, c266, c267], []⟩ w') := hK
  have HA : Hid (w0.rowIs bv T 8 (fun i => .int .u32 (v i)) ∧ bv ≠ bh) := ⟨hv, hne⟩
  have H0 : Hid (But bh w0 w0 ∧ w0.rowIs bh 124 8 (fun j => .int .u32 (if j < 0 then add32 (h j) (v j) else h j))) := ⟨But.refl _ _, hh.congr fun i _ => by simp⟩
  clear hK hv hh hne
  go_wp2_with fail
  go_loopw [18] (fun tv wx => ∃ t : Nat, tv = .int .i64 (t : Int) ∧ t ≤ 8 ∧ Hid (But bh w0 wx ∧ wx.rowIs bh 124 8 (fun j => .int .u32 (if j < t then add32 (h j) (v j) else h j)))) (fun tv _ => 8 - (intOf tv).toNat)
  case atStart => exact ⟨0, rfl, Nat.zero_le _, H0⟩
  case round =>
    obtain ⟨t, rfl, ht, HR⟩ := hrel
    by_cases hlt : t < 8
    · have ht' : wr.cell? ⟨bh, t, none⟩ = some (.int .u32 (h t)) := by
        have := HR.out.2.cell hlt
        simpa using this
      have vt : wr.cell? ⟨bv, t, none⟩ = some (.int .u32 (v t)) := (HR.out.1.row HA.out.1 HA.out.2).cell hlt
      have fz := HR.out.2.frozen t
      have tt : (t : Int) < 8 := by omega
      have t0 : (0 : Int) ≤ (t : Int) := by omega
      go_wp2_with fail
      go_region
      all_goals
        go_wp2_with fail
        go_roundw
        case rel => exact ⟨t + 1, by go_num, by omega, (adds_step HR.out rfl).1.drew, (adds_step HR.out rfl).2⟩
        case measure => simp [intOf]; omega
    · have he : t = 8 := by omega
      subst he
      go_wp2_with fail
      exact HK.out _ _ _ _ _ _ _ _ _ _ _ _ _ _ _ _ _ HR.out.1 (HR.out.2.congr fun i hi => by simp [hi])

end Go.Proofs.Ytokhpppealdfmaf
