/-
  The second inner loop of the document's Sum: the 64 rounds over a piece.
-/
import Derived.Test.YtokhpppealdfmafK02
namespace Go.Proofs.Ytokhpppealdfmaf
open Go.RowKit

theorem one_eq (a b c d e : Int) : (a + b + c + d + e) % 4294967296 = add32 (add32 (add32 (add32 a b) c) d) e := by
  unfold add32
  omega

/-- The world in which the eight numbers have turned. -/
def turned (wr : World) (b : Nat) (x0 x1 x2 x3 x4 x5 x6 x7 : Value) : World :=
  (((((((wr.setCell ⟨b, 0, none⟩ x0).setCell ⟨b, 1, none⟩ x1).setCell ⟨b, 2, none⟩ x2).setCell ⟨b, 3, none⟩ x3).setCell ⟨b, 4, none⟩ x4).setCell ⟨b, 5, none⟩ x5).setCell ⟨b, 6, none⟩ x6).setCell ⟨b, 7, none⟩ x7

theorem turned_row {wr : World} {b : Nat} {T : TypeId} {g : Nat → Value} (h : wr.rowIs b T 8 g) (f : Nat → Value) : (turned wr b (f 0) (f 1) (f 2) (f 3) (f 4) (f 5) (f 6) (f 7)).rowIs b T 8 f := by
  refine ((((((((h.set 0 _).set 1 _).set 2 _).set 3 _).set 4 _).set 5 _).set 6 _).set 7 _).congr fun i hi => ?_
  match i, hi with
  | 0, _ => rfl
  | 1, _ => rfl
  | 2, _ => rfl
  | 3, _ => rfl
  | 4, _ => rfl
  | 5, _ => rfl
  | 6, _ => rfl
  | 7, _ => rfl
theorem turned_old {W wr : World} {b : Nat} (h : Old W wr) (hb : W.heap.size ≤ b) (x0 x1 x2 x3 x4 x5 x6 x7 : Value) : Old W (turned wr b x0 x1 x2 x3 x4 x5 x6 x7) :=
  (((((((h.setCell hb _).setCell hb _).setCell hb _).setCell hb _).setCell hb _).setCell hb _).setCell hb _).setCell hb _

theorem rounds_step {W wr : World} {T : TypeId} {r : Nat → Int} {kk ww o p : Int} (h : Old W wr ∧ wr.rowIs W.heap.size T 8 (fun i => .int .u32 (r i))) (ho : o = one32 r kk ww) (hp : p = two32 r) :
    Old W (turned wr W.heap.size (.int .u32 ((o + p) % 4294967296)) (.int .u32 (r 0)) (.int .u32 (r 1)) (.int .u32 (r 2)) (.int .u32 ((r 3 + o) % 4294967296)) (.int .u32 (r 4)) (.int .u32 (r 5)) (.int .u32 (r 6))) ∧
    (turned wr W.heap.size (.int .u32 ((o + p) % 4294967296)) (.int .u32 (r 0)) (.int .u32 (r 1)) (.int .u32 (r 2)) (.int .u32 ((r 3 + o) % 4294967296)) (.int .u32 (r 4)) (.int .u32 (r 5)) (.int .u32 (r 6))).rowIs W.heap.size T 8 (fun i => .int .u32 (round32 r kk ww i)) := by
  subst ho hp
  exact ⟨turned_old h.1 (Nat.le_refl _) _ _ _ _ _ _ _ _, turned_row h.2 (fun i => .int .u32 (round32 r kk ww i))⟩

set_option maxRecDepth 100000 in
set_option maxHeartbeats 4000000 in
theorem rounds_loop {K : Act → World → Prop} {Q' : Exit → Act → World → Prop} (W w0 : World) (D v : Nat → Int) (T : TypeId) (bk bw : Nat) (c0 c1 c2 c3 c5 c6 c8 c9 c10 c11 c14 c15 c16 c17 c18 c19 c20 c21 c22 c23 c24 c25 c26 c27 c28 c29 c30 c31 c32 c33 c34 c35 c36 c37 c38 c39 c40 c41 c42 c43 c44 c45 c46 c47 c48 c49 c50 c51 c52 c53 c54 c55 c56 c57 c58 c59 c60 c61 c62 c63 c64 c65 c66 c67 c68 c69 c70 c71 c72 c73 c74 c75 c76 c77 c78 c79 c80 c81 c82 c83 c84 c85 c86 c87 c88 c89 c90 c91 c92 c93 c94 c95 c96 c97 c98 c99 c100 c101 c102 c103 c104 c105 c106 c107 c108 c109 c110 c111 c112 c113 c114 c115 c116 c117 c118 c119 c120 c121 c122 c123 c124 c125 c126 c127 c128 c129 c130 c131 c132 c133 c134 c135 c136 c137 c138 c139 c140 c141 c142 c143 c144 c145 c146 c147 c148 c149 c150 c151 c152 c153 c154 c155 c156 c157 c158 c159 c160 c161 c162 c163 c164 c165 c166 c167 c168 c169 c170 c171 c172 c173 c174 c175 c176 c177 c178 c179 c180 c181 c182 c183 c184 c185 c186 c187 c188 c189 c190 c191 c192 c193 c194 c195 c196 c197 c198 c199 c200 c201 c202 c203 c204 c205 c206 c207 c208 c209 c210 c211 c212 c213 c214 c215 c216 c217 c218 c219 c220 c221 c222 c223 c224 c225 c226 c227 c228 c229 c230 c231 c232 c233 c234 c235 c236 c237 c238 c239 c240 c241 c242 c243 c244 c245 c246 c247 c248 c249 c250 c251 c252 c253 c254 c255 c256 c257 c258 c259 c260 c261 c262 c263 c264 c265 c266 c267 : Value)
    (hold : Old W w0) (hkr : W.rowIs bk 124 64 (fun i => .int .u32 (kS i))) (hwr : W.rowIs bw 124 64 (fun i => .int .u32 (D i)))
    (hrow : w0.rowIs W.heap.size T 8 (fun i => .int .u32 (v i)))
    (hK : ∀ (u13 u14 u15 u16 u17 u156 u157 u158 u159 u160 u161 u162 u163 u164 u165 u166 u167 u168 u169 u170 u171 u172 u173 u174 u175 u176 u177 u178 u179 u180 u181 u182 u183 u184 u185 u186 u187 u188 u189 u190 u191 u192 u193 u194 u195 u196 u197 u198 u199 u200 u201 u202 u203 u204 u205 u206 u207 u208 u209 u210 u211 u212 u213 u214 u215 u216 u217 u218 u219 u220 u221 u222 u223 u224 u225 u226 u227 u228 u229 u230 u231 u232 u233 u234 u235 u236 u237 u238 u239 : Value) (w' : World), Old W w' → w'.rowIs W.heap.size T 8 (fun i => .int .u32 (rounds D 64 v i)) → K ⟨#[c0, c1, c2, c3, .slice (some ⟨bk, 0, none⟩) 64 64, c5, c6, .slice (some ⟨bw, 0, none⟩) 64 64, c8, c9, c10, c11, .pointer (some ⟨W.heap.size, 0, none⟩), u13, u14, u15, u16, u17, c18, c19, c20, c21, c22, c23, c24, c25, c26, c27, c28, c29, c30, c31, c32, c33, c34, c35, c36, c37, c38, c39, c40, c41, c42, c43, c44, c45, c46, c47, c48, c49, c50, c51, c52, c53, c54, c55, c56, c57, c58, c59, c60, c61, c62, c63, c64, c65, c66, c67, c68, c69, c70, c71, c72, c73, c74, c75, c76, c77, c78, c79, c80, c81, c82, c83, c84, c85, c86, c87, c88, c89, c90, c91, c92, c93, c94, c95, c96, c97, c98, c99, c100, c101, c102, c103, c104, c105, c106, c107, c108, c109, c110, c111, c112, c113, c114, c115, c116, c117, c118, c119, c120, c121, c122, c123, c124, c125, c126, c127, c128, c129, c130, c131, c132, c133, c134, c135, c136, c137, c138, c139, c140, c141, c142, c143, c144, c145, c146, c147, c148, c149, c150, c151, c152, c153, c154, c155, u156, u157, u158, u159, u160, u161, u162, u163, u164, u165, u166, u167, u168, u169, u170, u171, u172, u173, u174, u175, u176, u177, u178, u179, u180, u181, u182, u183, u184, u185, u186, u187, u188, u189, u190, u191, u192, u193, u194, u195, u196, u197, u198, u199, u200, u201, u202, u203, u204, u205, u206, u207, u208, u209, u210, u211, u212, u213, u214, u215, u216, u217, u218, u219, u220, u221, u222, u223, u224, u225, u226, u227, u228, u229, u230, u231, u232, u233, u234, u235, u236, u237, u238, u239, c240, c241, c242, c243, c244, c245, c246, c247, c248, c249, c250, c251, c252, c253, c254, c255, c256, c257, c258, c259, c260, c261, c262, c263, c264, c265, c266, c267], []⟩ w') :
    Code.wp Try.prog ((findBlock 6 (Try.f93.body.getD .skip)).getD .skip) (Exit.then K Q') ⟨#[c0, c1, c2, c3, .slice (some ⟨bk, 0, none⟩) 64 64, c5, c6, .slice (some ⟨bw, 0, none⟩) 64 64, c8, c9, c10, c11, .pointer (some ⟨W.heap.size, 0, none⟩), .int .i64 0, c14, c15, c16, c17, c18, c19, c20, c21, c22, c23, c24, c25, c26, c27, c28, c29, c30, c31, c32, c33, c34, c35, c36, c37, c38, c39, c40, c41, c42, c43, c44, c45, c46, c47, c48, c49, c50, c51, c52, c53, c54, c55, c56, c57, c58, c59, c60, c61, c62, c63, c64, c65, c66, c67, c68, c69, c70, c71, c72, c73, c74, c75, c76, c77, c78, c79, c80, c81, c82, c83, c84, c85, c86, c87, c88, c89, c90, c91, c92, c93, c94, c95, c96, c97, c98, c99, c100, c101, c102, c103, c104, c105, c106, c107, c108, c109, c110, c111, c112, c113, c114, c115, c116, c117, c118, c119, c120, c121, c122, c123, c124, c125, c126, c127, c128, c129, c130, c131, c132, c133, c134, c135, c136, c137, c138, c139, c140, c141, c142, c143, c144, c145, c146, c147, c148, c149, c150, c151, c152, c153, c154, c155, c156, c157, c158, c159, c160, c161, c162, c163, c164, c165, c166, c167, c168, c169, c170, c171, c172, c173, c174, c175, c176, c177, c178, c179, c180, c181, c182, c183, c184, c185, c186, c187, c188, c189, c190, c191, c192, c193, c194, c195, c196, c197, c198, c199, c200, c201, c202, c203, c204, c205, c206, c207, c208, c209, c210, c211, c212, c213, c214, c215, c216, c217, c218, c219, c220, c221, c222, c223, c224, c225, c226, c227, c228, c229, c230, c231, c232, c233, c234, c235, c236, c237, c238, c239, c240, c241, c242, c243, c244, c245, c246, c247, c248, c249, c250, c251, c252, c253, c254, c255, c256, c257, c258, c259, c260, c261, c262, c263, c264, c265, c266, c267], []⟩ w0 := by
  conv => arg 2; whnf
  have HK : Hid (∀ (u13 u14 u15 u16 u17 u156 u157 u158 u159 u160 u161 u162 u163 u164 u165 u166 u167 u168 u169 u170 u171 u172 u173 u174 u175 u176 u177 u178 u179 u180 u181 u182 u183 u184 u185 u186 u187 u188 u189 u190 u191 u192 u193 u194 u195 u196 u197 u198 u199 u200 u201 u202 u203 u204 u205 u206 u207 u208 u209 u210 u211 u212 u213 u214 u215 u216 u217 u218 u219 u220 u221 u222 u223 u224 u225 u226 u227 u228 u229 u230 u231 u232 u233 u234 u235 u236 u237 u238 u239 : Value) (w' : World), Old W w' → w'.rowIs W.heap.size T 8 (fun i => .int .u32 (rounds D 64 v i)) → K ⟨#[c0, c1, c2, c3, .slice (some ⟨bk, 0, none⟩) 64 64, c5, c6, .slice (some ⟨bw, 0, none⟩) 64 64, c8, c9, c10, c11, .pointer (some ⟨W.heap.size, 0, none⟩), u13, u14, u15, u16, u17, c18, c19, c20, c21, c22, c23, c24, c25, c26, c27, c28, c29, c30, c31, c32, c33, c34, c35, c36, c37, c38, c39, c40, c41, c42, c43, c44, c45, c46, c47, c48, c49, c50, c51, c52, c53, c54, c55, c56, c57, c58, c59, c60, c61, c62, c63, c64, c65, c66, c67, c68, c69, c70, c71, c72, c73, c74, c75, c76, c77, c78, c79, c80, c81, c82, c83, c84, c85, c86, c87, c88, c89, c90, c91, c92, c93, c94, c95, c96, c97, c98, c99, c100, c101, c102, c103, c104, c105, c106, c107, c108, c109, c110, c111, c112, c113, c114, c115, c116, c117, c118, c119, c120, c121, c122, c123, c124, c125, c126, c127, c128, c129, c130, c131, c132, c133, c134, c135, c136, c137, c138, c139, c140, c141, c142, c143, c144, c145, c146, c147, c148, c149, c150, c151, c152, c153, c154, c155, u156, u157, u158, u159, u160, u161, u162, u163, u164, u165, u166, u167, u168, u169, u170, u171, u172, u173, u174, u175, u176, u177, u178, u179, u180, u181, u182, u183, u184, u185, u186, u187, u188, u189, u190, u191, u192, u193, u194, u195, u196, u197, u198, u199, u200, u201, u202, u203, u204, u205, u206, u207, u208, u209, u210, u211, u212, u213, u214, u215, u216, u217, u218, u219, u220, u221, u222, u223, u224, u225, u226, u227, u228, u229, u230, u231, u232, u233, u234, u235, u236, u237, u238, u239, c240, c241, c242, c243, c244, c245, c246, c247, c248, c249, c250, c251, c252, c253, c254, c255, c256, c257, c258, c259, c260, c261, c262, c263, c264, c265, c266, c267], []⟩ w') := hK
  have HA : Hid (W.rowIs bk 124 64 (fun i => .int .u32 (kS i)) ∧ W.rowIs bw 124 64 (fun i => .int .u32 (D i))) := ⟨hkr, hwr⟩
  have H0 : Hid (Old W w0 ∧ w0.rowIs W.heap.size T 8 (fun i => .int .u32 (v i))) := ⟨hold, hrow⟩
  clear hK hold hrow hkr hwr
  go_wp2_with fail
  go_loopw [13] (fun tv wx => ∃ t : Nat, tv = .int .i64 (t : Int) ∧ t ≤ 64 ∧ Hid (Old W wx ∧ wx.rowIs W.heap.size T 8 (fun i => .int .u32 (rounds D t v i)))) (fun tv _ => 64 - (intOf tv).toNat)
  case atStart => exact ⟨0, rfl, Nat.zero_le _, H0⟩
  case round =>
    obtain ⟨t, rfl, ht, HR⟩ := hrel
    by_cases hlt : t < 64
    · have kt := (HR.out.1.row HA.out.1).cell hlt
      have wt := (HR.out.1.row HA.out.2).cell hlt
      have x0 := HR.out.2.cell (i := 0) (by omega)
      have x1 := HR.out.2.cell (i := 1) (by omega)
      have x2 := HR.out.2.cell (i := 2) (by omega)
      have x3 := HR.out.2.cell (i := 3) (by omega)
      have x4 := HR.out.2.cell (i := 4) (by omega)
      have x5 := HR.out.2.cell (i := 5) (by omega)
      have x6 := HR.out.2.cell (i := 6) (by omega)
      have x7 := HR.out.2.cell (i := 7) (by omega)
      have z0 := HR.out.2.frozen 0
      have z1 := HR.out.2.frozen 1
      have z2 := HR.out.2.frozen 2
      have z3 := HR.out.2.frozen 3
      have z4 := HR.out.2.frozen 4
      have z5 := HR.out.2.frozen 5
      have z6 := HR.out.2.frozen 6
      have z7 := HR.out.2.frozen 7
      have HV : Hid (∀ i, rounds D (t + 1) v i = round32 (rounds D t v) (kS t) (D t) i) := fun _ => rfl
      generalize kS t = kk at *
      generalize D t = ww at *
      have hr : ∃ r, r = rounds D t v := ⟨_, rfl⟩
      obtain ⟨r, hr⟩ := hr
      rw [← hr] at HR HV x0 x1 x2 x3 x4 x5 x6 x7
      clear hr
      have tt : (t : Int) < 64 := by omega
      have t0 : (0 : Int) ≤ (t : Int) := by omega
      go_upto_region 26 with fail
      go_cut [16] from 156 to 239 (fun ov wx => ov = .int .u32 (one32 r kk ww) ∧ ∃ n, wx = wr.drewN n)
      case first =>
        go_quiet (first
          | (go_at_call_of 103 (Value.int IntKind.i64 6); exact Calls.quiet_of (turn_any _ 6 _ (by omega)))
          | (go_at_call_of 103 (Value.int IntKind.i64 11); exact Calls.quiet_of (turn_any _ 11 _ (by omega)))
          | (go_at_call_of 103 (Value.int IntKind.i64 25); exact Calls.quiet_of (turn_any _ 25 _ (by omega))))
        go_wp2_with fail
        go_meet
        case rel => exact ⟨congrArg (Value.int .u32) (one_eq (r 7) (big1 (r 4)) (pick (r 4) (r 5) (r 6)) kk ww), _, rfl⟩
      obtain ⟨rfl, nd, rfl⟩ := hcut
      have HO : Hid (∃ o, o = one32 r kk ww) := ⟨_, rfl⟩
      obtain ⟨o, ho⟩ := HO.out
      rw [← ho]
      have HO : Hid (o = one32 r kk ww) := ho
      clear ho
      go_upto_region 27 with fail
      obtain ⟨wy, hwy⟩ : ∃ x, x = wr.drewN nd := ⟨_, rfl⟩
      have y0 : wy.cell? ⟨W.heap.size, 0, none⟩ = some (.int .u32 (r 0)) := by rw [hwy]; exact x0
      have y1 : wy.cell? ⟨W.heap.size, 1, none⟩ = some (.int .u32 (r 1)) := by rw [hwy]; exact x1
      have y2 : wy.cell? ⟨W.heap.size, 2, none⟩ = some (.int .u32 (r 2)) := by rw [hwy]; exact x2
      rw [← hwy]
      have HW : Hid (wy = wr.drewN nd) := hwy
      clear hwy
      go_cut [17] from 156 to 239 (fun ov wx => ov = .int .u32 (two32 r) ∧ ∃ n, wx = wy.drewN n)
      case first =>
        go_quiet (first
          | (go_at_call_of 103 (Value.int IntKind.i64 2); exact Calls.quiet_of (turn_any _ 2 _ (by omega)))
          | (go_at_call_of 103 (Value.int IntKind.i64 13); exact Calls.quiet_of (turn_any _ 13 _ (by omega)))
          | (go_at_call_of 103 (Value.int IntKind.i64 22); exact Calls.quiet_of (turn_any _ 22 _ (by omega))))
        go_wp2_with fail
        go_meet
        case rel => exact ⟨rfl, _, rfl⟩
      obtain ⟨rfl, nd2, rfl⟩ := hcut
      have HP : Hid (∃ p, p = two32 r) := ⟨_, rfl⟩
      obtain ⟨p, hp⟩ := HP.out
      rw [← hp]
      have HP : Hid (p = two32 r) := hp
      clear hp
      have HE : Hid (wy.drewN nd2 = wr.drewN (nd + nd2)) := by rw [HW.out]; exact World.drewN_drewN wr nd nd2
      rw [HE.out]
      clear y0 y1 y2 HW HE
      go_wp2_with fail
      go_roundw
      case rel => exact ⟨t + 1, by go_num, by omega, by
        have hs := rounds_step (T := T) (kk := kk) (ww := ww) ⟨HR.out.1.drewN (nd + nd2), HR.out.2⟩ HO.out HP.out
        exact ⟨hs.1, hs.2.congr fun i _ => by rw [HV.out i]⟩⟩
      case measure => simp [intOf]; omega
    · have he : t = 64 := by omega
      subst he
      go_wp2_with fail
      exact HK.out _ _ _ _ _ _ _ _ _ _ _ _ _ _ _ _ _ _ _ _ _ _ _ _ _ _ _ _ _ _ _ _ _ _ _ _ _ _ _ _ _ _ _ _ _ _ _ _ _ _ _ _ _ _ _ _ _ _ _ _ _ _ _ _ _ _ _ _ _ _ _ _ _ _ _ _ _ _ _ _ _ _ _ _ _ _ _ _ _ _ HR.out.1 HR.out.2

end Go.Proofs.Ytokhpppealdfmaf
