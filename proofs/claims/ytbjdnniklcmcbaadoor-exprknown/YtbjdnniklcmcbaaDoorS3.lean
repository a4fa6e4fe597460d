/- lex.split from its label 'number' on. -/
import Derived.Test.YtbjdnniklcmcbaaDoorTf
import Derived.Test.YtbjdnniklcmcbaaDoorLxLaws
import Derived.Deep.QuietTactic
import Derived.BigQuiet
namespace Go.Proofs.YtbjdnniklcmcbaaDoor
open Go.RowKit
attribute [local go_sem] run_store_complex

theorem digit_not (c : UInt8) (h : Lx.digit c = true) : Lx.blank c = false ∧ c ≠ 35 := by
  have h1 := (Lx.digit_iff c).1 h
  have h2 : ∀ d : UInt8, d.toNat < 48 → c ≠ d := by intro d hd e; subst e; omega
  have a1 := h2 32 (by decide)
  have a2 := h2 9 (by decide)
  have a3 := h2 10 (by decide)
  exact ⟨by simp [Lx.blank, a1, a2, a3], h2 35 (by decide)⟩

set_option maxRecDepth 10000 in
set_option maxHeartbeats 1000000 in
theorem seg3_on (s : ByteArray) (w0 : World) (R : Lx.Out) (k e : Nat) (acc : List Lx.Tk) (f x fst : Nat) (u1 u2 u3 u4 gd list : Value) (u12 u13 u14 u15 u16 u17 u18 u19 u20 u21 u22 u23 u24 u25 u26 u27 u28 u29 u30 u31 u32 u33 u34 u35 u36 u37 u38 u39 u40 u41 u42 u43 u44 u45 u46 u47 u48 u49 u50 u51 u52 u53 u54 u55 u56 u57 u58 u59 u60 u61 u62 u63 u64 u65 u66 u67 u68 u69 u70 u71 u72 u73 u74 u75 u76 u77 u78 u79 u80 u81 u82 u83 u84 u85 u86 u87 u88 u89 u90 u91 u92 u93 u94 u95 u96 u97 u98 u99 u100 u101 u102 u103 u104 u105 u106 u107 u108 u109 u110 u111 u112 u113 u114 u115 u116 u117 u118 u119 u120 u121 u122 u123 u124 u125 u126 u127 u128 u129 u130 u131 u132 u133 u134 u135 u136 u137 u138 u139 u140 u141 u142 : Value) (w : World) (Q : Exit → Act → World → Prop) (m : Nat)
   (hI : Inv s w0 R k k acc (f + 1) x fst list w) (hB : Box w w0.heap.size (.int .i64 0) (.string ⟨#[]⟩) (.int .i64 0) (.complex .f64 (lineW s k) (colW s k))) (hs : s.size ≤ 6000) (hm : m = (s.size - k) * 20000 + (s.size - e) + 5)
   (hke : k ≤ e) (_he : e < s.size) (hk : k < s.size) (hl : Lx.lower s[k] = false) (hd : Lx.digit s[k] = true) (hsp : Lx.span Lx.digit s.data.toList (k + 1) = Lx.span Lx.digit s.data.toList (e + 1)) (hn : e + 1 < s.size) (hg : Lx.digit s[e + 1] = true) :
   ∃ r, findLabel splitBody 3 = some r ∧ r.wp Tryd.prog (After s w0 R m Q) { tmps := #[.string s, u1, u2, u3, u4, .complex .f64 (Fp.rung x) one64, .int .i64 (fst : Int), .int .i64 (k : Int), .int .i64 (e : Int), gd, list, boxAt w0, u12, u13, u14, u15, u16, u17, u18, u19, u20, u21, u22, u23, u24, u25, u26, u27, u28, u29, u30, u31, u32, u33, u34, u35, u36, u37, u38, u39, u40, u41, u42, u43, u44, u45, u46, u47, u48, u49, u50, u51, u52, u53, u54, u55, u56, u57, u58, u59, u60, u61, u62, u63, u64, u65, u66, u67, u68, u69, u70, u71, u72, u73, u74, u75, u76, u77, u78, u79, u80, u81, u82, u83, u84, u85, u86, u87, u88, u89, u90, u91, u92, u93, u94, u95, u96, u97, u98, u99, u100, u101, u102, u103, u104, u105, u106, u107, u108, u109, u110, u111, u112, u113, u114, u115, u116, u117, u118, u119, u120, u121, u122, u123, u124, u125, u126, u127, u128, u129, u130, u131, u132, u133, u134, u135, u136, u137, u138, u139, u140, u141, u142], defers := [] } w := by
  have HI : Hid (Inv s w0 R k k acc _ x fst list w) := hI
  have HB : Hid (Box w w0.heap.size (.int .i64 0) (.string ⟨#[]⟩) (.int .i64 0) (.complex .f64 (lineW s k) (colW s k))) := hB
  have HM : Hid (m = (s.size - k) * 20000 + (s.size - e) + 5) := hm
  obtain ⟨b0, b1, b2, b3, z0, z1, z2, z3⟩ := id hB
  have hei : (e : Int) + 1 < (s.size : Int) := by omega
  have CG : Hid (∀ w, _) := isDigit_at s[e + 1] true hg
  have HL : Hid (Lx.lower s[k] = false ∧ Lx.digit s[k] = true) := ⟨hl, hd⟩
  have HS : Hid (Lx.span Lx.digit s.data.toList (k + 1) = Lx.span Lx.digit s.data.toList (e + 1 + 1)) := by
    rw [hsp]; exact Lx.span_yes _ _ (e + 1) (by simpa using hn) (by rw [byte_at s (e + 1) hn]; exact hg)
  clear hsp hl hg hd
  clear hI hB hm
  refine ⟨_, rfl, ?_⟩
  go_wp2_with fail
  refine (CG.out _).mono ?_
  rintro e' v1 ⟨rfl, rfl⟩
  go_wp2
  go_step3
  exact land3 (k := k) (e := e + 1) ⟨rfl, rfl, rfl, rfl, rfl, rfl, rfl, rfl, rfl, rfl⟩ HI.out HB.out (by omega) hn ⟨hk, HL.out⟩ HS.out (by rw [HM.out]; omega)

set_option maxRecDepth 10000 in
set_option maxHeartbeats 1000000 in
theorem seg3_last (s : ByteArray) (w0 : World) (R : Lx.Out) (k e : Nat) (acc : List Lx.Tk) (f x fst : Nat) (u1 u2 u3 u4 gd list : Value) (u12 u13 u14 u15 u16 u17 u18 u19 u20 u21 u22 u23 u24 u25 u26 u27 u28 u29 u30 u31 u32 u33 u34 u35 u36 u37 u38 u39 u40 u41 u42 u43 u44 u45 u46 u47 u48 u49 u50 u51 u52 u53 u54 u55 u56 u57 u58 u59 u60 u61 u62 u63 u64 u65 u66 u67 u68 u69 u70 u71 u72 u73 u74 u75 u76 u77 u78 u79 u80 u81 u82 u83 u84 u85 u86 u87 u88 u89 u90 u91 u92 u93 u94 u95 u96 u97 u98 u99 u100 u101 u102 u103 u104 u105 u106 u107 u108 u109 u110 u111 u112 u113 u114 u115 u116 u117 u118 u119 u120 u121 u122 u123 u124 u125 u126 u127 u128 u129 u130 u131 u132 u133 u134 u135 u136 u137 u138 u139 u140 u141 u142 : Value) (w : World) (Q : Exit → Act → World → Prop) (m : Nat)
   (hI : Inv s w0 R k k acc (f + 1) x fst list w) (hB : Box w w0.heap.size (.int .i64 0) (.string ⟨#[]⟩) (.int .i64 0) (.complex .f64 (lineW s k) (colW s k))) (hs : s.size ≤ 6000) (hm : m = (s.size - k) * 20000 + (s.size - e) + 5)
   (hke : k ≤ e) (he : e < s.size) (hk : k < s.size) (hl : Lx.lower s[k] = false) (hd : Lx.digit s[k] = true) (hsp : Lx.span Lx.digit s.data.toList (k + 1) = Lx.span Lx.digit s.data.toList (e + 1)) (hn : ¬ e + 1 < s.size) (hE : Er w0) :
   ∃ r, findLabel splitBody 3 = some r ∧ r.wp Tryd.prog (After s w0 R m Q) { tmps := #[.string s, u1, u2, u3, u4, .complex .f64 (Fp.rung x) one64, .int .i64 (fst : Int), .int .i64 (k : Int), .int .i64 (e : Int), gd, list, boxAt w0, u12, u13, u14, u15, u16, u17, u18, u19, u20, u21, u22, u23, u24, u25, u26, u27, u28, u29, u30, u31, u32, u33, u34, u35, u36, u37, u38, u39, u40, u41, u42, u43, u44, u45, u46, u47, u48, u49, u50, u51, u52, u53, u54, u55, u56, u57, u58, u59, u60, u61, u62, u63, u64, u65, u66, u67, u68, u69, u70, u71, u72, u73, u74, u75, u76, u77, u78, u79, u80, u81, u82, u83, u84, u85, u86, u87, u88, u89, u90, u91, u92, u93, u94, u95, u96, u97, u98, u99, u100, u101, u102, u103, u104, u105, u106, u107, u108, u109, u110, u111, u112, u113, u114, u115, u116, u117, u118, u119, u120, u121, u122, u123, u124, u125, u126, u127, u128, u129, u130, u131, u132, u133, u134, u135, u136, u137, u138, u139, u140, u141, u142], defers := [] } w := by
  have HI : Hid (Inv s w0 R k k acc _ x fst list w) := hI
  have HB : Hid (Box w w0.heap.size (.int .i64 0) (.string ⟨#[]⟩) (.int .i64 0) (.complex .f64 (lineW s k) (colW s k))) := hB
  have HM : Hid (m = (s.size - k) * 20000 + (s.size - e) + 5) := hm
  obtain ⟨b0, b1, b2, b3, z0, z1, z2, z3⟩ := id hB
  have hei : decide ((e : Int) + 1 < (s.size : Int)) = false := decide_eq_false (by omega)
  have hsp2 : Lx.span Lx.digit s.data.toList (k + 1) = e + 1 := by
    have hll : s.data.toList.length = s.size := by simp
    rw [hsp, show e + 1 = s.data.toList.length by omega]; exact Lx.span_end _ _
  obtain ⟨o, ho⟩ : ∃ o, Lx.num (s.extract k (e + 1)).data.toList = o := ⟨_, rfl⟩
  have h1 := one_number hk hl hd hke he hsp2 ho
  have dg := digits_of hk hd hke he hsp2
  have CA : Hid (∀ w, Er w → _) := fun w hw => amount_any (s.extract k (e + 1)) o dg.2.1 dg.2.2.1 (by have := dg.2.2.2; omega) ho w hw
  have HO1 : Hid (o.isSome = true → k < e + 1 ∧ Lx.one (s.data.toList.drop k) = some (2, e + 1 - k, o.getD 0)) := by
    intro h; cases o with
    | none => cases h
    | some v => exact ⟨by omega, h1⟩
  have HO2 : Hid (o.isSome = false → Lx.one (s.data.toList.drop k) = none) := by
    intro h; cases o with
    | none => exact h1
    | some v => cases h
  have HN : Hid (Lx.blank s[k] = false ∧ s[k] ≠ 35) := digit_not s[k] hd
  have HE : Hid (Er w0) := hE
  have hke2 : (k : Int) ≤ (e : Int) + 1 := by omega
  have hes : (e : Int) + 1 ≤ (s.size : Int) := by omega
  have het : ((e : Int) + 1).toNat = e + 1 := by omega
  clear hsp hsp2 hl hd ho h1 dg hE
  generalize hon : o.getD 0 = ov at *
  generalize hob : o.isSome = ob at *
  clear hon hob
  clear hI hB hm
  refine ⟨_, rfl, ?_⟩
  go_wp2_with fail
  refine (CA.out _ (HE.out.kept (HI.out.set 0 _).bel)).mono ?_
  rintro e' v2 ⟨rfl, q⟩
  have HI2 : Hid (Inv _ _ _ _ _ _ _ _ _ _ _) := (HI.out.set 0 _).kept q
  have HB2 : Hid (Box _ _ _ _ _ _) := (HB.out.set0 _).kept q
  obtain ⟨b0', b1', b2', b3', z0', z1', z2', z3'⟩ := id HB2.out
  clear q
  go_wp2
  go_step3
  exact land5 (k := k) (e := e + 1) (kd := 2) (n := ov) (b := ob) ⟨rfl, rfl, rfl, rfl, rfl, rfl, rfl, rfl, rfl, rfl⟩ (HI2.out.set 2 _) (HB2.out.set2 _) ⟨hk, HN.out⟩ (by omega) (by omega) HO1.out HO2.out (by rw [HM.out]; omega)

set_option maxRecDepth 10000 in
set_option maxHeartbeats 1000000 in
theorem seg3_stop (s : ByteArray) (w0 : World) (R : Lx.Out) (k e : Nat) (acc : List Lx.Tk) (f x fst : Nat) (u1 u2 u3 u4 gd list : Value) (u12 u13 u14 u15 u16 u17 u18 u19 u20 u21 u22 u23 u24 u25 u26 u27 u28 u29 u30 u31 u32 u33 u34 u35 u36 u37 u38 u39 u40 u41 u42 u43 u44 u45 u46 u47 u48 u49 u50 u51 u52 u53 u54 u55 u56 u57 u58 u59 u60 u61 u62 u63 u64 u65 u66 u67 u68 u69 u70 u71 u72 u73 u74 u75 u76 u77 u78 u79 u80 u81 u82 u83 u84 u85 u86 u87 u88 u89 u90 u91 u92 u93 u94 u95 u96 u97 u98 u99 u100 u101 u102 u103 u104 u105 u106 u107 u108 u109 u110 u111 u112 u113 u114 u115 u116 u117 u118 u119 u120 u121 u122 u123 u124 u125 u126 u127 u128 u129 u130 u131 u132 u133 u134 u135 u136 u137 u138 u139 u140 u141 u142 : Value) (w : World) (Q : Exit → Act → World → Prop) (m : Nat)
   (hI : Inv s w0 R k k acc (f + 1) x fst list w) (hB : Box w w0.heap.size (.int .i64 0) (.string ⟨#[]⟩) (.int .i64 0) (.complex .f64 (lineW s k) (colW s k))) (hs : s.size ≤ 6000) (hm : m = (s.size - k) * 20000 + (s.size - e) + 5)
   (hke : k ≤ e) (he : e < s.size) (hk : k < s.size) (hl : Lx.lower s[k] = false) (hd : Lx.digit s[k] = true) (hsp : Lx.span Lx.digit s.data.toList (k + 1) = Lx.span Lx.digit s.data.toList (e + 1)) (hn : e + 1 < s.size) (hg : Lx.digit s[e + 1] = false) (hE : Er w0) :
   ∃ r, findLabel splitBody 3 = some r ∧ r.wp Tryd.prog (After s w0 R m Q) { tmps := #[.string s, u1, u2, u3, u4, .complex .f64 (Fp.rung x) one64, .int .i64 (fst : Int), .int .i64 (k : Int), .int .i64 (e : Int), gd, list, boxAt w0, u12, u13, u14, u15, u16, u17, u18, u19, u20, u21, u22, u23, u24, u25, u26, u27, u28, u29, u30, u31, u32, u33, u34, u35, u36, u37, u38, u39, u40, u41, u42, u43, u44, u45, u46, u47, u48, u49, u50, u51, u52, u53, u54, u55, u56, u57, u58, u59, u60, u61, u62, u63, u64, u65, u66, u67, u68, u69, u70, u71, u72, u73, u74, u75, u76, u77, u78, u79, u80, u81, u82, u83, u84, u85, u86, u87, u88, u89, u90, u91, u92, u93, u94, u95, u96, u97, u98, u99, u100, u101, u102, u103, u104, u105, u106, u107, u108, u109, u110, u111, u112, u113, u114, u115, u116, u117, u118, u119, u120, u121, u122, u123, u124, u125, u126, u127, u128, u129, u130, u131, u132, u133, u134, u135, u136, u137, u138, u139, u140, u141, u142], defers := [] } w := by
  have HI : Hid (Inv s w0 R k k acc _ x fst list w) := hI
  have HB : Hid (Box w w0.heap.size (.int .i64 0) (.string ⟨#[]⟩) (.int .i64 0) (.complex .f64 (lineW s k) (colW s k))) := hB
  have HM : Hid (m = (s.size - k) * 20000 + (s.size - e) + 5) := hm
  obtain ⟨b0, b1, b2, b3, z0, z1, z2, z3⟩ := id hB
  have hei : (e : Int) + 1 < (s.size : Int) := by omega
  have CG : Hid (∀ w, _) := isDigit_at s[e + 1] false hg
  have hsp2 : Lx.span Lx.digit s.data.toList (k + 1) = e + 1 := by
    rw [hsp]; exact Lx.span_no _ _ (e + 1) (by simpa using hn) (by rw [byte_at s (e + 1) hn]; exact hg)
  clear hg
  obtain ⟨o, ho⟩ : ∃ o, Lx.num (s.extract k (e + 1)).data.toList = o := ⟨_, rfl⟩
  have h1 := one_number hk hl hd hke he hsp2 ho
  have dg := digits_of hk hd hke he hsp2
  have CA : Hid (∀ w, Er w → _) := fun w hw => amount_any (s.extract k (e + 1)) o dg.2.1 dg.2.2.1 (by have := dg.2.2.2; omega) ho w hw
  have HO1 : Hid (o.isSome = true → k < e + 1 ∧ Lx.one (s.data.toList.drop k) = some (2, e + 1 - k, o.getD 0)) := by
    intro h; cases o with
    | none => cases h
    | some v => exact ⟨by omega, h1⟩
  have HO2 : Hid (o.isSome = false → Lx.one (s.data.toList.drop k) = none) := by
    intro h; cases o with
    | none => exact h1
    | some v => cases h
  have HN : Hid (Lx.blank s[k] = false ∧ s[k] ≠ 35) := digit_not s[k] hd
  have HE : Hid (Er w0) := hE
  have hke2 : (k : Int) ≤ (e : Int) + 1 := by omega
  have hes : (e : Int) + 1 ≤ (s.size : Int) := by omega
  have het : ((e : Int) + 1).toNat = e + 1 := by omega
  clear hsp hsp2 hl hd ho h1 dg hE
  generalize hon : o.getD 0 = ov at *
  generalize hob : o.isSome = ob at *
  clear hon hob
  clear hI hB hm
  refine ⟨_, rfl, ?_⟩
  go_wp2_with fail
  refine (CG.out _).mono ?_
  rintro e' v1 ⟨rfl, rfl⟩
  go_wp2_with fail
  refine (CA.out _ (HE.out.kept (HI.out.set 0 _).bel)).mono ?_
  rintro e' v2 ⟨rfl, q⟩
  have HI2 : Hid (Inv _ _ _ _ _ _ _ _ _ _ _) := (HI.out.set 0 _).kept q
  have HB2 : Hid (Box _ _ _ _ _ _) := (HB.out.set0 _).kept q
  obtain ⟨b0', b1', b2', b3', z0', z1', z2', z3'⟩ := id HB2.out
  clear q
  go_wp2
  go_step3
  exact land5 (k := k) (e := e + 1) (kd := 2) (n := ov) (b := ob) ⟨rfl, rfl, rfl, rfl, rfl, rfl, rfl, rfl, rfl, rfl⟩ (HI2.out.set 2 _) (HB2.out.set2 _) ⟨hk, HN.out⟩ (by omega) (by omega) HO1.out HO2.out (by rw [HM.out]; omega)


end Go.Proofs.YtbjdnniklcmcbaaDoor
