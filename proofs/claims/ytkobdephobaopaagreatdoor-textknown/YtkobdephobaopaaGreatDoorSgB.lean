/- lex.split from its label 'note' on. lex.split from its label 'word' on. lex.split from its label 'number' on. lex.split from its label 'token' on. lex.split from its label 'sign' on. -/
import Derived.Test.YtkobdephobaopaaGreatDoorSgA
import Derived.Test.YtkobdephobaopaaGreatDoorLxA
import Derived.Deep.QuietTactic
import Derived.BigQuiet

namespace Go.Proofs.YtkobdephobaopaaGreatDoor
open Go.RowKit
attribute [local go_sem] run_store_complex

set_option maxRecDepth 10000 in
set_option maxHeartbeats 1000000 in
theorem seg1_end (s : ByteArray) (w0 : World) (R : Lx.Out) (k : Nat) (acc : List Lx.Tk) (f x fst : Nat) (u1 u2 u3 u4 en gd list c0 c1 c2 c3 : Value) (u12 u13 u14 u15 u16 u17 u18 u19 u20 u21 u22 u23 u24 u25 u26 u27 u28 u29 u30 u31 u32 u33 u34 u35 u36 u37 u38 u39 u40 u41 u42 u43 u44 u45 u46 u47 u48 u49 u50 u51 u52 u53 u54 u55 u56 u57 u58 u59 u60 u61 u62 u63 u64 u65 u66 u67 u68 u69 u70 u71 u72 u73 u74 u75 u76 u77 u78 u79 u80 u81 u82 u83 u84 u85 u86 u87 u88 u89 u90 u91 u92 u93 u94 u95 u96 u97 u98 u99 u100 u101 u102 u103 u104 u105 u106 u107 u108 u109 u110 u111 u112 u113 u114 u115 u116 u117 u118 u119 u120 u121 u122 u123 u124 u125 u126 u127 u128 u129 u130 u131 u132 u133 u134 u135 u136 u137 u138 u139 u140 u141 u142 : Value) (w : World) (Q : Exit → Act → World → Prop) (m : Nat)
   (hI : Inv s w0 R k (Lx.span Lx.noFeed s.data.toList k) acc f x fst list w) (hB : Box w w0.heap.size c0 c1 c2 c3) (_hs : s.size ≤ 6000) (hm : m = (s.size - k) * 20000 + (if stopAt s k then 16000 else 14000)) (hk : k = s.size) :
   ∃ r, findLabel splitBody 1 = some r ∧ r.wp Tryz.prog (After s w0 R m Q) { tmps := #[.string s, u1, u2, u3, u4, .complex .f64 (Fp.rung x) one64, .int .i64 (fst : Int), .int .i64 (k : Int), en, gd, list, boxAt w0, u12, u13, u14, u15, u16, u17, u18, u19, u20, u21, u22, u23, u24, u25, u26, u27, u28, u29, u30, u31, u32, u33, u34, u35, u36, u37, u38, u39, u40, u41, u42, u43, u44, u45, u46, u47, u48, u49, u50, u51, u52, u53, u54, u55, u56, u57, u58, u59, u60, u61, u62, u63, u64, u65, u66, u67, u68, u69, u70, u71, u72, u73, u74, u75, u76, u77, u78, u79, u80, u81, u82, u83, u84, u85, u86, u87, u88, u89, u90, u91, u92, u93, u94, u95, u96, u97, u98, u99, u100, u101, u102, u103, u104, u105, u106, u107, u108, u109, u110, u111, u112, u113, u114, u115, u116, u117, u118, u119, u120, u121, u122, u123, u124, u125, u126, u127, u128, u129, u130, u131, u132, u133, u134, u135, u136, u137, u138, u139, u140, u141, u142], defers := [] } w := by
  have HI : Hid (Inv s w0 R k _ acc _ x fst list w) := hI
  have HB : Hid (Box w w0.heap.size c0 c1 c2 c3) := hB
  have HM : Hid (m = (s.size - k) * 20000 + (if stopAt s k then 16000 else 14000)) := hm
  have hkb : ((k : Int) == (s.size : Int)) = true := by rw [hk]; simp
  have HN : Hid (Inv s w0 R k k acc _ x fst list w) := hI.noteEnd (.inl hk)
  have HS : Hid (stopAt s k = true) := stop_end hk
  clear hk
  clear hI hB hm
  refine ⟨_, rfl, ?_⟩
  go_wp2
  go_step3
  exact land0 (k := k) ⟨rfl, rfl, rfl, rfl, rfl, rfl, rfl, rfl, rfl, rfl⟩ HN.out HB.out (by rw [HM.out, HS.out]; simp only [if_true]; omega)

set_option maxRecDepth 10000 in
set_option maxHeartbeats 1000000 in
theorem seg1_feed (s : ByteArray) (w0 : World) (R : Lx.Out) (k : Nat) (acc : List Lx.Tk) (f x fst : Nat) (u1 u2 u3 u4 en gd list c0 c1 c2 c3 : Value) (u12 u13 u14 u15 u16 u17 u18 u19 u20 u21 u22 u23 u24 u25 u26 u27 u28 u29 u30 u31 u32 u33 u34 u35 u36 u37 u38 u39 u40 u41 u42 u43 u44 u45 u46 u47 u48 u49 u50 u51 u52 u53 u54 u55 u56 u57 u58 u59 u60 u61 u62 u63 u64 u65 u66 u67 u68 u69 u70 u71 u72 u73 u74 u75 u76 u77 u78 u79 u80 u81 u82 u83 u84 u85 u86 u87 u88 u89 u90 u91 u92 u93 u94 u95 u96 u97 u98 u99 u100 u101 u102 u103 u104 u105 u106 u107 u108 u109 u110 u111 u112 u113 u114 u115 u116 u117 u118 u119 u120 u121 u122 u123 u124 u125 u126 u127 u128 u129 u130 u131 u132 u133 u134 u135 u136 u137 u138 u139 u140 u141 u142 : Value) (w : World) (Q : Exit → Act → World → Prop) (m : Nat)
   (hI : Inv s w0 R k (Lx.span Lx.noFeed s.data.toList k) acc f x fst list w) (hB : Box w w0.heap.size c0 c1 c2 c3) (_hs : s.size ≤ 6000) (hm : m = (s.size - k) * 20000 + (if stopAt s k then 16000 else 14000)) (hk : k < s.size) (hc : s[k] = 10) :
   ∃ r, findLabel splitBody 1 = some r ∧ r.wp Tryz.prog (After s w0 R m Q) { tmps := #[.string s, u1, u2, u3, u4, .complex .f64 (Fp.rung x) one64, .int .i64 (fst : Int), .int .i64 (k : Int), en, gd, list, boxAt w0, u12, u13, u14, u15, u16, u17, u18, u19, u20, u21, u22, u23, u24, u25, u26, u27, u28, u29, u30, u31, u32, u33, u34, u35, u36, u37, u38, u39, u40, u41, u42, u43, u44, u45, u46, u47, u48, u49, u50, u51, u52, u53, u54, u55, u56, u57, u58, u59, u60, u61, u62, u63, u64, u65, u66, u67, u68, u69, u70, u71, u72, u73, u74, u75, u76, u77, u78, u79, u80, u81, u82, u83, u84, u85, u86, u87, u88, u89, u90, u91, u92, u93, u94, u95, u96, u97, u98, u99, u100, u101, u102, u103, u104, u105, u106, u107, u108, u109, u110, u111, u112, u113, u114, u115, u116, u117, u118, u119, u120, u121, u122, u123, u124, u125, u126, u127, u128, u129, u130, u131, u132, u133, u134, u135, u136, u137, u138, u139, u140, u141, u142], defers := [] } w := by
  have HI : Hid (Inv s w0 R k _ acc _ x fst list w) := hI
  have HB : Hid (Box w w0.heap.size c0 c1 c2 c3) := hB
  have HM : Hid (m = (s.size - k) * 20000 + (if stopAt s k then 16000 else 14000)) := hm
  have hkb : ((k : Int) == (s.size : Int)) = false := by rw [beq_eq_false_iff_ne]; omega
  have hki : (k : Int) < (s.size : Int) := by omega
  have e10 : ((s[k].toNat : Int) == 10) = true := by rw [hc]; rfl
  have HN : Hid (Inv s w0 R k k acc _ x fst list w) := hI.noteEnd (.inr ⟨hk, hc⟩)
  have HS : Hid (stopAt s k = true) := stop_yes hk hc
  clear hc
  clear hI hB hm
  refine ⟨_, rfl, ?_⟩
  go_wp2
  go_step3
  exact land0 (k := k) ⟨rfl, rfl, rfl, rfl, rfl, rfl, rfl, rfl, rfl, rfl⟩ HN.out HB.out (by rw [HM.out, HS.out]; simp only [if_true]; omega)

set_option maxRecDepth 10000 in
set_option maxHeartbeats 1000000 in
theorem seg1_on (s : ByteArray) (w0 : World) (R : Lx.Out) (k : Nat) (acc : List Lx.Tk) (f x fst : Nat) (u1 u2 u3 u4 en gd list c0 c1 c2 c3 : Value) (u12 u13 u14 u15 u16 u17 u18 u19 u20 u21 u22 u23 u24 u25 u26 u27 u28 u29 u30 u31 u32 u33 u34 u35 u36 u37 u38 u39 u40 u41 u42 u43 u44 u45 u46 u47 u48 u49 u50 u51 u52 u53 u54 u55 u56 u57 u58 u59 u60 u61 u62 u63 u64 u65 u66 u67 u68 u69 u70 u71 u72 u73 u74 u75 u76 u77 u78 u79 u80 u81 u82 u83 u84 u85 u86 u87 u88 u89 u90 u91 u92 u93 u94 u95 u96 u97 u98 u99 u100 u101 u102 u103 u104 u105 u106 u107 u108 u109 u110 u111 u112 u113 u114 u115 u116 u117 u118 u119 u120 u121 u122 u123 u124 u125 u126 u127 u128 u129 u130 u131 u132 u133 u134 u135 u136 u137 u138 u139 u140 u141 u142 : Value) (w : World) (Q : Exit → Act → World → Prop) (m : Nat)
   (hI : Inv s w0 R k (Lx.span Lx.noFeed s.data.toList k) acc f x fst list w) (hB : Box w w0.heap.size c0 c1 c2 c3) (hs : s.size ≤ 6000) (hm : m = (s.size - k) * 20000 + (if stopAt s k then 16000 else 14000)) (hk : k < s.size) (hc : s[k] ≠ 10) :
   ∃ r, findLabel splitBody 1 = some r ∧ r.wp Tryz.prog (After s w0 R m Q) { tmps := #[.string s, u1, u2, u3, u4, .complex .f64 (Fp.rung x) one64, .int .i64 (fst : Int), .int .i64 (k : Int), en, gd, list, boxAt w0, u12, u13, u14, u15, u16, u17, u18, u19, u20, u21, u22, u23, u24, u25, u26, u27, u28, u29, u30, u31, u32, u33, u34, u35, u36, u37, u38, u39, u40, u41, u42, u43, u44, u45, u46, u47, u48, u49, u50, u51, u52, u53, u54, u55, u56, u57, u58, u59, u60, u61, u62, u63, u64, u65, u66, u67, u68, u69, u70, u71, u72, u73, u74, u75, u76, u77, u78, u79, u80, u81, u82, u83, u84, u85, u86, u87, u88, u89, u90, u91, u92, u93, u94, u95, u96, u97, u98, u99, u100, u101, u102, u103, u104, u105, u106, u107, u108, u109, u110, u111, u112, u113, u114, u115, u116, u117, u118, u119, u120, u121, u122, u123, u124, u125, u126, u127, u128, u129, u130, u131, u132, u133, u134, u135, u136, u137, u138, u139, u140, u141, u142], defers := [] } w := by
  have HI : Hid (Inv s w0 R k _ acc _ x fst list w) := hI
  have HB : Hid (Box w w0.heap.size c0 c1 c2 c3) := hB
  have HM : Hid (m = (s.size - k) * 20000 + (if stopAt s k then 16000 else 14000)) := hm
  have hkb : ((k : Int) == (s.size : Int)) = false := by rw [beq_eq_false_iff_ne]; omega
  have hki : (k : Int) < (s.size : Int) := by omega
  have e10 : ((s[k].toNat : Int) == 10) = false := ne_byte (n := 10) (by decide) hc
  have HN : Hid (Inv s w0 R (k + 1) _ acc _ x fst list w) := hI.noteOn hk hc
  have HS : Hid (stopAt s k = false) := stop_no hk hc
  clear hc
  clear hI hB hm
  refine ⟨_, rfl, ?_⟩
  go_wp2
  go_step3
  exact land1 (k := k + 1) ⟨rfl, rfl, rfl, rfl, rfl, rfl, rfl, rfl, rfl, rfl⟩ HN.out HB.out (by rw [HM.out, HS.out]; simp only [Bool.false_eq_true, if_false]; split <;> omega)


end Go.Proofs.YtkobdephobaopaaGreatDoor

namespace Go.Proofs.YtkobdephobaopaaGreatDoor
open Go.RowKit
attribute [local go_sem] run_store_complex

set_option maxRecDepth 10000 in
set_option maxHeartbeats 1000000 in
theorem seg2_on (s : ByteArray) (w0 : World) (R : Lx.Out) (k e : Nat) (acc : List Lx.Tk) (f x fst : Nat) (u1 u2 u3 u4 gd list : Value) (u12 u13 u14 u15 u16 u17 u18 u19 u20 u21 u22 u23 u24 u25 u26 u27 u28 u29 u30 u31 u32 u33 u34 u35 u36 u37 u38 u39 u40 u41 u42 u43 u44 u45 u46 u47 u48 u49 u50 u51 u52 u53 u54 u55 u56 u57 u58 u59 u60 u61 u62 u63 u64 u65 u66 u67 u68 u69 u70 u71 u72 u73 u74 u75 u76 u77 u78 u79 u80 u81 u82 u83 u84 u85 u86 u87 u88 u89 u90 u91 u92 u93 u94 u95 u96 u97 u98 u99 u100 u101 u102 u103 u104 u105 u106 u107 u108 u109 u110 u111 u112 u113 u114 u115 u116 u117 u118 u119 u120 u121 u122 u123 u124 u125 u126 u127 u128 u129 u130 u131 u132 u133 u134 u135 u136 u137 u138 u139 u140 u141 u142 : Value) (w : World) (Q : Exit → Act → World → Prop) (m : Nat)
   (hI : Inv s w0 R k k acc (f + 1) x fst list w) (hB : Box w w0.heap.size (.int .i64 0) (.string ⟨#[]⟩) (.int .i64 0) (.complex .f64 (lineW s k) (colW s k))) (hs : s.size ≤ 6000) (hm : m = (s.size - k) * 20000 + (s.size - e) + 5)
   (hke : k ≤ e) (_he : e < s.size) (hk : k < s.size) (hl : Lx.lower s[k] = true) (hsp : Lx.span Lx.goes s.data.toList (k + 1) = Lx.span Lx.goes s.data.toList (e + 1)) (hn : e + 1 < s.size) (hg : Lx.goes s[e + 1] = true) :
   ∃ r, findLabel splitBody 2 = some r ∧ r.wp Tryz.prog (After s w0 R m Q) { tmps := #[.string s, u1, u2, u3, u4, .complex .f64 (Fp.rung x) one64, .int .i64 (fst : Int), .int .i64 (k : Int), .int .i64 (e : Int), gd, list, boxAt w0, u12, u13, u14, u15, u16, u17, u18, u19, u20, u21, u22, u23, u24, u25, u26, u27, u28, u29, u30, u31, u32, u33, u34, u35, u36, u37, u38, u39, u40, u41, u42, u43, u44, u45, u46, u47, u48, u49, u50, u51, u52, u53, u54, u55, u56, u57, u58, u59, u60, u61, u62, u63, u64, u65, u66, u67, u68, u69, u70, u71, u72, u73, u74, u75, u76, u77, u78, u79, u80, u81, u82, u83, u84, u85, u86, u87, u88, u89, u90, u91, u92, u93, u94, u95, u96, u97, u98, u99, u100, u101, u102, u103, u104, u105, u106, u107, u108, u109, u110, u111, u112, u113, u114, u115, u116, u117, u118, u119, u120, u121, u122, u123, u124, u125, u126, u127, u128, u129, u130, u131, u132, u133, u134, u135, u136, u137, u138, u139, u140, u141, u142], defers := [] } w := by
  have HI : Hid (Inv s w0 R k k acc _ x fst list w) := hI
  have HB : Hid (Box w w0.heap.size (.int .i64 0) (.string ⟨#[]⟩) (.int .i64 0) (.complex .f64 (lineW s k) (colW s k))) := hB
  have HM : Hid (m = (s.size - k) * 20000 + (s.size - e) + 5) := hm
  obtain ⟨b0, b1, b2, b3, z0, z1, z2, z3⟩ := id hB
  have hei : (e : Int) + 1 < (s.size : Int) := by omega
  have CG : Hid (∀ w, _) := goesOn_at s[e + 1] true hg
  have HL : Hid (Lx.lower s[k] = true) := hl
  have HS : Hid (Lx.span Lx.goes s.data.toList (k + 1) = Lx.span Lx.goes s.data.toList (e + 1 + 1)) := by
    rw [hsp]; exact Lx.span_yes _ _ (e + 1) (by simpa using hn) (by rw [byte_at s (e + 1) hn]; exact hg)
  clear hsp hl hg
  clear hI hB hm
  refine ⟨_, rfl, ?_⟩
  go_wp2_with fail
  refine (CG.out _).mono ?_
  rintro e' v1 ⟨rfl, rfl⟩
  go_wp2
  go_step3
  exact land2 (k := k) (e := e + 1) ⟨rfl, rfl, rfl, rfl, rfl, rfl, rfl, rfl, rfl, rfl⟩ HI.out HB.out (by omega) hn ⟨hk, HL.out⟩ HS.out (by rw [HM.out]; omega)

set_option maxRecDepth 10000 in
set_option maxHeartbeats 1000000 in
theorem seg2_last (s : ByteArray) (w0 : World) (R : Lx.Out) (k e : Nat) (acc : List Lx.Tk) (f x fst : Nat) (u1 u2 u3 u4 gd list : Value) (u12 u13 u14 u15 u16 u17 u18 u19 u20 u21 u22 u23 u24 u25 u26 u27 u28 u29 u30 u31 u32 u33 u34 u35 u36 u37 u38 u39 u40 u41 u42 u43 u44 u45 u46 u47 u48 u49 u50 u51 u52 u53 u54 u55 u56 u57 u58 u59 u60 u61 u62 u63 u64 u65 u66 u67 u68 u69 u70 u71 u72 u73 u74 u75 u76 u77 u78 u79 u80 u81 u82 u83 u84 u85 u86 u87 u88 u89 u90 u91 u92 u93 u94 u95 u96 u97 u98 u99 u100 u101 u102 u103 u104 u105 u106 u107 u108 u109 u110 u111 u112 u113 u114 u115 u116 u117 u118 u119 u120 u121 u122 u123 u124 u125 u126 u127 u128 u129 u130 u131 u132 u133 u134 u135 u136 u137 u138 u139 u140 u141 u142 : Value) (w : World) (Q : Exit → Act → World → Prop) (m : Nat)
   (hI : Inv s w0 R k k acc (f + 1) x fst list w) (hB : Box w w0.heap.size (.int .i64 0) (.string ⟨#[]⟩) (.int .i64 0) (.complex .f64 (lineW s k) (colW s k))) (hs : s.size ≤ 6000) (hm : m = (s.size - k) * 20000 + (s.size - e) + 5)
   (hke : k ≤ e) (_he : e < s.size) (hk : k < s.size) (hl : Lx.lower s[k] = true) (hsp : Lx.span Lx.goes s.data.toList (k + 1) = Lx.span Lx.goes s.data.toList (e + 1)) (hn : ¬ e + 1 < s.size) :
   ∃ r, findLabel splitBody 2 = some r ∧ r.wp Tryz.prog (After s w0 R m Q) { tmps := #[.string s, u1, u2, u3, u4, .complex .f64 (Fp.rung x) one64, .int .i64 (fst : Int), .int .i64 (k : Int), .int .i64 (e : Int), gd, list, boxAt w0, u12, u13, u14, u15, u16, u17, u18, u19, u20, u21, u22, u23, u24, u25, u26, u27, u28, u29, u30, u31, u32, u33, u34, u35, u36, u37, u38, u39, u40, u41, u42, u43, u44, u45, u46, u47, u48, u49, u50, u51, u52, u53, u54, u55, u56, u57, u58, u59, u60, u61, u62, u63, u64, u65, u66, u67, u68, u69, u70, u71, u72, u73, u74, u75, u76, u77, u78, u79, u80, u81, u82, u83, u84, u85, u86, u87, u88, u89, u90, u91, u92, u93, u94, u95, u96, u97, u98, u99, u100, u101, u102, u103, u104, u105, u106, u107, u108, u109, u110, u111, u112, u113, u114, u115, u116, u117, u118, u119, u120, u121, u122, u123, u124, u125, u126, u127, u128, u129, u130, u131, u132, u133, u134, u135, u136, u137, u138, u139, u140, u141, u142], defers := [] } w := by
  have HI : Hid (Inv s w0 R k k acc _ x fst list w) := hI
  have HB : Hid (Box w w0.heap.size (.int .i64 0) (.string ⟨#[]⟩) (.int .i64 0) (.complex .f64 (lineW s k) (colW s k))) := hB
  have HM : Hid (m = (s.size - k) * 20000 + (s.size - e) + 5) := hm
  obtain ⟨b0, b1, b2, b3, z0, z1, z2, z3⟩ := id hB
  have hei : decide ((e : Int) + 1 < (s.size : Int)) = false := decide_eq_false (by omega)
  have hsp2 : Lx.span Lx.goes s.data.toList (k + 1) = e + 1 := by
    have hll : s.data.toList.length = s.size := by simp
    rw [hsp, show e + 1 = s.data.toList.length by omega]; exact Lx.span_end _ _
  have ho := one_word hk hl hke hsp2
  obtain ⟨b, hb⟩ : ∃ b : Bool, decide ((e : Int) + 1 - (k : Int) ≤ 12) = b := ⟨_, rfl⟩
  have HO1 : Hid (b = true → k < e + 1 ∧ Lx.one (s.data.toList.drop k) = some (1, e + 1 - k, 0)) := by
    intro h; rw [h, decide_eq_true_eq] at hb; exact ⟨by omega, by rw [ho, if_pos (by omega)]⟩
  have HO2 : Hid (b = false → Lx.one (s.data.toList.drop k) = none) := by
    intro h; rw [h, decide_eq_false_iff_not] at hb; rw [ho, if_neg (by omega)]
  have HN : Hid (Lx.blank s[k] = false ∧ s[k] ≠ 35) := Lx.lower_not s[k] hl
  clear hsp hsp2 hl ho
  clear hI hB hm
  refine ⟨_, rfl, ?_⟩
  go_wp2
  go_step3
  exact land5 (k := k) (e := e + 1) (kd := 1) (n := 0) (b := b) ⟨rfl, rfl, rfl, rfl, rfl, rfl, rfl, rfl, rfl, rfl⟩ (HI.out.set 0 _) (HB.out.set0 _) ⟨hk, HN.out⟩ (by omega) (by omega) HO1.out HO2.out (by rw [HM.out]; omega)

set_option maxRecDepth 10000 in
set_option maxHeartbeats 1000000 in
theorem seg2_stop (s : ByteArray) (w0 : World) (R : Lx.Out) (k e : Nat) (acc : List Lx.Tk) (f x fst : Nat) (u1 u2 u3 u4 gd list : Value) (u12 u13 u14 u15 u16 u17 u18 u19 u20 u21 u22 u23 u24 u25 u26 u27 u28 u29 u30 u31 u32 u33 u34 u35 u36 u37 u38 u39 u40 u41 u42 u43 u44 u45 u46 u47 u48 u49 u50 u51 u52 u53 u54 u55 u56 u57 u58 u59 u60 u61 u62 u63 u64 u65 u66 u67 u68 u69 u70 u71 u72 u73 u74 u75 u76 u77 u78 u79 u80 u81 u82 u83 u84 u85 u86 u87 u88 u89 u90 u91 u92 u93 u94 u95 u96 u97 u98 u99 u100 u101 u102 u103 u104 u105 u106 u107 u108 u109 u110 u111 u112 u113 u114 u115 u116 u117 u118 u119 u120 u121 u122 u123 u124 u125 u126 u127 u128 u129 u130 u131 u132 u133 u134 u135 u136 u137 u138 u139 u140 u141 u142 : Value) (w : World) (Q : Exit → Act → World → Prop) (m : Nat)
   (hI : Inv s w0 R k k acc (f + 1) x fst list w) (hB : Box w w0.heap.size (.int .i64 0) (.string ⟨#[]⟩) (.int .i64 0) (.complex .f64 (lineW s k) (colW s k))) (hs : s.size ≤ 6000) (hm : m = (s.size - k) * 20000 + (s.size - e) + 5)
   (hke : k ≤ e) (_he : e < s.size) (hk : k < s.size) (hl : Lx.lower s[k] = true) (hsp : Lx.span Lx.goes s.data.toList (k + 1) = Lx.span Lx.goes s.data.toList (e + 1)) (hn : e + 1 < s.size) (hg : Lx.goes s[e + 1] = false) :
   ∃ r, findLabel splitBody 2 = some r ∧ r.wp Tryz.prog (After s w0 R m Q) { tmps := #[.string s, u1, u2, u3, u4, .complex .f64 (Fp.rung x) one64, .int .i64 (fst : Int), .int .i64 (k : Int), .int .i64 (e : Int), gd, list, boxAt w0, u12, u13, u14, u15, u16, u17, u18, u19, u20, u21, u22, u23, u24, u25, u26, u27, u28, u29, u30, u31, u32, u33, u34, u35, u36, u37, u38, u39, u40, u41, u42, u43, u44, u45, u46, u47, u48, u49, u50, u51, u52, u53, u54, u55, u56, u57, u58, u59, u60, u61, u62, u63, u64, u65, u66, u67, u68, u69, u70, u71, u72, u73, u74, u75, u76, u77, u78, u79, u80, u81, u82, u83, u84, u85, u86, u87, u88, u89, u90, u91, u92, u93, u94, u95, u96, u97, u98, u99, u100, u101, u102, u103, u104, u105, u106, u107, u108, u109, u110, u111, u112, u113, u114, u115, u116, u117, u118, u119, u120, u121, u122, u123, u124, u125, u126, u127, u128, u129, u130, u131, u132, u133, u134, u135, u136, u137, u138, u139, u140, u141, u142], defers := [] } w := by
  have HI : Hid (Inv s w0 R k k acc _ x fst list w) := hI
  have HB : Hid (Box w w0.heap.size (.int .i64 0) (.string ⟨#[]⟩) (.int .i64 0) (.complex .f64 (lineW s k) (colW s k))) := hB
  have HM : Hid (m = (s.size - k) * 20000 + (s.size - e) + 5) := hm
  obtain ⟨b0, b1, b2, b3, z0, z1, z2, z3⟩ := id hB
  have hei : (e : Int) + 1 < (s.size : Int) := by omega
  have CG : Hid (∀ w, _) := goesOn_at s[e + 1] false hg
  have hsp2 : Lx.span Lx.goes s.data.toList (k + 1) = e + 1 := by
    rw [hsp]; exact Lx.span_no _ _ (e + 1) (by simpa using hn) (by rw [byte_at s (e + 1) hn]; exact hg)
  clear hg
  have ho := one_word hk hl hke hsp2
  obtain ⟨b, hb⟩ : ∃ b : Bool, decide ((e : Int) + 1 - (k : Int) ≤ 12) = b := ⟨_, rfl⟩
  have HO1 : Hid (b = true → k < e + 1 ∧ Lx.one (s.data.toList.drop k) = some (1, e + 1 - k, 0)) := by
    intro h; rw [h, decide_eq_true_eq] at hb; exact ⟨by omega, by rw [ho, if_pos (by omega)]⟩
  have HO2 : Hid (b = false → Lx.one (s.data.toList.drop k) = none) := by
    intro h; rw [h, decide_eq_false_iff_not] at hb; rw [ho, if_neg (by omega)]
  have HN : Hid (Lx.blank s[k] = false ∧ s[k] ≠ 35) := Lx.lower_not s[k] hl
  clear hsp hsp2 hl ho
  clear hI hB hm
  refine ⟨_, rfl, ?_⟩
  go_wp2_with fail
  refine (CG.out _).mono ?_
  rintro e' v1 ⟨rfl, rfl⟩
  go_wp2
  go_step3
  exact land5 (k := k) (e := e + 1) (kd := 1) (n := 0) (b := b) ⟨rfl, rfl, rfl, rfl, rfl, rfl, rfl, rfl, rfl, rfl⟩ (HI.out.set 0 _) (HB.out.set0 _) ⟨hk, HN.out⟩ (by omega) (by omega) HO1.out HO2.out (by rw [HM.out]; omega)


end Go.Proofs.YtkobdephobaopaaGreatDoor

namespace Go.Proofs.YtkobdephobaopaaGreatDoor
open Go.RowKit
attribute [local go_sem] run_store_complex

theorem digit_not (c : UInt8) (h : Lx.digit c = true) : Lx.blank c = false ∧ c ≠ 35 := by
  have h1 := (Lx.digit_iff c).1 h
  have h2 : ∀ d : UInt8, d.toNat < 48 → c ≠ d := by intro d hd e; subst e; omega
  have a1 := h2 32 (by decide)
  have a2 := h2 9 (by decide)
  have a3 := h2 10 (by decide)
  exact ⟨by simp [Lx.blank, a1, a2, a3], h2 35 (by decide)⟩

set_option maxRecDepth 10000 in
set_option maxHeartbeats 1000000 in
theorem seg3_on (s : ByteArray) (w0 : World) (R : Lx.Out) (k e : Nat) (acc : List Lx.Tk) (f x fst : Nat) (u1 u2 u3 u4 gd list : Value) (u12 u13 u14 u15 u16 u17 u18 u19 u20 u21 u22 u23 u24 u25 u26 u27 u28 u29 u30 u31 u32 u33 u34 u35 u36 u37 u38 u39 u40 u41 u42 u43 u44 u45 u46 u47 u48 u49 u50 u51 u52 u53 u54 u55 u56 u57 u58 u59 u60 u61 u62 u63 u64 u65 u66 u67 u68 u69 u70 u71 u72 u73 u74 u75 u76 u77 u78 u79 u80 u81 u82 u83 u84 u85 u86 u87 u88 u89 u90 u91 u92 u93 u94 u95 u96 u97 u98 u99 u100 u101 u102 u103 u104 u105 u106 u107 u108 u109 u110 u111 u112 u113 u114 u115 u116 u117 u118 u119 u120 u121 u122 u123 u124 u125 u126 u127 u128 u129 u130 u131 u132 u133 u134 u135 u136 u137 u138 u139 u140 u141 u142 : Value) (w : World) (Q : Exit → Act → World → Prop) (m : Nat)
   (hI : Inv s w0 R k k acc (f + 1) x fst list w) (hB : Box w w0.heap.size (.int .i64 0) (.string ⟨#[]⟩) (.int .i64 0) (.complex .f64 (lineW s k) (colW s k))) (hs : s.size ≤ 6000) (hm : m = (s.size - k) * 20000 + (s.size - e) + 5)
   (hke : k ≤ e) (_he : e < s.size) (hk : k < s.size) (hl : Lx.lower s[k] = false) (hd : Lx.digit s[k] = true) (hsp : Lx.span Lx.digit s.data.toList (k + 1) = Lx.span Lx.digit s.data.toList (e + 1)) (hn : e + 1 < s.size) (hg : Lx.digit s[e + 1] = true) :
   ∃ r, findLabel splitBody 3 = some r ∧ r.wp Tryz.prog (After s w0 R m Q) { tmps := #[.string s, u1, u2, u3, u4, .complex .f64 (Fp.rung x) one64, .int .i64 (fst : Int), .int .i64 (k : Int), .int .i64 (e : Int), gd, list, boxAt w0, u12, u13, u14, u15, u16, u17, u18, u19, u20, u21, u22, u23, u24, u25, u26, u27, u28, u29, u30, u31, u32, u33, u34, u35, u36, u37, u38, u39, u40, u41, u42, u43, u44, u45, u46, u47, u48, u49, u50, u51, u52, u53, u54, u55, u56, u57, u58, u59, u60, u61, u62, u63, u64, u65, u66, u67, u68, u69, u70, u71, u72, u73, u74, u75, u76, u77, u78, u79, u80, u81, u82, u83, u84, u85, u86, u87, u88, u89, u90, u91, u92, u93, u94, u95, u96, u97, u98, u99, u100, u101, u102, u103, u104, u105, u106, u107, u108, u109, u110, u111, u112, u113, u114, u115, u116, u117, u118, u119, u120, u121, u122, u123, u124, u125, u126, u127, u128, u129, u130, u131, u132, u133, u134, u135, u136, u137, u138, u139, u140, u141, u142], defers := [] } w := by
  have HI : Hid (Inv s w0 R k k acc _ x fst list w) := hI
  have HB : Hid (Box w w0.heap.size (.int .i64 0) (.string ⟨#[]⟩) (.int .i64 0) (.complex .f64 (lineW s k) (colW s k))) := hB
  have HM : Hid (m = (s.size - k) * 20000 + (s.size - e) + 5) := hm
  obtain ⟨b0, b1, b2, b3, z0, z1, z2, z3⟩ := id hB
  have hei : (e : Int) + 1 < (s.size : Int) := by omega
  have CG : Hid (∀ w, _) := isDigit_at s[e + 1] true hg
  have HL : Hid (Lx.lower s[k] = false ∧ Lx.digit s[k] = true) := ⟨hl, hd⟩
  have HS : Hid (Lx.span Lx.digit s.data.toList (k + 1) = Lx.span Lx.digit s.data.toList (e + 1 + 1)) := by
    rw [hsp]; exact Lx.span_yes _ _ (e + 1) (by simpa using hn) (by rw [byte_at s (e + 1) hn]; exact hg)
  clear hsp hl hg hd
  clear hI hB hm
  refine ⟨_, rfl, ?_⟩
  go_wp2_with fail
  refine (CG.out _).mono ?_
  rintro e' v1 ⟨rfl, rfl⟩
  go_wp2
  go_step3
  exact land3 (k := k) (e := e + 1) ⟨rfl, rfl, rfl, rfl, rfl, rfl, rfl, rfl, rfl, rfl⟩ HI.out HB.out (by omega) hn ⟨hk, HL.out⟩ HS.out (by rw [HM.out]; omega)

set_option maxRecDepth 10000 in
set_option maxHeartbeats 1000000 in
theorem seg3_last (s : ByteArray) (w0 : World) (R : Lx.Out) (k e : Nat) (acc : List Lx.Tk) (f x fst : Nat) (u1 u2 u3 u4 gd list : Value) (u12 u13 u14 u15 u16 u17 u18 u19 u20 u21 u22 u23 u24 u25 u26 u27 u28 u29 u30 u31 u32 u33 u34 u35 u36 u37 u38 u39 u40 u41 u42 u43 u44 u45 u46 u47 u48 u49 u50 u51 u52 u53 u54 u55 u56 u57 u58 u59 u60 u61 u62 u63 u64 u65 u66 u67 u68 u69 u70 u71 u72 u73 u74 u75 u76 u77 u78 u79 u80 u81 u82 u83 u84 u85 u86 u87 u88 u89 u90 u91 u92 u93 u94 u95 u96 u97 u98 u99 u100 u101 u102 u103 u104 u105 u106 u107 u108 u109 u110 u111 u112 u113 u114 u115 u116 u117 u118 u119 u120 u121 u122 u123 u124 u125 u126 u127 u128 u129 u130 u131 u132 u133 u134 u135 u136 u137 u138 u139 u140 u141 u142 : Value) (w : World) (Q : Exit → Act → World → Prop) (m : Nat)
   (hI : Inv s w0 R k k acc (f + 1) x fst list w) (hB : Box w w0.heap.size (.int .i64 0) (.string ⟨#[]⟩) (.int .i64 0) (.complex .f64 (lineW s k) (colW s k))) (hs : s.size ≤ 6000) (hm : m = (s.size - k) * 20000 + (s.size - e) + 5)
   (hke : k ≤ e) (he : e < s.size) (hk : k < s.size) (hl : Lx.lower s[k] = false) (hd : Lx.digit s[k] = true) (hsp : Lx.span Lx.digit s.data.toList (k + 1) = Lx.span Lx.digit s.data.toList (e + 1)) (hn : ¬ e + 1 < s.size) (hE : Er w0) :
   ∃ r, findLabel splitBody 3 = some r ∧ r.wp Tryz.prog (After s w0 R m Q) { tmps := #[.string s, u1, u2, u3, u4, .complex .f64 (Fp.rung x) one64, .int .i64 (fst : Int), .int .i64 (k : Int), .int .i64 (e : Int), gd, list, boxAt w0, u12, u13, u14, u15, u16, u17, u18, u19, u20, u21, u22, u23, u24, u25, u26, u27, u28, u29, u30, u31, u32, u33, u34, u35, u36, u37, u38, u39, u40, u41, u42, u43, u44, u45, u46, u47, u48, u49, u50, u51, u52, u53, u54, u55, u56, u57, u58, u59, u60, u61, u62, u63, u64, u65, u66, u67, u68, u69, u70, u71, u72, u73, u74, u75, u76, u77, u78, u79, u80, u81, u82, u83, u84, u85, u86, u87, u88, u89, u90, u91, u92, u93, u94, u95, u96, u97, u98, u99, u100, u101, u102, u103, u104, u105, u106, u107, u108, u109, u110, u111, u112, u113, u114, u115, u116, u117, u118, u119, u120, u121, u122, u123, u124, u125, u126, u127, u128, u129, u130, u131, u132, u133, u134, u135, u136, u137, u138, u139, u140, u141, u142], defers := [] } w := by
  have HI : Hid (Inv s w0 R k k acc _ x fst list w) := hI
  have HB : Hid (Box w w0.heap.size (.int .i64 0) (.string ⟨#[]⟩) (.int .i64 0) (.complex .f64 (lineW s k) (colW s k))) := hB
  have HM : Hid (m = (s.size - k) * 20000 + (s.size - e) + 5) := hm
  obtain ⟨b0, b1, b2, b3, z0, z1, z2, z3⟩ := id hB
  have hei : decide ((e : Int) + 1 < (s.size : Int)) = false := decide_eq_false (by omega)
  have hsp2 : Lx.span Lx.digit s.data.toList (k + 1) = e + 1 := by
    have hll : s.data.toList.length = s.size := by simp
    rw [hsp, show e + 1 = s.data.toList.length by omega]; exact Lx.span_end _ _
  obtain ⟨o, ho⟩ : ∃ o, Lx.num (s.extract k (e + 1)).data.toList = o := ⟨_, rfl⟩
  have h1 := one_number hk hl hd hke he hsp2 ho
  have dg := digits_of hk hd hke he hsp2
  have CA : Hid (∀ w, Er w → _) := fun w hw => amount_any (s.extract k (e + 1)) o dg.2.1 dg.2.2.1 (by have := dg.2.2.2; omega) ho w hw
  have HO1 : Hid (o.isSome = true → k < e + 1 ∧ Lx.one (s.data.toList.drop k) = some (2, e + 1 - k, o.getD 0)) := by
    intro h; cases o with
    | none => cases h
    | some v => exact ⟨by omega, h1⟩
  have HO2 : Hid (o.isSome = false → Lx.one (s.data.toList.drop k) = none) := by
    intro h; cases o with
    | none => exact h1
    | some v => cases h
  have HN : Hid (Lx.blank s[k] = false ∧ s[k] ≠ 35) := digit_not s[k] hd
  have HE : Hid (Er w0) := hE
  have hke2 : (k : Int) ≤ (e : Int) + 1 := by omega
  have hes : (e : Int) + 1 ≤ (s.size : Int) := by omega
  have het : ((e : Int) + 1).toNat = e + 1 := by omega
  clear hsp hsp2 hl hd ho h1 dg hE
  generalize hon : o.getD 0 = ov at *
  generalize hob : o.isSome = ob at *
  clear hon hob
  clear hI hB hm
  refine ⟨_, rfl, ?_⟩
  go_wp2_with fail
  refine (CA.out _ (HE.out.kept (HI.out.set 0 _).bel)).mono ?_
  rintro e' v2 ⟨rfl, q⟩
  have HI2 : Hid (Inv _ _ _ _ _ _ _ _ _ _ _) := (HI.out.set 0 _).kept q
  have HB2 : Hid (Box _ _ _ _ _ _) := (HB.out.set0 _).kept q
  obtain ⟨b0', b1', b2', b3', z0', z1', z2', z3'⟩ := id HB2.out
  clear q
  go_wp2
  go_step3
  exact land5 (k := k) (e := e + 1) (kd := 2) (n := ov) (b := ob) ⟨rfl, rfl, rfl, rfl, rfl, rfl, rfl, rfl, rfl, rfl⟩ (HI2.out.set 2 _) (HB2.out.set2 _) ⟨hk, HN.out⟩ (by omega) (by omega) HO1.out HO2.out (by rw [HM.out]; omega)

set_option maxRecDepth 10000 in
set_option maxHeartbeats 1000000 in
theorem seg3_stop (s : ByteArray) (w0 : World) (R : Lx.Out) (k e : Nat) (acc : List Lx.Tk) (f x fst : Nat) (u1 u2 u3 u4 gd list : Value) (u12 u13 u14 u15 u16 u17 u18 u19 u20 u21 u22 u23 u24 u25 u26 u27 u28 u29 u30 u31 u32 u33 u34 u35 u36 u37 u38 u39 u40 u41 u42 u43 u44 u45 u46 u47 u48 u49 u50 u51 u52 u53 u54 u55 u56 u57 u58 u59 u60 u61 u62 u63 u64 u65 u66 u67 u68 u69 u70 u71 u72 u73 u74 u75 u76 u77 u78 u79 u80 u81 u82 u83 u84 u85 u86 u87 u88 u89 u90 u91 u92 u93 u94 u95 u96 u97 u98 u99 u100 u101 u102 u103 u104 u105 u106 u107 u108 u109 u110 u111 u112 u113 u114 u115 u116 u117 u118 u119 u120 u121 u122 u123 u124 u125 u126 u127 u128 u129 u130 u131 u132 u133 u134 u135 u136 u137 u138 u139 u140 u141 u142 : Value) (w : World) (Q : Exit → Act → World → Prop) (m : Nat)
   (hI : Inv s w0 R k k acc (f + 1) x fst list w) (hB : Box w w0.heap.size (.int .i64 0) (.string ⟨#[]⟩) (.int .i64 0) (.complex .f64 (lineW s k) (colW s k))) (hs : s.size ≤ 6000) (hm : m = (s.size - k) * 20000 + (s.size - e) + 5)
   (hke : k ≤ e) (he : e < s.size) (hk : k < s.size) (hl : Lx.lower s[k] = false) (hd : Lx.digit s[k] = true) (hsp : Lx.span Lx.digit s.data.toList (k + 1) = Lx.span Lx.digit s.data.toList (e + 1)) (hn : e + 1 < s.size) (hg : Lx.digit s[e + 1] = false) (hE : Er w0) :
   ∃ r, findLabel splitBody 3 = some r ∧ r.wp Tryz.prog (After s w0 R m Q) { tmps := #[.string s, u1, u2, u3, u4, .complex .f64 (Fp.rung x) one64, .int .i64 (fst : Int), .int .i64 (k : Int), .int .i64 (e : Int), gd, list, boxAt w0, u12, u13, u14, u15, u16, u17, u18, u19, u20, u21, u22, u23, u24, u25, u26, u27, u28, u29, u30, u31, u32, u33, u34, u35, u36, u37, u38, u39, u40, u41, u42, u43, u44, u45, u46, u47, u48, u49, u50, u51, u52, u53, u54, u55, u56, u57, u58, u59, u60, u61, u62, u63, u64, u65, u66, u67, u68, u69, u70, u71, u72, u73, u74, u75, u76, u77, u78, u79, u80, u81, u82, u83, u84, u85, u86, u87, u88, u89, u90, u91, u92, u93, u94, u95, u96, u97, u98, u99, u100, u101, u102, u103, u104, u105, u106, u107, u108, u109, u110, u111, u112, u113, u114, u115, u116, u117, u118, u119, u120, u121, u122, u123, u124, u125, u126, u127, u128, u129, u130, u131, u132, u133, u134, u135, u136, u137, u138, u139, u140, u141, u142], defers := [] } w := by
  have HI : Hid (Inv s w0 R k k acc _ x fst list w) := hI
  have HB : Hid (Box w w0.heap.size (.int .i64 0) (.string ⟨#[]⟩) (.int .i64 0) (.complex .f64 (lineW s k) (colW s k))) := hB
  have HM : Hid (m = (s.size - k) * 20000 + (s.size - e) + 5) := hm
  obtain ⟨b0, b1, b2, b3, z0, z1, z2, z3⟩ := id hB
  have hei : (e : Int) + 1 < (s.size : Int) := by omega
  have CG : Hid (∀ w, _) := isDigit_at s[e + 1] false hg
  have hsp2 : Lx.span Lx.digit s.data.toList (k + 1) = e + 1 := by
    rw [hsp]; exact Lx.span_no _ _ (e + 1) (by simpa using hn) (by rw [byte_at s (e + 1) hn]; exact hg)
  clear hg
  obtain ⟨o, ho⟩ : ∃ o, Lx.num (s.extract k (e + 1)).data.toList = o := ⟨_, rfl⟩
  have h1 := one_number hk hl hd hke he hsp2 ho
  have dg := digits_of hk hd hke he hsp2
  have CA : Hid (∀ w, Er w → _) := fun w hw => amount_any (s.extract k (e + 1)) o dg.2.1 dg.2.2.1 (by have := dg.2.2.2; omega) ho w hw
  have HO1 : Hid (o.isSome = true → k < e + 1 ∧ Lx.one (s.data.toList.drop k) = some (2, e + 1 - k, o.getD 0)) := by
    intro h; cases o with
    | none => cases h
    | some v => exact ⟨by omega, h1⟩
  have HO2 : Hid (o.isSome = false → Lx.one (s.data.toList.drop k) = none) := by
    intro h; cases o with
    | none => exact h1
    | some v => cases h
  have HN : Hid (Lx.blank s[k] = false ∧ s[k] ≠ 35) := digit_not s[k] hd
  have HE : Hid (Er w0) := hE
  have hke2 : (k : Int) ≤ (e : Int) + 1 := by omega
  have hes : (e : Int) + 1 ≤ (s.size : Int) := by omega
  have het : ((e : Int) + 1).toNat = e + 1 := by omega
  clear hsp hsp2 hl hd ho h1 dg hE
  generalize hon : o.getD 0 = ov at *
  generalize hob : o.isSome = ob at *
  clear hon hob
  clear hI hB hm
  refine ⟨_, rfl, ?_⟩
  go_wp2_with fail
  refine (CG.out _).mono ?_
  rintro e' v1 ⟨rfl, rfl⟩
  go_wp2_with fail
  refine (CA.out _ (HE.out.kept (HI.out.set 0 _).bel)).mono ?_
  rintro e' v2 ⟨rfl, q⟩
  have HI2 : Hid (Inv _ _ _ _ _ _ _ _ _ _ _) := (HI.out.set 0 _).kept q
  have HB2 : Hid (Box _ _ _ _ _ _) := (HB.out.set0 _).kept q
  obtain ⟨b0', b1', b2', b3', z0', z1', z2', z3'⟩ := id HB2.out
  clear q
  go_wp2
  go_step3
  exact land5 (k := k) (e := e + 1) (kd := 2) (n := ov) (b := ob) ⟨rfl, rfl, rfl, rfl, rfl, rfl, rfl, rfl, rfl, rfl⟩ (HI2.out.set 2 _) (HB2.out.set2 _) ⟨hk, HN.out⟩ (by omega) (by omega) HO1.out HO2.out (by rw [HM.out]; omega)


end Go.Proofs.YtkobdephobaopaaGreatDoor

namespace Go.Proofs.YtkobdephobaopaaGreatDoor
open Go.RowKit
attribute [local go_sem] run_store_complex

set_option maxRecDepth 10000 in
set_option maxHeartbeats 1000000 in
theorem seg5_bad (s : ByteArray) (w0 : World) (R : Lx.Out) (k e kd n : Nat) (acc : List Lx.Tk) (f x fst : Nat) (u1 u2 u3 u4 list : Value) (u12 u13 u14 u15 u16 u17 u18 u19 u20 u21 u22 u23 u24 u25 u26 u27 u28 u29 u30 u31 u32 u33 u34 u35 u36 u37 u38 u39 u40 u41 u42 u43 u44 u45 u46 u47 u48 u49 u50 u51 u52 u53 u54 u55 u56 u57 u58 u59 u60 u61 u62 u63 u64 u65 u66 u67 u68 u69 u70 u71 u72 u73 u74 u75 u76 u77 u78 u79 u80 u81 u82 u83 u84 u85 u86 u87 u88 u89 u90 u91 u92 u93 u94 u95 u96 u97 u98 u99 u100 u101 u102 u103 u104 u105 u106 u107 u108 u109 u110 u111 u112 u113 u114 u115 u116 u117 u118 u119 u120 u121 u122 u123 u124 u125 u126 u127 u128 u129 u130 u131 u132 u133 u134 u135 u136 u137 u138 u139 u140 u141 u142 : Value) (w : World) (Q : Exit → Act → World → Prop) (m : Nat)
   (hI : Inv s w0 R k k acc (f + 1) x fst list w) (hB : Box w w0.heap.size (.int .i64 (kd : Int)) (.string ⟨#[]⟩) (.int .i64 (n : Int)) (.complex .f64 (lineW s k) (colW s k))) (hk : k < s.size) (h1 : Lx.blank s[k] = false) (h2 : s[k] ≠ 35) (ho : Lx.one (s.data.toList.drop k) = none) (hQ : ∀ a w, Ret s w0 R a w → Q .ret a w) :
   ∃ r, findLabel splitBody 5 = some r ∧ r.wp Tryz.prog (After s w0 R m Q) { tmps := #[.string s, u1, u2, u3, u4, .complex .f64 (Fp.rung x) one64, .int .i64 (fst : Int), .int .i64 (k : Int), .int .i64 (e : Int), .bool false, list, boxAt w0, u12, u13, u14, u15, u16, u17, u18, u19, u20, u21, u22, u23, u24, u25, u26, u27, u28, u29, u30, u31, u32, u33, u34, u35, u36, u37, u38, u39, u40, u41, u42, u43, u44, u45, u46, u47, u48, u49, u50, u51, u52, u53, u54, u55, u56, u57, u58, u59, u60, u61, u62, u63, u64, u65, u66, u67, u68, u69, u70, u71, u72, u73, u74, u75, u76, u77, u78, u79, u80, u81, u82, u83, u84, u85, u86, u87, u88, u89, u90, u91, u92, u93, u94, u95, u96, u97, u98, u99, u100, u101, u102, u103, u104, u105, u106, u107, u108, u109, u110, u111, u112, u113, u114, u115, u116, u117, u118, u119, u120, u121, u122, u123, u124, u125, u126, u127, u128, u129, u130, u131, u132, u133, u134, u135, u136, u137, u138, u139, u140, u141, u142], defers := [] } w := by
  have HI : Hid (Inv s w0 R k k acc _ x fst list w) := hI
  have HB : Hid (Box w w0.heap.size (.int .i64 (kd : Int)) (.string ⟨#[]⟩) (.int .i64 (n : Int)) (.complex .f64 (lineW s k) (colW s k))) := hB
  obtain ⟨b0, b1, b2, b3, z0, z1, z2, z3⟩ := id hB
  obtain ⟨px, hpx⟩ : ∃ px, lineW s k = px := ⟨_, rfl⟩
  obtain ⟨py, hpy⟩ : ∃ py, colW s k = py := ⟨_, rfl⟩
  rw [hpx, hpy] at b3
  have HX : Hid (lineW s k = px) := hpx
  have HY : Hid (colW s k = py) := hpy
  clear hpx hpy
  have HR : Hid (R = .bad k) := told_bad hI hk h1 h2 ho
  have HQ : Hid (∀ a w, Ret s w0 R a w → Q .ret a w) := hQ
  clear h1 h2 ho hQ
  clear hI hB
  refine ⟨_, rfl, ?_⟩
  go_wp2
  go_quiet (fail)
  go_wp2
  exact HQ.out _ _ ⟨rfl, rfl, by
    rw [HR.out]
    exact ⟨rfl, by rw [HX.out, HY.out]; rfl, rfl, HI.out.bel.trans ⟨rfl, rfl, rfl, Nat.le_refl _, fun _ _ => rfl⟩⟩⟩

set_option maxRecDepth 10000 in
set_option maxHeartbeats 1000000 in
theorem seg5_good (s : ByteArray) (w0 : World) (R : Lx.Out) (k e kd n : Nat) (acc : List Lx.Tk) (f x fst : Nat) (u1 u2 u3 u4 list : Value) (u12 u13 u14 u15 u16 u17 u18 u19 u20 u21 u22 u23 u24 u25 u26 u27 u28 u29 u30 u31 u32 u33 u34 u35 u36 u37 u38 u39 u40 u41 u42 u43 u44 u45 u46 u47 u48 u49 u50 u51 u52 u53 u54 u55 u56 u57 u58 u59 u60 u61 u62 u63 u64 u65 u66 u67 u68 u69 u70 u71 u72 u73 u74 u75 u76 u77 u78 u79 u80 u81 u82 u83 u84 u85 u86 u87 u88 u89 u90 u91 u92 u93 u94 u95 u96 u97 u98 u99 u100 u101 u102 u103 u104 u105 u106 u107 u108 u109 u110 u111 u112 u113 u114 u115 u116 u117 u118 u119 u120 u121 u122 u123 u124 u125 u126 u127 u128 u129 u130 u131 u132 u133 u134 u135 u136 u137 u138 u139 u140 u141 u142 : Value) (w : World) (Q : Exit → Act → World → Prop) (m : Nat)
   (hI : Inv s w0 R k k acc (f + 1) x fst list w) (hB : Box w w0.heap.size (.int .i64 (kd : Int)) (.string ⟨#[]⟩) (.int .i64 (n : Int)) (.complex .f64 (lineW s k) (colW s k))) (hs : s.size ≤ 6000) (hm : m = (s.size - k) * 20000 + 3) (hk : k < s.size) (h1 : Lx.blank s[k] = false) (h2 : s[k] ≠ 35) (hke : k < e) (he : e ≤ s.size) (ho : Lx.one (s.data.toList.drop k) = some (kd, e - k, n)) :
   ∃ r, findLabel splitBody 5 = some r ∧ r.wp Tryz.prog (After s w0 R m Q) { tmps := #[.string s, u1, u2, u3, u4, .complex .f64 (Fp.rung x) one64, .int .i64 (fst : Int), .int .i64 (k : Int), .int .i64 (e : Int), .bool true, list, boxAt w0, u12, u13, u14, u15, u16, u17, u18, u19, u20, u21, u22, u23, u24, u25, u26, u27, u28, u29, u30, u31, u32, u33, u34, u35, u36, u37, u38, u39, u40, u41, u42, u43, u44, u45, u46, u47, u48, u49, u50, u51, u52, u53, u54, u55, u56, u57, u58, u59, u60, u61, u62, u63, u64, u65, u66, u67, u68, u69, u70, u71, u72, u73, u74, u75, u76, u77, u78, u79, u80, u81, u82, u83, u84, u85, u86, u87, u88, u89, u90, u91, u92, u93, u94, u95, u96, u97, u98, u99, u100, u101, u102, u103, u104, u105, u106, u107, u108, u109, u110, u111, u112, u113, u114, u115, u116, u117, u118, u119, u120, u121, u122, u123, u124, u125, u126, u127, u128, u129, u130, u131, u132, u133, u134, u135, u136, u137, u138, u139, u140, u141, u142], defers := [] } w := by
  have HI : Hid (Inv s w0 R k k acc _ x fst list w) := hI
  have HB : Hid (Box w w0.heap.size (.int .i64 (kd : Int)) (.string ⟨#[]⟩) (.int .i64 (n : Int)) (.complex .f64 (lineW s k) (colW s k))) := hB
  obtain ⟨b0, b1, b2, b3, z0, z1, z2, z3⟩ := id hB
  obtain ⟨px, hpx⟩ : ∃ px, lineW s k = px := ⟨_, rfl⟩
  obtain ⟨py, hpy⟩ : ∃ py, colW s k = py := ⟨_, rfl⟩
  rw [hpx, hpy] at b3
  have HX : Hid (lineW s k = px) := hpx
  have HY : Hid (colW s k = py) := hpy
  clear hpx hpy
  obtain ⟨i0, hi, hz0, hz1, hz2⟩ := tok_info
  have Hi : Hid (_ = _) := hi
  have Hz0 : Hid (_ = _) := hz0
  have Hz1 : Hid (_ = _) := hz1
  have Hz2 : Hid (_ = _) := hz2
  clear hi hz0 hz1 hz2
  have HM : Hid (m = (s.size - k) * 20000 + 3) := hm
  have HO1 : Hid (Lx.blank s[k] = false) := h1
  have HO2 : Hid (s[k] ≠ 35) := h2
  have HO3 : Hid (Lx.one (s.data.toList.drop k) = some (kd, e - k, n)) := ho
  have hcb : acc.length ≤ 6000 := by have := hI.acl; omega
  have hBl := hB.lt
  have hke2 : (k : Int) ≤ (e : Int) := by omega
  have hes : (e : Int) ≤ (s.size : Int) := by omega
  clear h1 h2 ho hm
  clear hI hB
  refine ⟨_, rfl, ?_⟩
  go_wp2_with (at_builtin; refine wpList_append_lies _ (by rfl) _ _ _ (by rfl) (w0.heap.size + 1) 68 i0 _ 4 48 Tryz.underlying60 Hi.out Hz0.out Hz1.out Hz2.out rfl (by decide) list acc.length (cellsOf s acc) (by rfl) ?c0 ⟨_, 0, none⟩ 1 1 [.int .i64 (kd : Int), .string (s.extract k e), .int .i64 (n : Int), .complex .f64 px py] (by rfl) rfl ?c1 ?c2 (by omega) ?c3 (by omega) ?c5 _ rfl ?_)
  case c0 => exact (HI.out.set 1 _).own.alloc _
  case c1 => exact news_of _ _ (by simp) _ _ _ _ _
  case c2 => intro u hu; simp at hu; rcases hu with rfl | rfl | rfl | rfl <;> rfl
  case c3 => unfold maxLen; omega
  case c5 => simp; omega
  intro g cap w1 hown hgrow hat hlt
  have hb := behind_append (HI.out.set 1 _) (by simpa using hBl) hgrow
  have HO : Hid (World.ownsRow _ _ _ _ _ _ _) := hown
  have HBl : Hid (Below _ _ _) := hb.1
  have HBx : Hid (Box w1 w0.heap.size _ _ _ _) := (HB.out.set1 _).block hb.2
  clear hown hgrow hat hlt hb
  go_wp2
  go_step3
  exact land0 (k := e) ⟨rfl, rfl, rfl, rfl, rfl, rfl, rfl, rfl, rfl, rfl⟩ (HI.out.taken hk HO1.out HO2.out hke he HO3.out (by rw [HX.out, HY.out]; exact HO.out) HBl.out) HBx.out (by rw [HM.out]; omega)


end Go.Proofs.YtkobdephobaopaaGreatDoor

namespace Go.Proofs.YtkobdephobaopaaGreatDoor
open Go.RowKit
attribute [local go_sem] run_store_complex

set_option maxRecDepth 10000 in
set_option maxHeartbeats 1000000 in
theorem seg4_bad (s : ByteArray) (w0 : World) (R : Lx.Out) (k : Nat) (acc : List Lx.Tk) (f x fst : Nat) (u1 u2 u3 u4 gd list : Value) (u12 u13 u14 u15 u16 u17 u18 u19 u20 u21 u22 u23 u24 u25 u26 u27 u28 u29 u30 u31 u32 u33 u34 u35 u36 u37 u38 u39 u40 u41 u42 u43 u44 u45 u46 u47 u48 u49 u50 u51 u52 u53 u54 u55 u56 u57 u58 u59 u60 u61 u62 u63 u64 u65 u66 u67 u68 u69 u70 u71 u72 u73 u74 u75 u76 u77 u78 u79 u80 u81 u82 u83 u84 u85 u86 u87 u88 u89 u90 u91 u92 u93 u94 u95 u96 u97 u98 u99 u100 u101 u102 u103 u104 u105 u106 u107 u108 u109 u110 u111 u112 u113 u114 u115 u116 u117 u118 u119 u120 u121 u122 u123 u124 u125 u126 u127 u128 u129 u130 u131 u132 u133 u134 u135 u136 u137 u138 u139 u140 u141 u142 : Value) (w : World) (Q : Exit → Act → World → Prop) (m : Nat)
   (hI : Inv s w0 R k k acc (f + 1) x fst list w) (hB : Box w w0.heap.size (.int .i64 0) (.string ⟨#[]⟩) (.int .i64 0) (.complex .f64 (lineW s k) (colW s k))) (hs : s.size ≤ 6000)
   (hk : k < s.size) (h1 : Lx.blank s[k] = false) (h2 : s[k] ≠ 35) (hn : signLen (s.data.toList.drop k) = 0) (ho : Lx.one (s.data.toList.drop k) = none) (hQ : ∀ a w, Ret s w0 R a w → Q .ret a w) :
   ∃ r, findLabel splitBody 4 = some r ∧ r.wp Tryz.prog (After s w0 R m Q) { tmps := #[.string s, u1, u2, u3, u4, .complex .f64 (Fp.rung x) one64, .int .i64 (fst : Int), .int .i64 (k : Int), .int .i64 (k : Int), gd, list, boxAt w0, u12, u13, u14, u15, u16, u17, u18, u19, u20, u21, u22, u23, u24, u25, u26, u27, u28, u29, u30, u31, u32, u33, u34, u35, u36, u37, u38, u39, u40, u41, u42, u43, u44, u45, u46, u47, u48, u49, u50, u51, u52, u53, u54, u55, u56, u57, u58, u59, u60, u61, u62, u63, u64, u65, u66, u67, u68, u69, u70, u71, u72, u73, u74, u75, u76, u77, u78, u79, u80, u81, u82, u83, u84, u85, u86, u87, u88, u89, u90, u91, u92, u93, u94, u95, u96, u97, u98, u99, u100, u101, u102, u103, u104, u105, u106, u107, u108, u109, u110, u111, u112, u113, u114, u115, u116, u117, u118, u119, u120, u121, u122, u123, u124, u125, u126, u127, u128, u129, u130, u131, u132, u133, u134, u135, u136, u137, u138, u139, u140, u141, u142], defers := [] } w := by
  have HI : Hid (Inv s w0 R k k acc _ x fst list w) := hI
  have HB : Hid (Box w w0.heap.size (.int .i64 0) (.string ⟨#[]⟩) (.int .i64 0) (.complex .f64 (lineW s k) (colW s k))) := hB
  obtain ⟨b0, b1, b2, b3, z0, z1, z2, z3⟩ := id hB
  have hki : (k : Int) ≤ (s.size : Int) := by omega
  have hsz : (s.extract k s.size).size = s.size - k := by rw [ByteArray.size_extract]; omega
  have hls : (s.extract k s.size).data.toList = s.data.toList.drop k := by
    have hll : s.data.toList.length = s.size := by simp
    rw [text_of s k s.size (by omega) (Nat.le_refl _)]
    show (s.data.toList.drop k).take (s.size - k) = _
    rw [List.take_of_length_le (by rw [List.length_drop]; omega)]
  obtain ⟨px, hpx⟩ : ∃ px, lineW s k = px := ⟨_, rfl⟩
  obtain ⟨py, hpy⟩ : ∃ py, colW s k = py := ⟨_, rfl⟩
  rw [hpx, hpy] at b3
  have HX : Hid (lineW s k = px) := hpx
  have HY : Hid (colW s k = py) := hpy
  clear hpx hpy
  have CS : Hid (∀ w, _) := fun w => signLength_any (s.extract k s.size) 0 w (by omega) (by omega) (by rw [hls]; exact hn)
  have HR : Hid (R = .bad k) := told_bad hI hk h1 h2 ho
  have HQ : Hid (∀ a w, Ret s w0 R a w → Q .ret a w) := hQ
  clear h1 h2 ho hQ hn
  clear hI hB hsz hls
  refine ⟨_, rfl, ?_⟩
  go_wp2_with fail
  refine (CS.out _).mono ?_
  rintro e' v2 ⟨rfl, rfl⟩
  go_wp2
  go_step3
  go_wp2
  go_quiet (fail)
  go_wp2
  exact HQ.out _ _ ⟨rfl, rfl, by
    rw [HR.out]
    exact ⟨rfl, by rw [HX.out, HY.out]; rfl, rfl, (HI.out.set 0 _).bel.trans ⟨rfl, rfl, rfl, Nat.le_refl _, fun _ _ => rfl⟩⟩⟩

set_option maxRecDepth 10000 in
set_option maxHeartbeats 1000000 in
theorem seg4_good (s : ByteArray) (w0 : World) (R : Lx.Out) (k len : Nat) (acc : List Lx.Tk) (f x fst : Nat) (u1 u2 u3 u4 gd list : Value) (u12 u13 u14 u15 u16 u17 u18 u19 u20 u21 u22 u23 u24 u25 u26 u27 u28 u29 u30 u31 u32 u33 u34 u35 u36 u37 u38 u39 u40 u41 u42 u43 u44 u45 u46 u47 u48 u49 u50 u51 u52 u53 u54 u55 u56 u57 u58 u59 u60 u61 u62 u63 u64 u65 u66 u67 u68 u69 u70 u71 u72 u73 u74 u75 u76 u77 u78 u79 u80 u81 u82 u83 u84 u85 u86 u87 u88 u89 u90 u91 u92 u93 u94 u95 u96 u97 u98 u99 u100 u101 u102 u103 u104 u105 u106 u107 u108 u109 u110 u111 u112 u113 u114 u115 u116 u117 u118 u119 u120 u121 u122 u123 u124 u125 u126 u127 u128 u129 u130 u131 u132 u133 u134 u135 u136 u137 u138 u139 u140 u141 u142 : Value) (w : World) (Q : Exit → Act → World → Prop) (m : Nat)
   (hI : Inv s w0 R k k acc (f + 1) x fst list w) (hB : Box w w0.heap.size (.int .i64 0) (.string ⟨#[]⟩) (.int .i64 0) (.complex .f64 (lineW s k) (colW s k))) (hs : s.size ≤ 6000)
   (hk : k < s.size) (h1 : Lx.blank s[k] = false) (h2 : s[k] ≠ 35) (hm : m = (s.size - k) * 20000 + 4) (hn : signLen (s.data.toList.drop k) = len) (hlen : 0 < len) (hle : k + len ≤ s.size) (ho : Lx.one (s.data.toList.drop k) = some (3, k + len - k, 0)) :
   ∃ r, findLabel splitBody 4 = some r ∧ r.wp Tryz.prog (After s w0 R m Q) { tmps := #[.string s, u1, u2, u3, u4, .complex .f64 (Fp.rung x) one64, .int .i64 (fst : Int), .int .i64 (k : Int), .int .i64 (k : Int), gd, list, boxAt w0, u12, u13, u14, u15, u16, u17, u18, u19, u20, u21, u22, u23, u24, u25, u26, u27, u28, u29, u30, u31, u32, u33, u34, u35, u36, u37, u38, u39, u40, u41, u42, u43, u44, u45, u46, u47, u48, u49, u50, u51, u52, u53, u54, u55, u56, u57, u58, u59, u60, u61, u62, u63, u64, u65, u66, u67, u68, u69, u70, u71, u72, u73, u74, u75, u76, u77, u78, u79, u80, u81, u82, u83, u84, u85, u86, u87, u88, u89, u90, u91, u92, u93, u94, u95, u96, u97, u98, u99, u100, u101, u102, u103, u104, u105, u106, u107, u108, u109, u110, u111, u112, u113, u114, u115, u116, u117, u118, u119, u120, u121, u122, u123, u124, u125, u126, u127, u128, u129, u130, u131, u132, u133, u134, u135, u136, u137, u138, u139, u140, u141, u142], defers := [] } w := by
  have HI : Hid (Inv s w0 R k k acc _ x fst list w) := hI
  have HB : Hid (Box w w0.heap.size (.int .i64 0) (.string ⟨#[]⟩) (.int .i64 0) (.complex .f64 (lineW s k) (colW s k))) := hB
  obtain ⟨b0, b1, b2, b3, z0, z1, z2, z3⟩ := id hB
  have hki : (k : Int) ≤ (s.size : Int) := by omega
  have hsz : (s.extract k s.size).size = s.size - k := by rw [ByteArray.size_extract]; omega
  have hls : (s.extract k s.size).data.toList = s.data.toList.drop k := by
    have hll : s.data.toList.length = s.size := by simp
    rw [text_of s k s.size (by omega) (Nat.le_refl _)]
    show (s.data.toList.drop k).take (s.size - k) = _
    rw [List.take_of_length_le (by rw [List.length_drop]; omega)]
  obtain ⟨px, hpx⟩ : ∃ px, lineW s k = px := ⟨_, rfl⟩
  obtain ⟨py, hpy⟩ : ∃ py, colW s k = py := ⟨_, rfl⟩
  rw [hpx, hpy] at b3
  have HX : Hid (lineW s k = px) := hpx
  have HY : Hid (colW s k = py) := hpy
  clear hpx hpy
  obtain ⟨i0, hi, hz0, hz1, hz2⟩ := tok_info
  have Hi : Hid (_ = _) := hi
  have Hz0 : Hid (_ = _) := hz0
  have Hz1 : Hid (_ = _) := hz1
  have Hz2 : Hid (_ = _) := hz2
  clear hi hz0 hz1 hz2
  have CS : Hid (∀ w, _) := fun w => signLength_any (s.extract k s.size) len w (by omega) (by omega) (by rw [hls]; exact hn)
  have HM : Hid (m = (s.size - k) * 20000 + 4) := hm
  have HO1 : Hid (Lx.blank s[k] = false) := h1
  have HO2 : Hid (s[k] ≠ 35) := h2
  have HO3 : Hid (Lx.one (s.data.toList.drop k) = some (3, k + len - k, 0)) := ho
  have hcb : acc.length ≤ 6000 := by have := hI.acl; omega
  have hBl := hB.lt
  have hgt : decide ((k : Int) < (k : Int) + (len : Int)) = true := decide_eq_true (by omega)
  have hke2 : (k : Int) ≤ (k : Int) + (len : Int) := by omega
  have hes : (k : Int) + (len : Int) ≤ (s.size : Int) := by omega
  have het : ((k : Int) + (len : Int)).toNat = k + len := by omega
  clear h1 h2 ho hm hn
  clear hI hB hsz hls
  refine ⟨_, rfl, ?_⟩
  go_wp2_with fail
  refine (CS.out _).mono ?_
  rintro e' v2 ⟨rfl, rfl⟩
  go_wp2
  go_step3
  go_wp2_with (at_builtin; refine wpList_append_lies _ (by rfl) _ _ _ (by rfl) (w0.heap.size + 1) 68 i0 _ 4 48 Tryz.underlying60 Hi.out Hz0.out Hz1.out Hz2.out rfl (by decide) list acc.length (cellsOf s acc) (by rfl) ?c0 ⟨_, 0, none⟩ 1 1 [.int .i64 3, .string (s.extract k (k + len)), .int .i64 0, .complex .f64 px py] (by rfl) rfl ?c1 ?c2 (by omega) ?c3 (by omega) ?c5 _ rfl ?_)
  case c0 => exact ((HI.out.set 0 _).set 1 _).own.alloc _
  case c1 => exact news_of _ _ (by simp) _ _ _ _ _
  case c2 => intro u hu; simp at hu; rcases hu with rfl | rfl | rfl | rfl <;> rfl
  case c3 => unfold maxLen; omega
  case c5 => simp; omega
  intro g cap w1 hown hgrow hat hlt
  have hb := behind_append ((HI.out.set 0 _).set 1 _) (by simpa using hBl) hgrow
  have HO : Hid (World.ownsRow _ _ _ _ _ _ _) := hown
  have HBl : Hid (Below _ _ _) := hb.1
  have HBx : Hid (Box w1 w0.heap.size _ _ _ _) := ((HB.out.set0 _).set1 _).block hb.2
  clear hown hgrow hat hlt hb
  go_wp2
  go_step3
  exact land0 (k := k + len) ⟨rfl, rfl, rfl, rfl, rfl, rfl, rfl, rfl, rfl, rfl⟩ (HI.out.taken (kd := 3) (n := 0) hk HO1.out HO2.out (by omega) hle HO3.out (by rw [HX.out, HY.out]; exact HO.out) HBl.out) HBx.out (by rw [HM.out]; omega)


end Go.Proofs.YtkobdephobaopaaGreatDoor
