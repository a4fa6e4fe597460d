/- lex.split from its label 'note' on. -/
import Derived.Test.YtbjdnniklcmcbaaDoorTf
import Derived.Test.YtbjdnniklcmcbaaDoorLxLaws
import Derived.Deep.QuietTactic
import Derived.BigQuiet
namespace Go.Proofs.YtbjdnniklcmcbaaDoor
open Go.RowKit
attribute [local go_sem] run_store_complex

set_option maxRecDepth 10000 in
set_option maxHeartbeats 1000000 in
theorem seg1_end (s : ByteArray) (w0 : World) (R : Lx.Out) (k : Nat) (acc : List Lx.Tk) (f x fst : Nat) (u1 u2 u3 u4 en gd list c0 c1 c2 c3 : Value) (u12 u13 u14 u15 u16 u17 u18 u19 u20 u21 u22 u23 u24 u25 u26 u27 u28 u29 u30 u31 u32 u33 u34 u35 u36 u37 u38 u39 u40 u41 u42 u43 u44 u45 u46 u47 u48 u49 u50 u51 u52 u53 u54 u55 u56 u57 u58 u59 u60 u61 u62 u63 u64 u65 u66 u67 u68 u69 u70 u71 u72 u73 u74 u75 u76 u77 u78 u79 u80 u81 u82 u83 u84 u85 u86 u87 u88 u89 u90 u91 u92 u93 u94 u95 u96 u97 u98 u99 u100 u101 u102 u103 u104 u105 u106 u107 u108 u109 u110 u111 u112 u113 u114 u115 u116 u117 u118 u119 u120 u121 u122 u123 u124 u125 u126 u127 u128 u129 u130 u131 u132 u133 u134 u135 u136 u137 u138 u139 u140 u141 u142 : Value) (w : World) (Q : Exit → Act → World → Prop) (m : Nat)
   (hI : Inv s w0 R k (Lx.span Lx.noFeed s.data.toList k) acc f x fst list w) (hB : Box w w0.heap.size c0 c1 c2 c3) (_hs : s.size ≤ 6000) (hm : m = (s.size - k) * 20000 + (if stopAt s k then 16000 else 14000)) (hk : k = s.size) :
   ∃ r, findLabel splitBody 1 = some r ∧ r.wp Tryd.prog (After s w0 R m Q) { tmps := #[.string s, u1, u2, u3, u4, .complex .f64 (Fp.rung x) one64, .int .i64 (fst : Int), .int .i64 (k : Int), en, gd, list, boxAt w0, u12, u13, u14, u15, u16, u17, u18, u19, u20, u21, u22, u23, u24, u25, u26, u27, u28, u29, u30, u31, u32, u33, u34, u35, u36, u37, u38, u39, u40, u41, u42, u43, u44, u45, u46, u47, u48, u49, u50, u51, u52, u53, u54, u55, u56, u57, u58, u59, u60, u61, u62, u63, u64, u65, u66, u67, u68, u69, u70, u71, u72, u73, u74, u75, u76, u77, u78, u79, u80, u81, u82, u83, u84, u85, u86, u87, u88, u89, u90, u91, u92, u93, u94, u95, u96, u97, u98, u99, u100, u101, u102, u103, u104, u105, u106, u107, u108, u109, u110, u111, u112, u113, u114, u115, u116, u117, u118, u119, u120, u121, u122, u123, u124, u125, u126, u127, u128, u129, u130, u131, u132, u133, u134, u135, u136, u137, u138, u139, u140, u141, u142], defers := [] } w := by
  have HI : Hid (Inv s w0 R k _ acc _ x fst list w) := hI
  have HB : Hid (Box w w0.heap.size c0 c1 c2 c3) := hB
  have HM : Hid (m = (s.size - k) * 20000 + (if stopAt s k then 16000 else 14000)) := hm
  have hkb : ((k : Int) == (s.size : Int)) = true := by rw [hk]; simp
  have HN : Hid (Inv s w0 R k k acc _ x fst list w) := hI.noteEnd (.inl hk)
  have HS : Hid (stopAt s k = true) := stop_end hk
  clear hk
  clear hI hB hm
  refine ⟨_, rfl, ?_⟩
  go_wp2
  go_step3
  exact land0 (k := k) ⟨rfl, rfl, rfl, rfl, rfl, rfl, rfl, rfl, rfl, rfl⟩ HN.out HB.out (by rw [HM.out, HS.out]; simp only [if_true]; omega)

set_option maxRecDepth 10000 in
set_option maxHeartbeats 1000000 in
theorem seg1_feed (s : ByteArray) (w0 : World) (R : Lx.Out) (k : Nat) (acc : List Lx.Tk) (f x fst : Nat) (u1 u2 u3 u4 en gd list c0 c1 c2 c3 : Value) (u12 u13 u14 u15 u16 u17 u18 u19 u20 u21 u22 u23 u24 u25 u26 u27 u28 u29 u30 u31 u32 u33 u34 u35 u36 u37 u38 u39 u40 u41 u42 u43 u44 u45 u46 u47 u48 u49 u50 u51 u52 u53 u54 u55 u56 u57 u58 u59 u60 u61 u62 u63 u64 u65 u66 u67 u68 u69 u70 u71 u72 u73 u74 u75 u76 u77 u78 u79 u80 u81 u82 u83 u84 u85 u86 u87 u88 u89 u90 u91 u92 u93 u94 u95 u96 u97 u98 u99 u100 u101 u102 u103 u104 u105 u106 u107 u108 u109 u110 u111 u112 u113 u114 u115 u116 u117 u118 u119 u120 u121 u122 u123 u124 u125 u126 u127 u128 u129 u130 u131 u132 u133 u134 u135 u136 u137 u138 u139 u140 u141 u142 : Value) (w : World) (Q : Exit → Act → World → Prop) (m : Nat)
   (hI : Inv s w0 R k (Lx.span Lx.noFeed s.data.toList k) acc f x fst list w) (hB : Box w w0.heap.size c0 c1 c2 c3) (_hs : s.size ≤ 6000) (hm : m = (s.size - k) * 20000 + (if stopAt s k then 16000 else 14000)) (hk : k < s.size) (hc : s[k] = 10) :
   ∃ r, findLabel splitBody 1 = some r ∧ r.wp Tryd.prog (After s w0 R m Q) { tmps := #[.string s, u1, u2, u3, u4, .complex .f64 (Fp.rung x) one64, .int .i64 (fst : Int), .int .i64 (k : Int), en, gd, list, boxAt w0, u12, u13, u14, u15, u16, u17, u18, u19, u20, u21, u22, u23, u24, u25, u26, u27, u28, u29, u30, u31, u32, u33, u34, u35, u36, u37, u38, u39, u40, u41, u42, u43, u44, u45, u46, u47, u48, u49, u50, u51, u52, u53, u54, u55, u56, u57, u58, u59, u60, u61, u62, u63, u64, u65, u66, u67, u68, u69, u70, u71, u72, u73, u74, u75, u76, u77, u78, u79, u80, u81, u82, u83, u84, u85, u86, u87, u88, u89, u90, u91, u92, u93, u94, u95, u96, u97, u98, u99, u100, u101, u102, u103, u104, u105, u106, u107, u108, u109, u110, u111, u112, u113, u114, u115, u116, u117, u118, u119, u120, u121, u122, u123, u124, u125, u126, u127, u128, u129, u130, u131, u132, u133, u134, u135, u136, u137, u138, u139, u140, u141, u142], defers := [] } w := by
  have HI : Hid (Inv s w0 R k _ acc _ x fst list w) := hI
  have HB : Hid (Box w w0.heap.size c0 c1 c2 c3) := hB
  have HM : Hid (m = (s.size - k) * 20000 + (if stopAt s k then 16000 else 14000)) := hm
  have hkb : ((k : Int) == (s.size : Int)) = false := by rw [beq_eq_false_iff_ne]; omega
  have hki : (k : Int) < (s.size : Int) := by omega
  have e10 : ((s[k].toNat : Int) == 10) = true := by rw [hc]; rfl
  have HN : Hid (Inv s w0 R k k acc _ x fst list w) := hI.noteEnd (.inr ⟨hk, hc⟩)
  have HS : Hid (stopAt s k = true) := stop_yes hk hc
  clear hc
  clear hI hB hm
  refine ⟨_, rfl, ?_⟩
  go_wp2
  go_step3
  exact land0 (k := k) ⟨rfl, rfl, rfl, rfl, rfl, rfl, rfl, rfl, rfl, rfl⟩ HN.out HB.out (by rw [HM.out, HS.out]; simp only [if_true]; omega)

set_option maxRecDepth 10000 in
set_option maxHeartbeats 1000000 in
theorem seg1_on (s : ByteArray) (w0 : World) (R : Lx.Out) (k : Nat) (acc : List Lx.Tk) (f x fst : Nat) (u1 u2 u3 u4 en gd list c0 c1 c2 c3 : Value) (u12 u13 u14 u15 u16 u17 u18 u19 u20 u21 u22 u23 u24 u25 u26 u27 u28 u29 u30 u31 u32 u33 u34 u35 u36 u37 u38 u39 u40 u41 u42 u43 u44 u45 u46 u47 u48 u49 u50 u51 u52 u53 u54 u55 u56 u57 u58 u59 u60 u61 u62 u63 u64 u65 u66 u67 u68 u69 u70 u71 u72 u73 u74 u75 u76 u77 u78 u79 u80 u81 u82 u83 u84 u85 u86 u87 u88 u89 u90 u91 u92 u93 u94 u95 u96 u97 u98 u99 u100 u101 u102 u103 u104 u105 u106 u107 u108 u109 u110 u111 u112 u113 u114 u115 u116 u117 u118 u119 u120 u121 u122 u123 u124 u125 u126 u127 u128 u129 u130 u131 u132 u133 u134 u135 u136 u137 u138 u139 u140 u141 u142 : Value) (w : World) (Q : Exit → Act → World → Prop) (m : Nat)
   (hI : Inv s w0 R k (Lx.span Lx.noFeed s.data.toList k) acc f x fst list w) (hB : Box w w0.heap.size c0 c1 c2 c3) (hs : s.size ≤ 6000) (hm : m = (s.size - k) * 20000 + (if stopAt s k then 16000 else 14000)) (hk : k < s.size) (hc : s[k] ≠ 10) :
   ∃ r, findLabel splitBody 1 = some r ∧ r.wp Tryd.prog (After s w0 R m Q) { tmps := #[.string s, u1, u2, u3, u4, .complex .f64 (Fp.rung x) one64, .int .i64 (fst : Int), .int .i64 (k : Int), en, gd, list, boxAt w0, u12, u13, u14, u15, u16, u17, u18, u19, u20, u21, u22, u23, u24, u25, u26, u27, u28, u29, u30, u31, u32, u33, u34, u35, u36, u37, u38, u39, u40, u41, u42, u43, u44, u45, u46, u47, u48, u49, u50, u51, u52, u53, u54, u55, u56, u57, u58, u59, u60, u61, u62, u63, u64, u65, u66, u67, u68, u69, u70, u71, u72, u73, u74, u75, u76, u77, u78, u79, u80, u81, u82, u83, u84, u85, u86, u87, u88, u89, u90, u91, u92, u93, u94, u95, u96, u97, u98, u99, u100, u101, u102, u103, u104, u105, u106, u107, u108, u109, u110, u111, u112, u113, u114, u115, u116, u117, u118, u119, u120, u121, u122, u123, u124, u125, u126, u127, u128, u129, u130, u131, u132, u133, u134, u135, u136, u137, u138, u139, u140, u141, u142], defers := [] } w := by
  have HI : Hid (Inv s w0 R k _ acc _ x fst list w) := hI
  have HB : Hid (Box w w0.heap.size c0 c1 c2 c3) := hB
  have HM : Hid (m = (s.size - k) * 20000 + (if stopAt s k then 16000 else 14000)) := hm
  have hkb : ((k : Int) == (s.size : Int)) = false := by rw [beq_eq_false_iff_ne]; omega
  have hki : (k : Int) < (s.size : Int) := by omega
  have e10 : ((s[k].toNat : Int) == 10) = false := ne_byte (n := 10) (by decide) hc
  have HN : Hid (Inv s w0 R (k + 1) _ acc _ x fst list w) := hI.noteOn hk hc
  have HS : Hid (stopAt s k = false) := stop_no hk hc
  clear hc
  clear hI hB hm
  refine ⟨_, rfl, ?_⟩
  go_wp2
  go_step3
  exact land1 (k := k + 1) ⟨rfl, rfl, rfl, rfl, rfl, rfl, rfl, rfl, rfl, rfl⟩ HN.out HB.out (by rw [HM.out, HS.out]; simp only [Bool.false_eq_true, if_false]; split <;> omega)


end Go.Proofs.YtbjdnniklcmcbaaDoor
