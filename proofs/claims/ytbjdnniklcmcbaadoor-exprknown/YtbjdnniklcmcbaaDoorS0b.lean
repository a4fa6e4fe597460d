/- lex.split from its label 'between' on: at a byte. -/
import Derived.Test.YtbjdnniklcmcbaaDoorLand
namespace Go.Proofs.YtbjdnniklcmcbaaDoor
open Go.RowKit
attribute [local go_sem] run_store_complex

/-- The token that is begun at byte k. -/
theorem Box.begin {s : ByteArray} {w : World} {B k : Nat} {c0 c1 c2 c3 : Value} {px py : Nat} (h : Box w B c0 c1 c2 c3) (hx : lineW s k = px) (hy : colW s k = py) :
    Box ((((w.setCell ⟨B, 0, none⟩ (.int .i64 0)).setCell ⟨B, 1, none⟩ (.string ⟨#[]⟩)).setCell ⟨B, 2, none⟩ (.int .i64 0)).setCell ⟨B, 3, none⟩ (.complex .f64 px py)) B (.int .i64 0) (.string ⟨#[]⟩) (.int .i64 0) (.complex .f64 (lineW s k) (colW s k)) := by
  subst hx; subst hy
  exact (((h.set0 _).set1 _).set2 _).set3 _

theorem Inv.begin {s : ByteArray} {w0 : World} {R : Lx.Out} {k p : Nat} {acc : List Lx.Tk} {f x fst : Nat} {list : Value} {w : World} (h : Inv s w0 R k p acc f x fst list w) (v0 v1 v2 v3 : Value) :
    Inv s w0 R k p acc f x fst list ((((w.setCell ⟨w0.heap.size, 0, none⟩ v0).setCell ⟨w0.heap.size, 1, none⟩ v1).setCell ⟨w0.heap.size, 2, none⟩ v2).setCell ⟨w0.heap.size, 3, none⟩ v3) := (((h.set 0 _).set 1 _).set 2 _).set 3 _

set_option maxRecDepth 10000 in
set_option maxHeartbeats 1000000 in
theorem seg0_note (s : ByteArray) (w0 : World) (R : Lx.Out) (k : Nat) (acc : List Lx.Tk) (f x fst : Nat) (u1 u2 u3 u4 en gd list c0 c1 c2 c3 : Value) (u12 u13 u14 u15 u16 u17 u18 u19 u20 u21 u22 u23 u24 u25 u26 u27 u28 u29 u30 u31 u32 u33 u34 u35 u36 u37 u38 u39 u40 u41 u42 u43 u44 u45 u46 u47 u48 u49 u50 u51 u52 u53 u54 u55 u56 u57 u58 u59 u60 u61 u62 u63 u64 u65 u66 u67 u68 u69 u70 u71 u72 u73 u74 u75 u76 u77 u78 u79 u80 u81 u82 u83 u84 u85 u86 u87 u88 u89 u90 u91 u92 u93 u94 u95 u96 u97 u98 u99 u100 u101 u102 u103 u104 u105 u106 u107 u108 u109 u110 u111 u112 u113 u114 u115 u116 u117 u118 u119 u120 u121 u122 u123 u124 u125 u126 u127 u128 u129 u130 u131 u132 u133 u134 u135 u136 u137 u138 u139 u140 u141 u142 : Value) (w : World) (Q : Exit → Act → World → Prop) (m : Nat)
   (hI : Inv s w0 R k k acc f x fst list w) (hB : Box w w0.heap.size c0 c1 c2 c3) (hs : s.size ≤ 6000) (hk : k < s.size) (hm : m = (s.size - k) * 20000 + 15000) (hc : s[k] = 35) :
   ∃ r, findLabel splitBody 0 = some (Code.skip.seq r) ∧ r.wp Tryd.prog (After s w0 R m Q) { tmps := #[.string s, u1, u2, u3, u4, .complex .f64 (Fp.rung x) one64, .int .i64 (fst : Int), .int .i64 (k : Int), en, gd, list, boxAt w0, u12, u13, u14, u15, u16, u17, u18, u19, u20, u21, u22, u23, u24, u25, u26, u27, u28, u29, u30, u31, u32, u33, u34, u35, u36, u37, u38, u39, u40, u41, u42, u43, u44, u45, u46, u47, u48, u49, u50, u51, u52, u53, u54, u55, u56, u57, u58, u59, u60, u61, u62, u63, u64, u65, u66, u67, u68, u69, u70, u71, u72, u73, u74, u75, u76, u77, u78, u79, u80, u81, u82, u83, u84, u85, u86, u87, u88, u89, u90, u91, u92, u93, u94, u95, u96, u97, u98, u99, u100, u101, u102, u103, u104, u105, u106, u107, u108, u109, u110, u111, u112, u113, u114, u115, u116, u117, u118, u119, u120, u121, u122, u123, u124, u125, u126, u127, u128, u129, u130, u131, u132, u133, u134, u135, u136, u137, u138, u139, u140, u141, u142], defers := [] } w := by
  have hA : ∀ w, _ := place_sum s k x fst hs hI.ps hI.fk hI.spot
  have hkb : ((k : Int) == (s.size : Int)) = false := by rw [beq_eq_false_iff_ne]; omega
  have hki : (k : Int) < (s.size : Int) := by omega
  have hf' : fst ≤ k := hI.fk
  have hxs : x ≤ 10000 := by
    have h1 := Sp.spot_le (s.data.toList.take k)
    have h2 : (s.data.toList.take k).length ≤ k := List.length_take_le _ _
    rw [hI.spot] at h1
    simp only at h1
    omega
  have e35 : ((s[k].toNat : Int) == 35) = true := by rw [hc]; rfl
  obtain ⟨g, hN⟩ := hI.note hk hc
  have HN : Hid (Inv _ _ _ _ _ _ _ _ _ _ _) := hN
  have HS : Hid (stopAt s k = false) := stop_no hk (by rw [hc]; decide)
  clear hN hc
  obtain ⟨b0, b1, b2, b3, z0, z1, z2, z3⟩ := id hB
  have HI : Hid (Inv s w0 R k k acc _ x fst list w) := hI
  have HB : Hid (Box w w0.heap.size c0 c1 c2 c3) := hB
  have HM : Hid (m = (s.size - k) * 20000 + 15000) := hm
  clear hI hB hm
  obtain ⟨px, hpx⟩ : ∃ px, lineW s k = px := ⟨_, rfl⟩
  obtain ⟨py, hpy⟩ : ∃ py, colW s k = py := ⟨_, rfl⟩
  rw [hpx, hpy] at hA
  have HX : Hid (lineW s k = px) := hpx
  have HY : Hid (colW s k = py) := hpy
  clear hpx hpy
  refine ⟨_, rfl, ?_⟩
  go_wp2
  go_step3
  exact land1 (k := k) ⟨rfl, rfl, rfl, rfl, rfl, rfl, rfl, rfl, rfl, rfl⟩ (HN.out.begin _ _ _ _) (HB.out.begin HX.out HY.out) (by rw [HM.out, HS.out]; simp only [Bool.false_eq_true, if_false]; omega)


set_option maxRecDepth 10000 in
set_option maxHeartbeats 1000000 in
theorem seg0_feed (s : ByteArray) (w0 : World) (R : Lx.Out) (k : Nat) (acc : List Lx.Tk) (f x fst : Nat) (u1 u2 u3 u4 en gd list c0 c1 c2 c3 : Value) (u12 u13 u14 u15 u16 u17 u18 u19 u20 u21 u22 u23 u24 u25 u26 u27 u28 u29 u30 u31 u32 u33 u34 u35 u36 u37 u38 u39 u40 u41 u42 u43 u44 u45 u46 u47 u48 u49 u50 u51 u52 u53 u54 u55 u56 u57 u58 u59 u60 u61 u62 u63 u64 u65 u66 u67 u68 u69 u70 u71 u72 u73 u74 u75 u76 u77 u78 u79 u80 u81 u82 u83 u84 u85 u86 u87 u88 u89 u90 u91 u92 u93 u94 u95 u96 u97 u98 u99 u100 u101 u102 u103 u104 u105 u106 u107 u108 u109 u110 u111 u112 u113 u114 u115 u116 u117 u118 u119 u120 u121 u122 u123 u124 u125 u126 u127 u128 u129 u130 u131 u132 u133 u134 u135 u136 u137 u138 u139 u140 u141 u142 : Value) (w : World) (Q : Exit → Act → World → Prop) (m : Nat)
   (hI : Inv s w0 R k k acc f x fst list w) (hB : Box w w0.heap.size c0 c1 c2 c3) (hs : s.size ≤ 6000) (hk : k < s.size) (hm : m = (s.size - k) * 20000 + 15000) (hc : s[k] = 10) :
   ∃ r, findLabel splitBody 0 = some (Code.skip.seq r) ∧ r.wp Tryd.prog (After s w0 R m Q) { tmps := #[.string s, u1, u2, u3, u4, .complex .f64 (Fp.rung x) one64, .int .i64 (fst : Int), .int .i64 (k : Int), en, gd, list, boxAt w0, u12, u13, u14, u15, u16, u17, u18, u19, u20, u21, u22, u23, u24, u25, u26, u27, u28, u29, u30, u31, u32, u33, u34, u35, u36, u37, u38, u39, u40, u41, u42, u43, u44, u45, u46, u47, u48, u49, u50, u51, u52, u53, u54, u55, u56, u57, u58, u59, u60, u61, u62, u63, u64, u65, u66, u67, u68, u69, u70, u71, u72, u73, u74, u75, u76, u77, u78, u79, u80, u81, u82, u83, u84, u85, u86, u87, u88, u89, u90, u91, u92, u93, u94, u95, u96, u97, u98, u99, u100, u101, u102, u103, u104, u105, u106, u107, u108, u109, u110, u111, u112, u113, u114, u115, u116, u117, u118, u119, u120, u121, u122, u123, u124, u125, u126, u127, u128, u129, u130, u131, u132, u133, u134, u135, u136, u137, u138, u139, u140, u141, u142], defers := [] } w := by
  have hA : ∀ w, _ := place_sum s k x fst hs hI.ps hI.fk hI.spot
  have hkb : ((k : Int) == (s.size : Int)) = false := by rw [beq_eq_false_iff_ne]; omega
  have hki : (k : Int) < (s.size : Int) := by omega
  have hf' : fst ≤ k := hI.fk
  have hxs : x ≤ 10000 := by
    have h1 := Sp.spot_le (s.data.toList.take k)
    have h2 : (s.data.toList.take k).length ≤ k := List.length_take_le _ _
    rw [hI.spot] at h1
    simp only at h1
    omega
  have e35 : ((s[k].toNat : Int) == 35) = false := by rw [hc]; rfl
  have e10 : ((s[k].toNat : Int) == 10) = true := by rw [hc]; rfl
  obtain ⟨g, hN⟩ := hI.feed hk hc
  have HN : Hid (Inv _ _ _ _ _ _ _ _ _ _ _) := hN
  have hL : ∀ w, _ := line_sum x hxs
  clear hN hc
  obtain ⟨b0, b1, b2, b3, z0, z1, z2, z3⟩ := id hB
  have HI : Hid (Inv s w0 R k k acc _ x fst list w) := hI
  have HB : Hid (Box w w0.heap.size c0 c1 c2 c3) := hB
  have HM : Hid (m = (s.size - k) * 20000 + 15000) := hm
  clear hI hB hm
  obtain ⟨px, hpx⟩ : ∃ px, lineW s k = px := ⟨_, rfl⟩
  obtain ⟨py, hpy⟩ : ∃ py, colW s k = py := ⟨_, rfl⟩
  rw [hpx, hpy] at hA
  have HX : Hid (lineW s k = px) := hpx
  have HY : Hid (colW s k = py) := hpy
  clear hpx hpy
  refine ⟨_, rfl, ?_⟩
  go_wp2
  go_step3
  exact land0 (k := k + 1) ⟨rfl, rfl, rfl, rfl, rfl, rfl, rfl, rfl, rfl, rfl⟩ (HN.out.begin _ _ _ _) (HB.out.begin HX.out HY.out) (by rw [HM.out]; omega)


set_option maxRecDepth 10000 in
set_option maxHeartbeats 1000000 in
theorem seg0_blank (s : ByteArray) (w0 : World) (R : Lx.Out) (k : Nat) (acc : List Lx.Tk) (f x fst : Nat) (u1 u2 u3 u4 en gd list c0 c1 c2 c3 : Value) (u12 u13 u14 u15 u16 u17 u18 u19 u20 u21 u22 u23 u24 u25 u26 u27 u28 u29 u30 u31 u32 u33 u34 u35 u36 u37 u38 u39 u40 u41 u42 u43 u44 u45 u46 u47 u48 u49 u50 u51 u52 u53 u54 u55 u56 u57 u58 u59 u60 u61 u62 u63 u64 u65 u66 u67 u68 u69 u70 u71 u72 u73 u74 u75 u76 u77 u78 u79 u80 u81 u82 u83 u84 u85 u86 u87 u88 u89 u90 u91 u92 u93 u94 u95 u96 u97 u98 u99 u100 u101 u102 u103 u104 u105 u106 u107 u108 u109 u110 u111 u112 u113 u114 u115 u116 u117 u118 u119 u120 u121 u122 u123 u124 u125 u126 u127 u128 u129 u130 u131 u132 u133 u134 u135 u136 u137 u138 u139 u140 u141 u142 : Value) (w : World) (Q : Exit → Act → World → Prop) (m : Nat)
   (hI : Inv s w0 R k k acc f x fst list w) (hB : Box w w0.heap.size c0 c1 c2 c3) (hs : s.size ≤ 6000) (hk : k < s.size) (hm : m = (s.size - k) * 20000 + 15000) (hc : s[k] = 32) :
   ∃ r, findLabel splitBody 0 = some (Code.skip.seq r) ∧ r.wp Tryd.prog (After s w0 R m Q) { tmps := #[.string s, u1, u2, u3, u4, .complex .f64 (Fp.rung x) one64, .int .i64 (fst : Int), .int .i64 (k : Int), en, gd, list, boxAt w0, u12, u13, u14, u15, u16, u17, u18, u19, u20, u21, u22, u23, u24, u25, u26, u27, u28, u29, u30, u31, u32, u33, u34, u35, u36, u37, u38, u39, u40, u41, u42, u43, u44, u45, u46, u47, u48, u49, u50, u51, u52, u53, u54, u55, u56, u57, u58, u59, u60, u61, u62, u63, u64, u65, u66, u67, u68, u69, u70, u71, u72, u73, u74, u75, u76, u77, u78, u79, u80, u81, u82, u83, u84, u85, u86, u87, u88, u89, u90, u91, u92, u93, u94, u95, u96, u97, u98, u99, u100, u101, u102, u103, u104, u105, u106, u107, u108, u109, u110, u111, u112, u113, u114, u115, u116, u117, u118, u119, u120, u121, u122, u123, u124, u125, u126, u127, u128, u129, u130, u131, u132, u133, u134, u135, u136, u137, u138, u139, u140, u141, u142], defers := [] } w := by
  have hA : ∀ w, _ := place_sum s k x fst hs hI.ps hI.fk hI.spot
  have hkb : ((k : Int) == (s.size : Int)) = false := by rw [beq_eq_false_iff_ne]; omega
  have hki : (k : Int) < (s.size : Int) := by omega
  have hf' : fst ≤ k := hI.fk
  have hxs : x ≤ 10000 := by
    have h1 := Sp.spot_le (s.data.toList.take k)
    have h2 : (s.data.toList.take k).length ≤ k := List.length_take_le _ _
    rw [hI.spot] at h1
    simp only at h1
    omega
  have e35 : ((s[k].toNat : Int) == 35) = false := by rw [hc]; rfl
  have e10 : ((s[k].toNat : Int) == 10) = false := by rw [hc]; rfl
  have e32 : ((s[k].toNat : Int) == 32) = true := by rw [hc]; rfl
  have e9 : ((s[k].toNat : Int) == 9) = false := by rw [hc]; rfl
  obtain ⟨g, hN⟩ := hI.blank hk (by rw [hc]; decide) (by rw [hc]; decide)
  have HN : Hid (Inv _ _ _ _ _ _ _ _ _ _ _) := hN
  clear hN hc
  obtain ⟨b0, b1, b2, b3, z0, z1, z2, z3⟩ := id hB
  have HI : Hid (Inv s w0 R k k acc _ x fst list w) := hI
  have HB : Hid (Box w w0.heap.size c0 c1 c2 c3) := hB
  have HM : Hid (m = (s.size - k) * 20000 + 15000) := hm
  clear hI hB hm
  obtain ⟨px, hpx⟩ : ∃ px, lineW s k = px := ⟨_, rfl⟩
  obtain ⟨py, hpy⟩ : ∃ py, colW s k = py := ⟨_, rfl⟩
  rw [hpx, hpy] at hA
  have HX : Hid (lineW s k = px) := hpx
  have HY : Hid (colW s k = py) := hpy
  clear hpx hpy
  refine ⟨_, rfl, ?_⟩
  go_wp2
  go_step3
  exact land0 (k := k + 1) ⟨rfl, rfl, rfl, rfl, rfl, rfl, rfl, rfl, rfl, rfl⟩ (HN.out.begin _ _ _ _) (HB.out.begin HX.out HY.out) (by rw [HM.out]; omega)


set_option maxRecDepth 10000 in
set_option maxHeartbeats 1000000 in
theorem seg0_tab (s : ByteArray) (w0 : World) (R : Lx.Out) (k : Nat) (acc : List Lx.Tk) (f x fst : Nat) (u1 u2 u3 u4 en gd list c0 c1 c2 c3 : Value) (u12 u13 u14 u15 u16 u17 u18 u19 u20 u21 u22 u23 u24 u25 u26 u27 u28 u29 u30 u31 u32 u33 u34 u35 u36 u37 u38 u39 u40 u41 u42 u43 u44 u45 u46 u47 u48 u49 u50 u51 u52 u53 u54 u55 u56 u57 u58 u59 u60 u61 u62 u63 u64 u65 u66 u67 u68 u69 u70 u71 u72 u73 u74 u75 u76 u77 u78 u79 u80 u81 u82 u83 u84 u85 u86 u87 u88 u89 u90 u91 u92 u93 u94 u95 u96 u97 u98 u99 u100 u101 u102 u103 u104 u105 u106 u107 u108 u109 u110 u111 u112 u113 u114 u115 u116 u117 u118 u119 u120 u121 u122 u123 u124 u125 u126 u127 u128 u129 u130 u131 u132 u133 u134 u135 u136 u137 u138 u139 u140 u141 u142 : Value) (w : World) (Q : Exit → Act → World → Prop) (m : Nat)
   (hI : Inv s w0 R k k acc f x fst list w) (hB : Box w w0.heap.size c0 c1 c2 c3) (hs : s.size ≤ 6000) (hk : k < s.size) (hm : m = (s.size - k) * 20000 + 15000) (hc : s[k] = 9) :
   ∃ r, findLabel splitBody 0 = some (Code.skip.seq r) ∧ r.wp Tryd.prog (After s w0 R m Q) { tmps := #[.string s, u1, u2, u3, u4, .complex .f64 (Fp.rung x) one64, .int .i64 (fst : Int), .int .i64 (k : Int), en, gd, list, boxAt w0, u12, u13, u14, u15, u16, u17, u18, u19, u20, u21, u22, u23, u24, u25, u26, u27, u28, u29, u30, u31, u32, u33, u34, u35, u36, u37, u38, u39, u40, u41, u42, u43, u44, u45, u46, u47, u48, u49, u50, u51, u52, u53, u54, u55, u56, u57, u58, u59, u60, u61, u62, u63, u64, u65, u66, u67, u68, u69, u70, u71, u72, u73, u74, u75, u76, u77, u78, u79, u80, u81, u82, u83, u84, u85, u86, u87, u88, u89, u90, u91, u92, u93, u94, u95, u96, u97, u98, u99, u100, u101, u102, u103, u104, u105, u106, u107, u108, u109, u110, u111, u112, u113, u114, u115, u116, u117, u118, u119, u120, u121, u122, u123, u124, u125, u126, u127, u128, u129, u130, u131, u132, u133, u134, u135, u136, u137, u138, u139, u140, u141, u142], defers := [] } w := by
  have hA : ∀ w, _ := place_sum s k x fst hs hI.ps hI.fk hI.spot
  have hkb : ((k : Int) == (s.size : Int)) = false := by rw [beq_eq_false_iff_ne]; omega
  have hki : (k : Int) < (s.size : Int) := by omega
  have hf' : fst ≤ k := hI.fk
  have hxs : x ≤ 10000 := by
    have h1 := Sp.spot_le (s.data.toList.take k)
    have h2 : (s.data.toList.take k).length ≤ k := List.length_take_le _ _
    rw [hI.spot] at h1
    simp only at h1
    omega
  have e35 : ((s[k].toNat : Int) == 35) = false := by rw [hc]; rfl
  have e10 : ((s[k].toNat : Int) == 10) = false := by rw [hc]; rfl
  have e32 : ((s[k].toNat : Int) == 32) = false := by rw [hc]; rfl
  have e9 : ((s[k].toNat : Int) == 9) = true := by rw [hc]; rfl
  obtain ⟨g, hN⟩ := hI.blank hk (by rw [hc]; decide) (by rw [hc]; decide)
  have HN : Hid (Inv _ _ _ _ _ _ _ _ _ _ _) := hN
  clear hN hc
  obtain ⟨b0, b1, b2, b3, z0, z1, z2, z3⟩ := id hB
  have HI : Hid (Inv s w0 R k k acc _ x fst list w) := hI
  have HB : Hid (Box w w0.heap.size c0 c1 c2 c3) := hB
  have HM : Hid (m = (s.size - k) * 20000 + 15000) := hm
  clear hI hB hm
  obtain ⟨px, hpx⟩ : ∃ px, lineW s k = px := ⟨_, rfl⟩
  obtain ⟨py, hpy⟩ : ∃ py, colW s k = py := ⟨_, rfl⟩
  rw [hpx, hpy] at hA
  have HX : Hid (lineW s k = px) := hpx
  have HY : Hid (colW s k = py) := hpy
  clear hpx hpy
  refine ⟨_, rfl, ?_⟩
  go_wp2
  go_step3
  exact land0 (k := k + 1) ⟨rfl, rfl, rfl, rfl, rfl, rfl, rfl, rfl, rfl, rfl⟩ (HN.out.begin _ _ _ _) (HB.out.begin HX.out HY.out) (by rw [HM.out]; omega)


set_option maxRecDepth 10000 in
set_option maxHeartbeats 1000000 in
theorem seg0_word (s : ByteArray) (w0 : World) (R : Lx.Out) (k : Nat) (acc : List Lx.Tk) (f x fst : Nat) (u1 u2 u3 u4 en gd list c0 c1 c2 c3 : Value) (u12 u13 u14 u15 u16 u17 u18 u19 u20 u21 u22 u23 u24 u25 u26 u27 u28 u29 u30 u31 u32 u33 u34 u35 u36 u37 u38 u39 u40 u41 u42 u43 u44 u45 u46 u47 u48 u49 u50 u51 u52 u53 u54 u55 u56 u57 u58 u59 u60 u61 u62 u63 u64 u65 u66 u67 u68 u69 u70 u71 u72 u73 u74 u75 u76 u77 u78 u79 u80 u81 u82 u83 u84 u85 u86 u87 u88 u89 u90 u91 u92 u93 u94 u95 u96 u97 u98 u99 u100 u101 u102 u103 u104 u105 u106 u107 u108 u109 u110 u111 u112 u113 u114 u115 u116 u117 u118 u119 u120 u121 u122 u123 u124 u125 u126 u127 u128 u129 u130 u131 u132 u133 u134 u135 u136 u137 u138 u139 u140 u141 u142 : Value) (w : World) (Q : Exit → Act → World → Prop) (m : Nat)
   (hI : Inv s w0 R k k acc f x fst list w) (hB : Box w w0.heap.size c0 c1 c2 c3) (hs : s.size ≤ 6000) (hk : k < s.size) (hm : m = (s.size - k) * 20000 + 15000) (hn : Lx.blank s[k] = false) (h35 : s[k] ≠ 35) (hl : Lx.lower s[k] = true) :
   ∃ r, findLabel splitBody 0 = some (Code.skip.seq r) ∧ r.wp Tryd.prog (After s w0 R m Q) { tmps := #[.string s, u1, u2, u3, u4, .complex .f64 (Fp.rung x) one64, .int .i64 (fst : Int), .int .i64 (k : Int), en, gd, list, boxAt w0, u12, u13, u14, u15, u16, u17, u18, u19, u20, u21, u22, u23, u24, u25, u26, u27, u28, u29, u30, u31, u32, u33, u34, u35, u36, u37, u38, u39, u40, u41, u42, u43, u44, u45, u46, u47, u48, u49, u50, u51, u52, u53, u54, u55, u56, u57, u58, u59, u60, u61, u62, u63, u64, u65, u66, u67, u68, u69, u70, u71, u72, u73, u74, u75, u76, u77, u78, u79, u80, u81, u82, u83, u84, u85, u86, u87, u88, u89, u90, u91, u92, u93, u94, u95, u96, u97, u98, u99, u100, u101, u102, u103, u104, u105, u106, u107, u108, u109, u110, u111, u112, u113, u114, u115, u116, u117, u118, u119, u120, u121, u122, u123, u124, u125, u126, u127, u128, u129, u130, u131, u132, u133, u134, u135, u136, u137, u138, u139, u140, u141, u142], defers := [] } w := by
  have hA : ∀ w, _ := place_sum s k x fst hs hI.ps hI.fk hI.spot
  have hkb : ((k : Int) == (s.size : Int)) = false := by rw [beq_eq_false_iff_ne]; omega
  have hki : (k : Int) < (s.size : Int) := by omega
  have hf' : fst ≤ k := hI.fk
  have hxs : x ≤ 10000 := by
    have h1 := Sp.spot_le (s.data.toList.take k)
    have h2 : (s.data.toList.take k).length ≤ k := List.length_take_le _ _
    rw [hI.spot] at h1
    simp only at h1
    omega
  obtain ⟨g, rfl⟩ := hI.fuel1 hk
  have nb : s[k] ≠ 32 ∧ s[k] ≠ 9 ∧ s[k] ≠ 10 := by
    refine ⟨?_, ?_, ?_⟩ <;> (intro e; rw [e] at hn; exact absurd hn (by decide))
  have e35 : ((s[k].toNat : Int) == 35) = false := ne_byte (n := 35) (by decide) h35
  have e10 : ((s[k].toNat : Int) == 10) = false := ne_byte (n := 10) (by decide) nb.2.2
  have e32 : ((s[k].toNat : Int) == 32) = false := ne_byte (n := 32) (by decide) nb.1
  have e9 : ((s[k].toNat : Int) == 9) = false := ne_byte (n := 9) (by decide) nb.2.1
  have H35 : Hid (s[k] ≠ 35) := h35
  have HNB : Hid (Lx.blank s[k] = false) := hn
  clear nb h35 hn
  have CL : Hid (∀ w, _) := isLetter_at s[k] true hl
  have HL : Hid (Lx.lower s[k] = true) := hl
  clear hl
  obtain ⟨b0, b1, b2, b3, z0, z1, z2, z3⟩ := id hB
  have HI : Hid (Inv s w0 R k k acc _ x fst list w) := hI
  have HB : Hid (Box w w0.heap.size c0 c1 c2 c3) := hB
  have HM : Hid (m = (s.size - k) * 20000 + 15000) := hm
  clear hI hB hm
  obtain ⟨px, hpx⟩ : ∃ px, lineW s k = px := ⟨_, rfl⟩
  obtain ⟨py, hpy⟩ : ∃ py, colW s k = py := ⟨_, rfl⟩
  rw [hpx, hpy] at hA
  have HX : Hid (lineW s k = px) := hpx
  have HY : Hid (colW s k = py) := hpy
  clear hpx hpy
  refine ⟨_, rfl, ?_⟩
  go_wp2_with fail
  refine (CL.out _).mono ?_
  rintro e v1 ⟨rfl, rfl⟩
  go_wp2
  go_step3
  exact land2 (k := k) (e := k) ⟨rfl, rfl, rfl, rfl, rfl, rfl, rfl, rfl, rfl, rfl⟩ (HI.out.begin _ _ _ _) (HB.out.begin HX.out HY.out) (Nat.le_refl _) (by omega) ⟨by omega, HL.out⟩ rfl (by rw [HM.out]; omega)


set_option maxRecDepth 10000 in
set_option maxHeartbeats 1000000 in
theorem seg0_number (s : ByteArray) (w0 : World) (R : Lx.Out) (k : Nat) (acc : List Lx.Tk) (f x fst : Nat) (u1 u2 u3 u4 en gd list c0 c1 c2 c3 : Value) (u12 u13 u14 u15 u16 u17 u18 u19 u20 u21 u22 u23 u24 u25 u26 u27 u28 u29 u30 u31 u32 u33 u34 u35 u36 u37 u38 u39 u40 u41 u42 u43 u44 u45 u46 u47 u48 u49 u50 u51 u52 u53 u54 u55 u56 u57 u58 u59 u60 u61 u62 u63 u64 u65 u66 u67 u68 u69 u70 u71 u72 u73 u74 u75 u76 u77 u78 u79 u80 u81 u82 u83 u84 u85 u86 u87 u88 u89 u90 u91 u92 u93 u94 u95 u96 u97 u98 u99 u100 u101 u102 u103 u104 u105 u106 u107 u108 u109 u110 u111 u112 u113 u114 u115 u116 u117 u118 u119 u120 u121 u122 u123 u124 u125 u126 u127 u128 u129 u130 u131 u132 u133 u134 u135 u136 u137 u138 u139 u140 u141 u142 : Value) (w : World) (Q : Exit → Act → World → Prop) (m : Nat)
   (hI : Inv s w0 R k k acc f x fst list w) (hB : Box w w0.heap.size c0 c1 c2 c3) (hs : s.size ≤ 6000) (hk : k < s.size) (hm : m = (s.size - k) * 20000 + 15000) (hn : Lx.blank s[k] = false) (h35 : s[k] ≠ 35) (hl : Lx.lower s[k] = false) (hd : Lx.digit s[k] = true) :
   ∃ r, findLabel splitBody 0 = some (Code.skip.seq r) ∧ r.wp Tryd.prog (After s w0 R m Q) { tmps := #[.string s, u1, u2, u3, u4, .complex .f64 (Fp.rung x) one64, .int .i64 (fst : Int), .int .i64 (k : Int), en, gd, list, boxAt w0, u12, u13, u14, u15, u16, u17, u18, u19, u20, u21, u22, u23, u24, u25, u26, u27, u28, u29, u30, u31, u32, u33, u34, u35, u36, u37, u38, u39, u40, u41, u42, u43, u44, u45, u46, u47, u48, u49, u50, u51, u52, u53, u54, u55, u56, u57, u58, u59, u60, u61, u62, u63, u64, u65, u66, u67, u68, u69, u70, u71, u72, u73, u74, u75, u76, u77, u78, u79, u80, u81, u82, u83, u84, u85, u86, u87, u88, u89, u90, u91, u92, u93, u94, u95, u96, u97, u98, u99, u100, u101, u102, u103, u104, u105, u106, u107, u108, u109, u110, u111, u112, u113, u114, u115, u116, u117, u118, u119, u120, u121, u122, u123, u124, u125, u126, u127, u128, u129, u130, u131, u132, u133, u134, u135, u136, u137, u138, u139, u140, u141, u142], defers := [] } w := by
  have hA : ∀ w, _ := place_sum s k x fst hs hI.ps hI.fk hI.spot
  have hkb : ((k : Int) == (s.size : Int)) = false := by rw [beq_eq_false_iff_ne]; omega
  have hki : (k : Int) < (s.size : Int) := by omega
  have hf' : fst ≤ k := hI.fk
  have hxs : x ≤ 10000 := by
    have h1 := Sp.spot_le (s.data.toList.take k)
    have h2 : (s.data.toList.take k).length ≤ k := List.length_take_le _ _
    rw [hI.spot] at h1
    simp only at h1
    omega
  obtain ⟨g, rfl⟩ := hI.fuel1 hk
  have nb : s[k] ≠ 32 ∧ s[k] ≠ 9 ∧ s[k] ≠ 10 := by
    refine ⟨?_, ?_, ?_⟩ <;> (intro e; rw [e] at hn; exact absurd hn (by decide))
  have e35 : ((s[k].toNat : Int) == 35) = false := ne_byte (n := 35) (by decide) h35
  have e10 : ((s[k].toNat : Int) == 10) = false := ne_byte (n := 10) (by decide) nb.2.2
  have e32 : ((s[k].toNat : Int) == 32) = false := ne_byte (n := 32) (by decide) nb.1
  have e9 : ((s[k].toNat : Int) == 9) = false := ne_byte (n := 9) (by decide) nb.2.1
  have H35 : Hid (s[k] ≠ 35) := h35
  have HNB : Hid (Lx.blank s[k] = false) := hn
  clear nb h35 hn
  have CL : Hid (∀ w, _) := isLetter_at s[k] false hl
  have CD : Hid (∀ w, _) := isDigit_at s[k] true hd
  have HL : Hid (Lx.lower s[k] = false) := hl
  have HD : Hid (Lx.digit s[k] = true) := hd
  clear hl hd
  obtain ⟨b0, b1, b2, b3, z0, z1, z2, z3⟩ := id hB
  have HI : Hid (Inv s w0 R k k acc _ x fst list w) := hI
  have HB : Hid (Box w w0.heap.size c0 c1 c2 c3) := hB
  have HM : Hid (m = (s.size - k) * 20000 + 15000) := hm
  clear hI hB hm
  obtain ⟨px, hpx⟩ : ∃ px, lineW s k = px := ⟨_, rfl⟩
  obtain ⟨py, hpy⟩ : ∃ py, colW s k = py := ⟨_, rfl⟩
  rw [hpx, hpy] at hA
  have HX : Hid (lineW s k = px) := hpx
  have HY : Hid (colW s k = py) := hpy
  clear hpx hpy
  refine ⟨_, rfl, ?_⟩
  go_wp2_with fail
  refine (CL.out _).mono ?_
  rintro e v1 ⟨rfl, rfl⟩
  go_wp2_with fail
  refine (CD.out _).mono ?_
  rintro e v1 ⟨rfl, rfl⟩
  go_wp2
  go_step3
  exact land3 (k := k) (e := k) ⟨rfl, rfl, rfl, rfl, rfl, rfl, rfl, rfl, rfl, rfl⟩ (HI.out.begin _ _ _ _) (HB.out.begin HX.out HY.out) (Nat.le_refl _) (by omega) ⟨by omega, HL.out, HD.out⟩ rfl (by rw [HM.out]; omega)


set_option maxRecDepth 10000 in
set_option maxHeartbeats 1000000 in
theorem seg0_sign (s : ByteArray) (w0 : World) (R : Lx.Out) (k : Nat) (acc : List Lx.Tk) (f x fst : Nat) (u1 u2 u3 u4 en gd list c0 c1 c2 c3 : Value) (u12 u13 u14 u15 u16 u17 u18 u19 u20 u21 u22 u23 u24 u25 u26 u27 u28 u29 u30 u31 u32 u33 u34 u35 u36 u37 u38 u39 u40 u41 u42 u43 u44 u45 u46 u47 u48 u49 u50 u51 u52 u53 u54 u55 u56 u57 u58 u59 u60 u61 u62 u63 u64 u65 u66 u67 u68 u69 u70 u71 u72 u73 u74 u75 u76 u77 u78 u79 u80 u81 u82 u83 u84 u85 u86 u87 u88 u89 u90 u91 u92 u93 u94 u95 u96 u97 u98 u99 u100 u101 u102 u103 u104 u105 u106 u107 u108 u109 u110 u111 u112 u113 u114 u115 u116 u117 u118 u119 u120 u121 u122 u123 u124 u125 u126 u127 u128 u129 u130 u131 u132 u133 u134 u135 u136 u137 u138 u139 u140 u141 u142 : Value) (w : World) (Q : Exit → Act → World → Prop) (m : Nat)
   (hI : Inv s w0 R k k acc f x fst list w) (hB : Box w w0.heap.size c0 c1 c2 c3) (hs : s.size ≤ 6000) (hk : k < s.size) (hm : m = (s.size - k) * 20000 + 15000) (hn : Lx.blank s[k] = false) (h35 : s[k] ≠ 35) (hl : Lx.lower s[k] = false) (hd : Lx.digit s[k] = false) :
   ∃ r, findLabel splitBody 0 = some (Code.skip.seq r) ∧ r.wp Tryd.prog (After s w0 R m Q) { tmps := #[.string s, u1, u2, u3, u4, .complex .f64 (Fp.rung x) one64, .int .i64 (fst : Int), .int .i64 (k : Int), en, gd, list, boxAt w0, u12, u13, u14, u15, u16, u17, u18, u19, u20, u21, u22, u23, u24, u25, u26, u27, u28, u29, u30, u31, u32, u33, u34, u35, u36, u37, u38, u39, u40, u41, u42, u43, u44, u45, u46, u47, u48, u49, u50, u51, u52, u53, u54, u55, u56, u57, u58, u59, u60, u61, u62, u63, u64, u65, u66, u67, u68, u69, u70, u71, u72, u73, u74, u75, u76, u77, u78, u79, u80, u81, u82, u83, u84, u85, u86, u87, u88, u89, u90, u91, u92, u93, u94, u95, u96, u97, u98, u99, u100, u101, u102, u103, u104, u105, u106, u107, u108, u109, u110, u111, u112, u113, u114, u115, u116, u117, u118, u119, u120, u121, u122, u123, u124, u125, u126, u127, u128, u129, u130, u131, u132, u133, u134, u135, u136, u137, u138, u139, u140, u141, u142], defers := [] } w := by
  have hA : ∀ w, _ := place_sum s k x fst hs hI.ps hI.fk hI.spot
  have hkb : ((k : Int) == (s.size : Int)) = false := by rw [beq_eq_false_iff_ne]; omega
  have hki : (k : Int) < (s.size : Int) := by omega
  have hf' : fst ≤ k := hI.fk
  have hxs : x ≤ 10000 := by
    have h1 := Sp.spot_le (s.data.toList.take k)
    have h2 : (s.data.toList.take k).length ≤ k := List.length_take_le _ _
    rw [hI.spot] at h1
    simp only at h1
    omega
  obtain ⟨g, rfl⟩ := hI.fuel1 hk
  have nb : s[k] ≠ 32 ∧ s[k] ≠ 9 ∧ s[k] ≠ 10 := by
    refine ⟨?_, ?_, ?_⟩ <;> (intro e; rw [e] at hn; exact absurd hn (by decide))
  have e35 : ((s[k].toNat : Int) == 35) = false := ne_byte (n := 35) (by decide) h35
  have e10 : ((s[k].toNat : Int) == 10) = false := ne_byte (n := 10) (by decide) nb.2.2
  have e32 : ((s[k].toNat : Int) == 32) = false := ne_byte (n := 32) (by decide) nb.1
  have e9 : ((s[k].toNat : Int) == 9) = false := ne_byte (n := 9) (by decide) nb.2.1
  have H35 : Hid (s[k] ≠ 35) := h35
  have HNB : Hid (Lx.blank s[k] = false) := hn
  clear nb h35 hn
  have CL : Hid (∀ w, _) := isLetter_at s[k] false hl
  have CD : Hid (∀ w, _) := isDigit_at s[k] false hd
  have HL : Hid (Lx.lower s[k] = false) := hl
  have HD : Hid (Lx.digit s[k] = false) := hd
  clear hl hd
  obtain ⟨b0, b1, b2, b3, z0, z1, z2, z3⟩ := id hB
  have HI : Hid (Inv s w0 R k k acc _ x fst list w) := hI
  have HB : Hid (Box w w0.heap.size c0 c1 c2 c3) := hB
  have HM : Hid (m = (s.size - k) * 20000 + 15000) := hm
  clear hI hB hm
  obtain ⟨px, hpx⟩ : ∃ px, lineW s k = px := ⟨_, rfl⟩
  obtain ⟨py, hpy⟩ : ∃ py, colW s k = py := ⟨_, rfl⟩
  rw [hpx, hpy] at hA
  have HX : Hid (lineW s k = px) := hpx
  have HY : Hid (colW s k = py) := hpy
  clear hpx hpy
  refine ⟨_, rfl, ?_⟩
  go_wp2_with fail
  refine (CL.out _).mono ?_
  rintro e v1 ⟨rfl, rfl⟩
  go_wp2_with fail
  refine (CD.out _).mono ?_
  rintro e v1 ⟨rfl, rfl⟩
  go_wp2
  go_step3
  exact land4 (k := k) ⟨rfl, rfl, rfl, rfl, rfl, rfl, rfl, rfl, rfl, rfl⟩ (HI.out.begin _ _ _ _) (HB.out.begin HX.out HY.out) ⟨by omega, HL.out, HD.out, HNB.out, H35.out⟩ (by rw [HM.out]; omega)


end Go.Proofs.YtbjdnniklcmcbaaDoor
