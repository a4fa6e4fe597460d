/- lex.split from its label 'token' on. -/
import Derived.Test.YtbjdnniklcmcbaaDoorTf
import Derived.Test.YtbjdnniklcmcbaaDoorLxLaws
import Derived.Deep.QuietTactic
import Derived.BigQuiet
namespace Go.Proofs.YtbjdnniklcmcbaaDoor
open Go.RowKit
attribute [local go_sem] run_store_complex

set_option maxRecDepth 10000 in
set_option maxHeartbeats 1000000 in
theorem seg5_bad (s : ByteArray) (w0 : World) (R : Lx.Out) (k e kd n : Nat) (acc : List Lx.Tk) (f x fst : Nat) (u1 u2 u3 u4 list : Value) (u12 u13 u14 u15 u16 u17 u18 u19 u20 u21 u22 u23 u24 u25 u26 u27 u28 u29 u30 u31 u32 u33 u34 u35 u36 u37 u38 u39 u40 u41 u42 u43 u44 u45 u46 u47 u48 u49 u50 u51 u52 u53 u54 u55 u56 u57 u58 u59 u60 u61 u62 u63 u64 u65 u66 u67 u68 u69 u70 u71 u72 u73 u74 u75 u76 u77 u78 u79 u80 u81 u82 u83 u84 u85 u86 u87 u88 u89 u90 u91 u92 u93 u94 u95 u96 u97 u98 u99 u100 u101 u102 u103 u104 u105 u106 u107 u108 u109 u110 u111 u112 u113 u114 u115 u116 u117 u118 u119 u120 u121 u122 u123 u124 u125 u126 u127 u128 u129 u130 u131 u132 u133 u134 u135 u136 u137 u138 u139 u140 u141 u142 : Value) (w : World) (Q : Exit → Act → World → Prop) (m : Nat)
   (hI : Inv s w0 R k k acc (f + 1) x fst list w) (hB : Box w w0.heap.size (.int .i64 (kd : Int)) (.string ⟨#[]⟩) (.int .i64 (n : Int)) (.complex .f64 (lineW s k) (colW s k))) (hk : k < s.size) (h1 : Lx.blank s[k] = false) (h2 : s[k] ≠ 35) (ho : Lx.one (s.data.toList.drop k) = none) (hQ : ∀ a w, Ret s w0 R a w → Q .ret a w) :
   ∃ r, findLabel splitBody 5 = some r ∧ r.wp Tryd.prog (After s w0 R m Q) { tmps := #[.string s, u1, u2, u3, u4, .complex .f64 (Fp.rung x) one64, .int .i64 (fst : Int), .int .i64 (k : Int), .int .i64 (e : Int), .bool false, list, boxAt w0, u12, u13, u14, u15, u16, u17, u18, u19, u20, u21, u22, u23, u24, u25, u26, u27, u28, u29, u30, u31, u32, u33, u34, u35, u36, u37, u38, u39, u40, u41, u42, u43, u44, u45, u46, u47, u48, u49, u50, u51, u52, u53, u54, u55, u56, u57, u58, u59, u60, u61, u62, u63, u64, u65, u66, u67, u68, u69, u70, u71, u72, u73, u74, u75, u76, u77, u78, u79, u80, u81, u82, u83, u84, u85, u86, u87, u88, u89, u90, u91, u92, u93, u94, u95, u96, u97, u98, u99, u100, u101, u102, u103, u104, u105, u106, u107, u108, u109, u110, u111, u112, u113, u114, u115, u116, u117, u118, u119, u120, u121, u122, u123, u124, u125, u126, u127, u128, u129, u130, u131, u132, u133, u134, u135, u136, u137, u138, u139, u140, u141, u142], defers := [] } w := by
  have HI : Hid (Inv s w0 R k k acc _ x fst list w) := hI
  have HB : Hid (Box w w0.heap.size (.int .i64 (kd : Int)) (.string ⟨#[]⟩) (.int .i64 (n : Int)) (.complex .f64 (lineW s k) (colW s k))) := hB
  obtain ⟨b0, b1, b2, b3, z0, z1, z2, z3⟩ := id hB
  obtain ⟨px, hpx⟩ : ∃ px, lineW s k = px := ⟨_, rfl⟩
  obtain ⟨py, hpy⟩ : ∃ py, colW s k = py := ⟨_, rfl⟩
  rw [hpx, hpy] at b3
  have HX : Hid (lineW s k = px) := hpx
  have HY : Hid (colW s k = py) := hpy
  clear hpx hpy
  have HR : Hid (R = .bad k) := told_bad hI hk h1 h2 ho
  have HQ : Hid (∀ a w, Ret s w0 R a w → Q .ret a w) := hQ
  clear h1 h2 ho hQ
  clear hI hB
  refine ⟨_, rfl, ?_⟩
  go_wp2
  go_quiet (fail)
  go_wp2
  exact HQ.out _ _ ⟨rfl, rfl, by
    rw [HR.out]
    exact ⟨rfl, by rw [HX.out, HY.out]; rfl, rfl, HI.out.bel.trans ⟨rfl, rfl, rfl, Nat.le_refl _, fun _ _ => rfl⟩⟩⟩

set_option maxRecDepth 10000 in
set_option maxHeartbeats 1000000 in
theorem seg5_good (s : ByteArray) (w0 : World) (R : Lx.Out) (k e kd n : Nat) (acc : List Lx.Tk) (f x fst : Nat) (u1 u2 u3 u4 list : Value) (u12 u13 u14 u15 u16 u17 u18 u19 u20 u21 u22 u23 u24 u25 u26 u27 u28 u29 u30 u31 u32 u33 u34 u35 u36 u37 u38 u39 u40 u41 u42 u43 u44 u45 u46 u47 u48 u49 u50 u51 u52 u53 u54 u55 u56 u57 u58 u59 u60 u61 u62 u63 u64 u65 u66 u67 u68 u69 u70 u71 u72 u73 u74 u75 u76 u77 u78 u79 u80 u81 u82 u83 u84 u85 u86 u87 u88 u89 u90 u91 u92 u93 u94 u95 u96 u97 u98 u99 u100 u101 u102 u103 u104 u105 u106 u107 u108 u109 u110 u111 u112 u113 u114 u115 u116 u117 u118 u119 u120 u121 u122 u123 u124 u125 u126 u127 u128 u129 u130 u131 u132 u133 u134 u135 u136 u137 u138 u139 u140 u141 u142 : Value) (w : World) (Q : Exit → Act → World → Prop) (m : Nat)
   (hI : Inv s w0 R k k acc (f + 1) x fst list w) (hB : Box w w0.heap.size (.int .i64 (kd : Int)) (.string ⟨#[]⟩) (.int .i64 (n : Int)) (.complex .f64 (lineW s k) (colW s k))) (hs : s.size ≤ 6000) (hm : m = (s.size - k) * 20000 + 3) (hk : k < s.size) (h1 : Lx.blank s[k] = false) (h2 : s[k] ≠ 35) (hke : k < e) (he : e ≤ s.size) (ho : Lx.one (s.data.toList.drop k) = some (kd, e - k, n)) :
   ∃ r, findLabel splitBody 5 = some r ∧ r.wp Tryd.prog (After s w0 R m Q) { tmps := #[.string s, u1, u2, u3, u4, .complex .f64 (Fp.rung x) one64, .int .i64 (fst : Int), .int .i64 (k : Int), .int .i64 (e : Int), .bool true, list, boxAt w0, u12, u13, u14, u15, u16, u17, u18, u19, u20, u21, u22, u23, u24, u25, u26, u27, u28, u29, u30, u31, u32, u33, u34, u35, u36, u37, u38, u39, u40, u41, u42, u43, u44, u45, u46, u47, u48, u49, u50, u51, u52, u53, u54, u55, u56, u57, u58, u59, u60, u61, u62, u63, u64, u65, u66, u67, u68, u69, u70, u71, u72, u73, u74, u75, u76, u77, u78, u79, u80, u81, u82, u83, u84, u85, u86, u87, u88, u89, u90, u91, u92, u93, u94, u95, u96, u97, u98, u99, u100, u101, u102, u103, u104, u105, u106, u107, u108, u109, u110, u111, u112, u113, u114, u115, u116, u117, u118, u119, u120, u121, u122, u123, u124, u125, u126, u127, u128, u129, u130, u131, u132, u133, u134, u135, u136, u137, u138, u139, u140, u141, u142], defers := [] } w := by
  have HI : Hid (Inv s w0 R k k acc _ x fst list w) := hI
  have HB : Hid (Box w w0.heap.size (.int .i64 (kd : Int)) (.string ⟨#[]⟩) (.int .i64 (n : Int)) (.complex .f64 (lineW s k) (colW s k))) := hB
  obtain ⟨b0, b1, b2, b3, z0, z1, z2, z3⟩ := id hB
  obtain ⟨px, hpx⟩ : ∃ px, lineW s k = px := ⟨_, rfl⟩
  obtain ⟨py, hpy⟩ : ∃ py, colW s k = py := ⟨_, rfl⟩
  rw [hpx, hpy] at b3
  have HX : Hid (lineW s k = px) := hpx
  have HY : Hid (colW s k = py) := hpy
  clear hpx hpy
  obtain ⟨i0, hi, hz0, hz1, hz2⟩ := tok_info
  have Hi : Hid (_ = _) := hi
  have Hz0 : Hid (_ = _) := hz0
  have Hz1 : Hid (_ = _) := hz1
  have Hz2 : Hid (_ = _) := hz2
  clear hi hz0 hz1 hz2
  have HM : Hid (m = (s.size - k) * 20000 + 3) := hm
  have HO1 : Hid (Lx.blank s[k] = false) := h1
  have HO2 : Hid (s[k] ≠ 35) := h2
  have HO3 : Hid (Lx.one (s.data.toList.drop k) = some (kd, e - k, n)) := ho
  have hcb : acc.length ≤ 6000 := by have := hI.acl; omega
  have hBl := hB.lt
  have hke2 : (k : Int) ≤ (e : Int) := by omega
  have hes : (e : Int) ≤ (s.size : Int) := by omega
  clear h1 h2 ho hm
  clear hI hB
  refine ⟨_, rfl, ?_⟩
  go_wp2_with (at_builtin; refine wpList_append_lies _ (by rfl) _ _ _ (by rfl) (w0.heap.size + 1) 50 i0 _ 4 48 Tryd.underlying40 Hi.out Hz0.out Hz1.out Hz2.out rfl (by decide) list acc.length (cellsOf s acc) (by rfl) ?c0 ⟨_, 0, none⟩ 1 1 [.int .i64 (kd : Int), .string (s.extract k e), .int .i64 (n : Int), .complex .f64 px py] (by rfl) rfl ?c1 ?c2 (by omega) ?c3 (by omega) ?c5 _ rfl ?_)
  case c0 => exact (HI.out.set 1 _).own.alloc _
  case c1 => exact news_of _ _ (by simp) _ _ _ _ _
  case c2 => intro u hu; simp at hu; rcases hu with rfl | rfl | rfl | rfl <;> rfl
  case c3 => unfold maxLen; omega
  case c5 => simp; omega
  intro g cap w1 hown hgrow hat hlt
  have hb := behind_append (HI.out.set 1 _) (by simpa using hBl) hgrow
  have HO : Hid (World.ownsRow _ _ _ _ _ _ _) := hown
  have HBl : Hid (Below _ _ _) := hb.1
  have HBx : Hid (Box w1 w0.heap.size _ _ _ _) := (HB.out.set1 _).block hb.2
  clear hown hgrow hat hlt hb
  go_wp2
  go_step3
  exact land0 (k := e) ⟨rfl, rfl, rfl, rfl, rfl, rfl, rfl, rfl, rfl, rfl⟩ (HI.out.taken hk HO1.out HO2.out hke he HO3.out (by rw [HX.out, HY.out]; exact HO.out) HBl.out) HBx.out (by rw [HM.out]; omega)


end Go.Proofs.YtbjdnniklcmcbaaDoor
