/- What known answers. -/
import Derived.Test.YtkobdephobaopaaGreatDoorPo
import Derived.Test.YtkobdephobaopaaGreatDoorWD
namespace Go.Proofs.YtkobdephobaopaaGreatDoor
open Go.RowKit
attribute [local go_sem] run_store_complex

def sKn : ByteArray := ⟨#[118, 97, 114, 32, 120, 32, 103, 111, 123, 120, 61, 49, 125]⟩
def dKn : List Dc := [⟨1, Px.ba [120], 0, 4607182418800017408, 4607182418800017408⟩]
def tKn : List (List St) := [[.mk 1 (Px.ba [120]) Px.e0 0 (Px.numE 1) [] [] 4607182418800017408 4621819117588971520]]
theorem outKn : Pp.out sKn = (some (dKn, tKn), 13) := by kernel_rfl

theorem eql_one : (Ieee.double.order 4607182418800017408 4607182418800017408 == some .eq) = true := by decide +kernel
theorem eql_ten : (Ieee.double.order 4621819117588971520 4621819117588971520 == some .eq) = true := by decide +kernel

set_option maxRecDepth 100000 in
set_option maxHeartbeats 1000000 in
theorem known_any (w : World) (hE : Er w) : Calls Tryz.prog 12 #[] w fun e w' => e = .returned (.bool true) ∧ Kept w w' := by
  have HC := hide (pread_any sKn (by decide) w hE _ _ outKn)
  clear hE
  have e1 := eql_one
  have e2 := eql_ten
  go_enter Tryz.func12, Tryz.ntmps12
  go_wp2_with fail
  refine (unhide HC).mono ?_
  rintro e w1 ⟨a1, n1, q1, a2, n2, q2, X, Y, E, rfl, H⟩
  obtain ⟨hk, -, hv⟩ := unhide H
  obtain ⟨rfl, rfl, rfl, hd, ht⟩ := hv _ _ rfl
  obtain ⟨_, _, ed, hd1, hd2, hd3⟩ := hd.open
  obtain ⟨_, _, et, ht1, ht2, ht3⟩ := ht.open
  obtain ⟨b1, o1, rfl, -, hb1, z1, c0, c1, c2, c3⟩ := hd.item (StaysD.refl _ _) 0 (by decide)
  obtain ⟨b2, o2, a4, n4, q4, rfl, -, hb2, z2, t0, hs⟩ := ht.item (StaysD.refl _ _) 0 (by decide)
  obtain ⟨_, _, es, hs1, hs2, hs3⟩ := hs.open
  obtain ⟨b3, o3, x1, x2, x3, x4, x5, x6, x7, x8, x9, rfl, -, hb3, z3, s0, s1, s2, s3, s4, s5, s6, s7, s8, s9, s10, -⟩ := hs.item (StaysD.refl _ _) 0 (by decide)
  injection ed with e3 e4 e5
  injection et with e6 e7 e8
  injection es with e9 e10 e11
  obtain rfl : n1 = 1 := e4
  obtain rfl : n2 = 1 := e7
  obtain rfl : n4 = 1 := e10
  have c3 : w1.cell? ⟨b1, o1 + 3, none⟩ = some (.complex .f64 4607182418800017408 4607182418800017408) := c3
  have t0 : w1.cell? ⟨b2, o2, none⟩ = some (.slice (some ⟨b3, o3, none⟩) 1 q4) := t0
  have s0 : w1.cell? ⟨b3, o3, none⟩ = some (.int .i64 1) := s0
  have s10 : w1.cell? ⟨b3, o3 + 10, none⟩ = some (.complex .f64 4607182418800017408 4621819117588971520) := s10
  have HK := hide hk
  clear hk H hv hd ht hs e3 e5 e6 e8 e9 e11 hd1 hd2 hd3 ht1 ht2 ht3 hs1 hs2 hs3 HC z1 z2 z3 c0 c1 c2 s1 s2 s3 s4 s5 s6 s7 s8 s9
  go_wp2_with fail
  go_ret
  exact ⟨rfl, (unhide HK).al _⟩
#print axioms known_any
end Go.Proofs.YtkobdephobaopaaGreatDoor
