/- Bq -/
import Derived.Test.YtnfkjmafhaecgaaUBi
import Derived.Test.YtnfkjmafhaecgaaUBl

namespace Go.Proofs.Ytnfkjmafhaecgaa
open Go.RowKit Bn
attribute [local go_sem] run_store_complex
def tA : ByteArray := ⟨#[103, 111, 123, 108, 111, 99, 107, 32, 109, 32, 117, 110, 108, 111, 99, 107, 32, 109, 32, 103, 111, 116, 111, 32, 97, 32, 108, 97, 98, 101, 108, 32, 97, 32, 114, 101, 99, 118, 32, 99, 32, 120, 32, 115, 101, 110, 100, 32, 99, 32, 49, 32, 112, 114, 105, 110, 116, 32, 45, 120, 125, 103, 111, 123, 105, 102, 32, 49, 32, 60, 32, 50, 32, 123, 120, 61, 49, 125, 101, 108, 115, 101, 123, 108, 111, 99, 107, 32, 109, 32, 108, 111, 99, 107, 32, 109, 125, 125, 103, 111, 123, 114, 101, 112, 101, 97, 116, 32, 51, 123, 114, 101, 112, 101, 97, 116, 32, 50, 123, 120, 61, 49, 125, 32, 108, 111, 99, 107, 32, 109, 125, 32, 114, 101, 112, 101, 97, 116, 32, 48, 123, 120, 61, 49, 125, 125, 103, 111, 123, 105, 102, 32, 49, 123, 125, 101, 108, 115, 101, 123, 125, 125]⟩
def tB : ByteArray := ⟨#[103, 111, 123, 114, 101, 112, 101, 97, 116, 32, 57, 123, 114, 101, 112, 101, 97, 116, 32, 56, 123, 120, 61, 49, 43, 49, 125, 125, 32, 114, 101, 112, 101, 97, 116, 32, 54, 123, 120, 61, 49, 125, 125]⟩
def tC : ByteArray := ⟨#[103, 111, 123, 125, 103, 111, 123, 114, 101, 112, 101, 97, 116, 32, 57, 123, 114, 101, 112, 101, 97, 116, 32, 56, 123, 120, 61, 49, 43, 49, 125, 125, 32, 114, 101, 112, 101, 97, 116, 32, 54, 123, 120, 61, 49, 125, 32, 108, 111, 99, 107, 32, 109, 125, 103, 111, 123, 114, 101, 112, 101, 97, 116, 32, 57, 123, 114, 101, 112, 101, 97, 116, 32, 57, 123, 114, 101, 112, 101, 97, 116, 32, 57, 123, 120, 61, 49, 125, 125, 125, 125]⟩
theorem tkA : ckB tA = some ([10, 9, 15, 2], (0, 0, 0)) := by kernel_rfl
theorem tkB : (ckB tB).map (·.2) = some (0, 0, 0) := by kernel_rfl
theorem tkC : (ckB tC).map (·.2) = some (4607182418800017408, 4620693217682128896, 5) := by kernel_rfl
theorem ckB_l {s : ByteArray} {x : Nat × Nat × Int} (h : (ckB s).map (·.2) = some x) : ∃ l, ckB s = some (l, x) := by
  cases hc : ckB s with
  | none => rw [hc] at h; cases h
  | some p => rw [hc] at h; obtain ⟨a, b⟩ := p; injection h with h; subst h; exact ⟨a, rfl⟩
def lockS : St := .mk 2 ⟨#[]⟩ ⟨#[]⟩ 0 (.mk 0 0 ⟨#[]⟩ []) [] [] 0 0
def manyS : St := repS 1099511627776 [lockS]
def moreS : St := repS 4611686018427387904 [manyS]
def noneS : St := repS (-5) [moreS]
def tKs : List (List St) := [[moreS], [manyS, manyS], [noneS]]
theorem tKs_szs : szs tKs = [2147483647, 2147483647, 0] := by kernel_rfl
theorem tKs_num : numfit tKs = true := by kernel_rfl
theorem exN_en : cap (en (.mk 1 0 ⟨#[]⟩ [])) = 1 := by kernel_rfl
theorem eqb1 : (FloatKind.f64.format.order 4607182418800017408 4607182418800017408 == some Ordering.eq) = true := by decide +kernel
theorem eqb2 : (FloatKind.f64.format.order 4620693217682128896 4620693217682128896 == some Ordering.eq) = true := by decide +kernel
theorem lay_two {w : World} {s t : St} {a1 a2 a3 b1 b2 b3 : Option Addr} {n1 n2 n3 q1 q2 q3 m1 m2 m3 p1 p2 p3 : Nat} (h1 : ExsIn w 0 w.heap.size s.e.of (.slice a1 n1 q1)) (h2 : StsIn w 0 w.heap.size s.body (.slice a2 n2 q2)) (h3 : StsIn w 0 w.heap.size s.els (.slice a3 n3 q3))
    (k1 : ExsIn w 0 w.heap.size t.e.of (.slice b1 m1 p1)) (k2 : StsIn w 0 w.heap.size t.body (.slice b2 m2 p2)) (k3 : StsIn w 0 w.heap.size t.els (.slice b3 m3 p3)) :
    StsIn (w.alloc (.cells #[.int .i64 s.kind, .string s.name, .string s.other, .int .i64 s.n, .int .i64 s.e.kind, .int .i64 s.e.n, .string s.e.name, .slice a1 n1 q1, .slice a2 n2 q2, .slice a3 n3 q3, .complex .f64 s.re s.im, .int .i64 t.kind, .string t.name, .string t.other, .int .i64 t.n, .int .i64 t.e.kind, .int .i64 t.e.n, .string t.e.name, .slice b1 m1 p1, .slice b2 m2 p2, .slice b3 m3 p3, .complex .f64 t.re t.im] 46)) 0 (w.heap.size + 1) [s, t] (.slice (some ⟨w.heap.size, 0, none⟩) 2 2) := by
  have k : ∀ o : Obj, StaysD (Rng 0 w.heap.size) w (w.alloc o) := fun o j hj => Below.heap_alloc w o j hj.2
  refine StsD.two ⟨Nat.zero_le _, by omega⟩ (heap_alloc_new w _) ?_ ?_ ?_ ?_ ?_ ?_
  · exact (h1.stays (k _)).mono fun j hj => ⟨hj.1, by have := hj.2; omega⟩
  · exact (h2.stays (k _)).mono fun j hj => ⟨hj.1, by have := hj.2; omega⟩
  · exact (h3.stays (k _)).mono fun j hj => ⟨hj.1, by have := hj.2; omega⟩
  · exact (k1.stays (k _)).mono fun j hj => ⟨hj.1, by have := hj.2; omega⟩
  · exact (k2.stays (k _)).mono fun j hj => ⟨hj.1, by have := hj.2; omega⟩
  · exact (k3.stays (k _)).mono fun j hj => ⟨hj.1, by have := hj.2; omega⟩
theorem lay_known {w X0 X1 X2 X3 X4 X5 X6 X7 X8 X9 : World} (h0 : w.alloc (.cells #[.int .i64 2, .string ⟨#[]⟩, .string ⟨#[]⟩, .int .i64 0, .int .i64 0, .int .i64 0, .string ⟨#[]⟩, .slice none 0 0, .slice none 0 0, .slice none 0 0, .complex .f64 0 0] 46) = X0) (h1 : X0.alloc (.cells #[.int .i64 8, .string ⟨#[]⟩, .string ⟨#[]⟩, .int .i64 1099511627776, .int .i64 0, .int .i64 0, .string ⟨#[]⟩, .slice none 0 0, .slice (some ⟨w.heap.size, 0, none⟩) 1 1, .slice none 0 0, .complex .f64 0 0] 46) = X1) (h2 : X1.alloc (.cells #[.int .i64 8, .string ⟨#[]⟩, .string ⟨#[]⟩, .int .i64 1099511627776, .int .i64 0, .int .i64 0, .string ⟨#[]⟩, .slice none 0 0, .slice (some ⟨w.heap.size, 0, none⟩) 1 1, .slice none 0 0, .complex .f64 0 0] 46) = X2) (h3 : X2.alloc (.cells #[.int .i64 8, .string ⟨#[]⟩, .string ⟨#[]⟩, .int .i64 4611686018427387904, .int .i64 0, .int .i64 0, .string ⟨#[]⟩, .slice none 0 0, .slice (some ⟨w.heap.size + 1 + 1, 0, none⟩) 1 1, .slice none 0 0, .complex .f64 0 0] 46) = X3) (h4 : X3.alloc (.cells #[.int .i64 8, .string ⟨#[]⟩, .string ⟨#[]⟩, .int .i64 4611686018427387904, .int .i64 0, .int .i64 0, .string ⟨#[]⟩, .slice none 0 0, .slice (some ⟨w.heap.size + 1 + 1, 0, none⟩) 1 1, .slice none 0 0, .complex .f64 0 0] 46) = X4) (h5 : X4.alloc (.cells #[.int .i64 8, .string ⟨#[]⟩, .string ⟨#[]⟩, .int .i64 (-5), .int .i64 0, .int .i64 0, .string ⟨#[]⟩, .slice none 0 0, .slice (some ⟨w.heap.size + 1 + 1 + 1 + 1, 0, none⟩) 1 1, .slice none 0 0, .complex .f64 0 0] 46) = X5) (h6 : X5.alloc (.cells #[.int .i64 8, .string ⟨#[]⟩, .string ⟨#[]⟩, .int .i64 4611686018427387904, .int .i64 0, .int .i64 0, .string ⟨#[]⟩, .slice none 0 0, .slice (some ⟨w.heap.size + 1 + 1, 0, none⟩) 1 1, .slice none 0 0, .complex .f64 0 0] 46) = X6) (h7 : X6.alloc (.cells #[.int .i64 8, .string ⟨#[]⟩, .string ⟨#[]⟩, .int .i64 1099511627776, .int .i64 0, .int .i64 0, .string ⟨#[]⟩, .slice none 0 0, .slice (some ⟨w.heap.size, 0, none⟩) 1 1, .slice none 0 0, .complex .f64 0 0, .int .i64 8, .string ⟨#[]⟩, .string ⟨#[]⟩, .int .i64 1099511627776, .int .i64 0, .int .i64 0, .string ⟨#[]⟩, .slice none 0 0, .slice (some ⟨w.heap.size, 0, none⟩) 1 1, .slice none 0 0, .complex .f64 0 0] 46) = X7) (h8 : X7.alloc (.cells #[.int .i64 8, .string ⟨#[]⟩, .string ⟨#[]⟩, .int .i64 (-5), .int .i64 0, .int .i64 0, .string ⟨#[]⟩, .slice none 0 0, .slice (some ⟨w.heap.size + 1 + 1 + 1 + 1, 0, none⟩) 1 1, .slice none 0 0, .complex .f64 0 0] 46) = X8) (h9 : X8.alloc (.cells #[.slice (some ⟨w.heap.size + 1 + 1 + 1 + 1 + 1 + 1, 0, none⟩) 1 1, .slice (some ⟨w.heap.size + 1 + 1 + 1 + 1 + 1 + 1 + 1, 0, none⟩) 2 2, .slice (some ⟨w.heap.size + 1 + 1 + 1 + 1 + 1 + 1 + 1 + 1, 0, none⟩) 1 1] 34) = X9) :
    TsIn X9 0 X9.heap.size tKs (.slice (some ⟨w.heap.size + 1 + 1 + 1 + 1 + 1 + 1 + 1 + 1 + 1, 0, none⟩) 3 3) ∧ Kept w X9 := by
  have z0 : X0.heap.size = w.heap.size + 1 := by rw [← h0, World.size_alloc]
  have k0 : Kept w X0 := by rw [← h0]; exact (Kept.refl _).al _
  have z1 : X1.heap.size = w.heap.size + 1 + 1 := by rw [← h1, World.size_alloc, z0]
  have k1 : Kept X0 X1 := by rw [← h1]; exact (Kept.refl _).al _
  have z2 : X2.heap.size = w.heap.size + 1 + 1 + 1 := by rw [← h2, World.size_alloc, z1]
  have k2 : Kept X1 X2 := by rw [← h2]; exact (Kept.refl _).al _
  have z3 : X3.heap.size = w.heap.size + 1 + 1 + 1 + 1 := by rw [← h3, World.size_alloc, z2]
  have k3 : Kept X2 X3 := by rw [← h3]; exact (Kept.refl _).al _
  have z4 : X4.heap.size = w.heap.size + 1 + 1 + 1 + 1 + 1 := by rw [← h4, World.size_alloc, z3]
  have k4 : Kept X3 X4 := by rw [← h4]; exact (Kept.refl _).al _
  have z5 : X5.heap.size = w.heap.size + 1 + 1 + 1 + 1 + 1 + 1 := by rw [← h5, World.size_alloc, z4]
  have k5 : Kept X4 X5 := by rw [← h5]; exact (Kept.refl _).al _
  have z6 : X6.heap.size = w.heap.size + 1 + 1 + 1 + 1 + 1 + 1 + 1 := by rw [← h6, World.size_alloc, z5]
  have k6 : Kept X5 X6 := by rw [← h6]; exact (Kept.refl _).al _
  have z7 : X7.heap.size = w.heap.size + 1 + 1 + 1 + 1 + 1 + 1 + 1 + 1 := by rw [← h7, World.size_alloc, z6]
  have k7 : Kept X6 X7 := by rw [← h7]; exact (Kept.refl _).al _
  have z8 : X8.heap.size = w.heap.size + 1 + 1 + 1 + 1 + 1 + 1 + 1 + 1 + 1 := by rw [← h8, World.size_alloc, z7]
  have k8 : Kept X7 X8 := by rw [← h8]; exact (Kept.refl _).al _
  have z9 : X9.heap.size = w.heap.size + 1 + 1 + 1 + 1 + 1 + 1 + 1 + 1 + 1 + 1 := by rw [← h9, World.size_alloc, z8]
  have k9 : Kept X8 X9 := by rw [← h9]; exact (Kept.refl _).al _
  have L0 : StsIn X0 0 X0.heap.size [lockS] (.slice (some ⟨w.heap.size, 0, none⟩) 1 1) := by
    rw [z0, ← h0]; exact lay_one (s := lockS) (ExsD.nil _ _) (StsD.nil _ _) (StsD.nil _ _)
  have L1 := L0.up (Nat.le_refl _) k1
  have L2 : StsIn X2 0 X2.heap.size [manyS] (.slice (some ⟨w.heap.size + 1 + 1, 0, none⟩) 1 1) := by
    have := lay_one (w := X1) (s := manyS) (ExsD.nil _ _) L1 (StsD.nil _ _)
    rw [z1] at this
    rw [z2, ← h2]; exact this
  have M0 := L1.up (Nat.le_refl _) k2
  have L3 := L2.up (Nat.le_refl _) k3
  have M3 := M0.up (Nat.le_refl _) k3
  have L4 : StsIn X4 0 X4.heap.size [moreS] (.slice (some ⟨w.heap.size + 1 + 1 + 1 + 1, 0, none⟩) 1 1) := by
    have := lay_one (w := X3) (s := moreS) (ExsD.nil _ _) L3 (StsD.nil _ _)
    rw [z3] at this
    rw [z4, ← h4]; exact this
  have A5 := (L3.up (Nat.le_refl _) k4).up (Nat.le_refl _) k5
  have M5 := (M3.up (Nat.le_refl _) k4).up (Nat.le_refl _) k5
  have C5 := L4.up (Nat.le_refl _) k5
  have L6 : StsIn X6 0 X6.heap.size [moreS] (.slice (some ⟨w.heap.size + 1 + 1 + 1 + 1 + 1 + 1, 0, none⟩) 1 1) := by
    have := lay_one (w := X5) (s := moreS) (ExsD.nil _ _) A5 (StsD.nil _ _)
    rw [z5] at this
    rw [z6, ← h6]; exact this
  have M6 := M5.up (Nat.le_refl _) k6
  have C7 := (C5.up (Nat.le_refl _) k6).up (Nat.le_refl _) k7
  have L7 : StsIn X7 0 X7.heap.size [manyS, manyS] (.slice (some ⟨w.heap.size + 1 + 1 + 1 + 1 + 1 + 1 + 1, 0, none⟩) 2 2) := by
    have := lay_two (w := X6) (s := manyS) (t := manyS) (ExsD.nil _ _) M6 (StsD.nil _ _) (ExsD.nil _ _) M6 (StsD.nil _ _)
    rw [z6] at this
    rw [z7, ← h7]; exact this
  have L8 : StsIn X8 0 X8.heap.size [noneS] (.slice (some ⟨w.heap.size + 1 + 1 + 1 + 1 + 1 + 1 + 1 + 1, 0, none⟩) 1 1) := by
    have := lay_one (w := X7) (s := noneS) (ExsD.nil _ _) C7 (StsD.nil _ _)
    rw [z7] at this
    rw [z8, ← h8]; exact this
  have B8 := (L6.up (Nat.le_refl _) k7).up (Nat.le_refl _) k8
  have D8 := L7.up (Nat.le_refl _) k8
  refine ⟨?_, k0.then (k1.then (k2.then (k3.then (k4.then (k5.then (k6.then (k7.then (k8.then k9))))))))⟩
  have := lay_t3 B8 D8 L8
  rw [z8] at this
  rw [z9, ← h9]; exact this
set_option maxRecDepth 100000 in
set_option maxHeartbeats 2000000 in
theorem boundKnown_row (w : World) : Calls Try.prog 5 #[] w fun e w' => e = .returned (.bool true) ∧ Kept w w' := by
  obtain ⟨lB, hB⟩ := ckB_l tkB
  obtain ⟨lC, hC⟩ := ckB_l tkC
  have RA : Hid (∀ w, Calls _ _ _ w _) := fun w => read10_check tA (by decide) _ _ tkA w
  have RB : Hid (∀ w, Calls _ _ _ w _) := fun w => read10_check tB (by decide) _ _ hB w
  have RC : Hid (∀ w, Calls _ _ _ w _) := fun w => read10_check tC (by decide) _ _ hC w
  have KN : Hid (∀ W, Calls Try.prog 21 #[] W fun e w' => e = .returned (.bool true) ∧ Kept W w') := fun W => known10_any W
  have e1 := eqb1
  have e2 := eqb2
  clear hB hC
  go_enter Try.func5, Try.ntmps5
  go_wp2_with fail
  refine Calls.mono (RA.out _) ?_
  rintro e w1 ⟨a1, n1, q1, a2, n2, q2, rfl, H⟩
  have CK : Hid (∀ W, Kept w1 W → Calls Try.prog 18 #[.agg #[.slice a1 n1 q1, .slice a2 n2 q2]] W fun r w' => ∃ a cap, r = .returned (.slice a 4 cap) ∧ NumsR W w' [10, 9, 15, 2] a cap) := H.out.2.1
  have K1 : Hid (Kept w w1) := H.out.1
  clear H
  go_wp2_with fail
  refine Calls.mono (CK.out _ (Kept.refl _)) ?_
  rintro e w2 ⟨aL, cL, rfl, hL⟩
  have HL : Hid _ := hL
  have K2 : Hid (Kept w w2) := K1.out.then hL.kept
  clear hL CK
  go_wp2_with fail
  refine Calls.mono (RB.out _) ?_
  rintro e w3 ⟨a3, n3, q3, a4, n4, q4, rfl, H⟩
  have CK2 : Hid (∀ W, Kept w3 W → Calls Try.prog 20 #[.agg #[.slice a3 n3 q3, .slice a4 n4 q4]] W fun e w' => e = .returned (.tuple #[.complex .f64 0 0, .int .i64 0]) ∧ Kept W w') := H.out.2.2
  have K3 : Hid (Kept w2 w3) := H.out.1
  clear H
  go_wp2_with fail
  refine Calls.mono (CK2.out _ (Kept.refl _)) ?_
  rintro e w4 ⟨rfl, k4⟩
  have K4 : Hid (Kept w2 w4) := K3.out.then k4
  clear k4 CK2
  go_wp2_with fail
  refine Calls.mono (RC.out _) ?_
  rintro e w5 ⟨a5, n5, q5, a6, n6, q6, rfl, H⟩
  have CK3 : Hid (∀ W, Kept w5 W → Calls Try.prog 20 #[.agg #[.slice a5 n5 q5, .slice a6 n6 q6]] W fun e w' => e = .returned (.tuple #[.complex .f64 4607182418800017408 4620693217682128896, .int .i64 5]) ∧ Kept W w') := H.out.2.2
  have K5 : Hid (Kept w2 w5) := K4.out.then H.out.1
  clear H
  go_wp2_with fail
  refine Calls.mono (CK3.out _ (Kept.refl _)) ?_
  rintro e w6 ⟨rfl, k6⟩
  have K6 : Hid (Kept w2 w6) := K5.out.then k6
  clear k6 CK3
  go_wp2_with fail
  obtain ⟨X9, hX⟩ : ∃ X, ((((((((((w6.alloc (.cells #[.int .i64 2, .string ⟨#[]⟩, .string ⟨#[]⟩, .int .i64 0, .int .i64 0, .int .i64 0, .string ⟨#[]⟩, .slice none 0 0, .slice none 0 0, .slice none 0 0, .complex .f64 0 0] 46)).alloc (.cells #[.int .i64 8, .string ⟨#[]⟩, .string ⟨#[]⟩, .int .i64 1099511627776, .int .i64 0, .int .i64 0, .string ⟨#[]⟩, .slice none 0 0, .slice (some ⟨w6.heap.size, 0, none⟩) 1 1, .slice none 0 0, .complex .f64 0 0] 46)).alloc (.cells #[.int .i64 8, .string ⟨#[]⟩, .string ⟨#[]⟩, .int .i64 1099511627776, .int .i64 0, .int .i64 0, .string ⟨#[]⟩, .slice none 0 0, .slice (some ⟨w6.heap.size, 0, none⟩) 1 1, .slice none 0 0, .complex .f64 0 0] 46)).alloc (.cells #[.int .i64 8, .string ⟨#[]⟩, .string ⟨#[]⟩, .int .i64 4611686018427387904, .int .i64 0, .int .i64 0, .string ⟨#[]⟩, .slice none 0 0, .slice (some ⟨w6.heap.size + 1 + 1, 0, none⟩) 1 1, .slice none 0 0, .complex .f64 0 0] 46)).alloc (.cells #[.int .i64 8, .string ⟨#[]⟩, .string ⟨#[]⟩, .int .i64 4611686018427387904, .int .i64 0, .int .i64 0, .string ⟨#[]⟩, .slice none 0 0, .slice (some ⟨w6.heap.size + 1 + 1, 0, none⟩) 1 1, .slice none 0 0, .complex .f64 0 0] 46)).alloc (.cells #[.int .i64 8, .string ⟨#[]⟩, .string ⟨#[]⟩, .int .i64 (-5), .int .i64 0, .int .i64 0, .string ⟨#[]⟩, .slice none 0 0, .slice (some ⟨w6.heap.size + 1 + 1 + 1 + 1, 0, none⟩) 1 1, .slice none 0 0, .complex .f64 0 0] 46)).alloc (.cells #[.int .i64 8, .string ⟨#[]⟩, .string ⟨#[]⟩, .int .i64 4611686018427387904, .int .i64 0, .int .i64 0, .string ⟨#[]⟩, .slice none 0 0, .slice (some ⟨w6.heap.size + 1 + 1, 0, none⟩) 1 1, .slice none 0 0, .complex .f64 0 0] 46)).alloc (.cells #[.int .i64 8, .string ⟨#[]⟩, .string ⟨#[]⟩, .int .i64 1099511627776, .int .i64 0, .int .i64 0, .string ⟨#[]⟩, .slice none 0 0, .slice (some ⟨w6.heap.size, 0, none⟩) 1 1, .slice none 0 0, .complex .f64 0 0, .int .i64 8, .string ⟨#[]⟩, .string ⟨#[]⟩, .int .i64 1099511627776, .int .i64 0, .int .i64 0, .string ⟨#[]⟩, .slice none 0 0, .slice (some ⟨w6.heap.size, 0, none⟩) 1 1, .slice none 0 0, .complex .f64 0 0] 46)).alloc (.cells #[.int .i64 8, .string ⟨#[]⟩, .string ⟨#[]⟩, .int .i64 (-5), .int .i64 0, .int .i64 0, .string ⟨#[]⟩, .slice none 0 0, .slice (some ⟨w6.heap.size + 1 + 1 + 1 + 1, 0, none⟩) 1 1, .slice none 0 0, .complex .f64 0 0] 46)).alloc (.cells #[.slice (some ⟨w6.heap.size + 1 + 1 + 1 + 1 + 1 + 1, 0, none⟩) 1 1, .slice (some ⟨w6.heap.size + 1 + 1 + 1 + 1 + 1 + 1 + 1, 0, none⟩) 2 2, .slice (some ⟨w6.heap.size + 1 + 1 + 1 + 1 + 1 + 1 + 1 + 1, 0, none⟩) 1 1] 34)) = X := ⟨_, rfl⟩
  have hLK := lay_known (w := w6) rfl rfl rfl rfl rfl rfl rfl rfl rfl hX
  rw [hX]
  clear hX
  have K9 : Hid (Kept w2 X9) := K6.out.then hLK.2
  obtain ⟨f1, f2⟩ := numfit_ok tKs_num
  have HSZ : Hid (Calls Try.prog 18 #[.agg #[.slice none 0 0, .slice (some ⟨w6.heap.size + 1 + 1 + 1 + 1 + 1 + 1 + 1 + 1 + 1, 0, none⟩) 3 3]] X9 fun r w' => ∃ a cap, r = .returned (.slice a 3 cap) ∧ NumsR X9 w' [2147483647, 2147483647, 0] a cap) := by
    have := bsize_any tKs f1 f2 X9 none _ 0 0 3 3 hLK.1
    rw [tKs_szs] at this
    exact this
  clear hLK f1 f2
  refine Calls.mono HSZ.out ?_
  rintro e w10 ⟨aM, cM, rfl, hM⟩
  have HM : Hid _ := hM
  have K10 : Hid (Kept w2 w10) := K9.out.then hM.kept
  clear hM HSZ
  go_wp2_with fail
  refine (KN.out _).mono ?_
  rintro e w11 ⟨rfl, k11⟩
  have K11 : Hid (Kept w w11) := K2.out.then (K10.out.then k11)
  have HM2 := HM.out.up k11
  have HL2 := HL.out.up (K10.out.then k11)
  have lc1 := HL2.le
  have lc2 := HL2.big
  have mc1 := HM2.le
  have mc2 := HM2.big
  obtain ⟨g, rfl, hc⟩ := HL2.first
  have d0 : w11.cell? ⟨g, 0, none⟩ = some (.int .i64 10) := hc 0 (by decide)
  have d1 : w11.cell? ⟨g, 1, none⟩ = some (.int .i64 9) := hc 1 (by decide)
  have d2 : w11.cell? ⟨g, 2, none⟩ = some (.int .i64 15) := hc 2 (by decide)
  have d3 : w11.cell? ⟨g, 3, none⟩ = some (.int .i64 2) := hc 3 (by decide)
  obtain ⟨g', rfl, hc'⟩ := HM2.first
  have m0 : w11.cell? ⟨g', 0, none⟩ = some (.int .i64 2147483647) := hc' 0 (by decide)
  have m1 : w11.cell? ⟨g', 1, none⟩ = some (.int .i64 2147483647) := hc' 1 (by decide)
  have m2 : w11.cell? ⟨g', 2, none⟩ = some (.int .i64 0) := hc' 2 (by decide)
  simp only [List.length_cons, List.length_nil] at lc1 mc1
  have HE : Hid (∀ W, Calls Try.prog 22 #[.agg #[.int .i64 1, .int .i64 0, .string ⟨#[]⟩, .slice none 0 0]] W fun r w' => r = .returned (.int .i64 1) ∧ Kept W w') := fun W => by
    have := bexpr_any (.mk 1 0 ⟨#[]⟩ []) W (.slice none 0 0) (ExsD.nil _ _)
    rw [exN_en] at this
    exact this
  clear hc hc' HL2 HM2 k11
  go_wp2_with fail
  refine (HE.out _).mono ?_
  rintro e w12 ⟨rfl, k12⟩
  have K12 : Hid (Kept w w12) := K11.out.then k12
  clear k12
  go_wp2_with fail
  go_ret
  exact ⟨rfl, K12.out⟩
end Go.Proofs.Ytnfkjmafhaecgaa
