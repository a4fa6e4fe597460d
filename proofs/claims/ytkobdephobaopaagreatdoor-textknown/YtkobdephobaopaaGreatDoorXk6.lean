/- TextKnown: chapter 6's example, each line, an else, what is none. -/
import Derived.Test.YtkobdephobaopaaGreatDoorCs6
namespace Go.Proofs.YtkobdephobaopaaGreatDoor
open Go.RowKit
open Ps.Pu (Wr printP)
attribute [local go_sem] run_store_complex

def sW : ByteArray := ⟨#[118, 97, 114, 32, 120, 10, 119, 105, 100, 101, 32, 121, 10, 97, 116, 111, 109, 105, 99, 32, 97, 10, 108, 111, 99, 97, 108, 32, 116, 10, 109, 117, 116, 101, 120, 32, 109, 10, 99, 104, 97, 110, 32, 99, 32, 50, 10, 103, 111, 32, 123, 10, 9, 105, 102, 32, 120, 32, 60, 32, 49, 32, 123, 10, 9, 9, 108, 111, 99, 107, 32, 109, 10, 9, 125, 32, 101, 108, 115, 101, 32, 123, 10, 9, 9, 103, 111, 116, 111, 32, 108, 10, 9, 125, 10, 9, 114, 101, 112, 101, 97, 116, 32, 48, 32, 123, 10, 9, 9, 117, 110, 108, 111, 99, 107, 32, 109, 10, 9, 125, 10, 9, 115, 101, 110, 100, 32, 99, 32, 45, 116, 10, 9, 114, 101, 99, 118, 32, 99, 32, 97, 10, 9, 112, 114, 105, 110, 116, 32, 40, 49, 32, 43, 32, 50, 41, 32, 42, 32, 51, 10, 9, 108, 97, 98, 101, 108, 32, 108, 10, 9, 105, 102, 32, 121, 32, 123, 10, 9, 125, 10, 125, 10, 103, 111, 32, 123, 10, 125, 10]⟩
def dW : List Dc := ((Pp.out sW).1.getD ([], [])).1
def tW : List (List St) := ((Pp.out sW).1.getD ([], [])).2
theorem outW : Pp.out sW = (some (dW, tW), (Pp.out sW).2) := by kernel_rfl
theorem printW : printP dW tW = sW.data.toList := by kernel_rfl
theorem wrW : WrP dW tW := (Ps.Pu.out_said outW (by decide +kernel)).wr
def s1W : St := .mk 2 ⟨#[109]⟩ ⟨#[]⟩ 1 ex0 [] [] 0 0
def s2W : St := .mk 2 ⟨#[109, 32, 120, 32, 61, 32, 49]⟩ ⟨#[]⟩ 0 ex0 [] [] 0 0
def x1W : Dc := ⟨1, ⟨#[120]⟩, 1, 0, 0⟩
theorem print0 : printP [] [] = [] := by kernel_rfl
theorem print1 : printP [] [[s1W]] = [] := by kernel_rfl
theorem print2 : printP [x1W] [[]] = [] := by kernel_rfl
theorem print3 : printP [] [[s2W]] = [] := by kernel_rfl
theorem print4 : printP [] [[]] = [103, 111, 32, 123, 10, 125, 10] := by kernel_rfl
theorem wrs {s : St} (h : s.name.size ≤ 12 ∧ s.other.size ≤ 12 ∧ -9223372036854775808 ≤ s.n ∧ s.n ≤ 9223372036854775807) (he : s.e = ex0) (hb : s.body = []) (hc : s.els = []) : Wr s :=
  .mk s h.1 h.2.1 h.2.2.1 h.2.2.2 (by rw [he]; exact Ps.Pu.fit_ex0) (by rw [he, Ps.Pu.z_ex0]; decide) (by rw [hb]; intro _ h; cases h) (by rw [hc]; intro _ h; cases h)
theorem wr0 : WrP [] [] := by
  refine ⟨?_, by decide, ?_, by decide⟩
  · intro _ h; cases h
  · intro _ h; cases h
theorem wr1 (s : St) (h : Wr s) (hz : s.size ≤ 7000) : WrP [] [[s]] := by
  refine ⟨?_, by simp, ?_, by simp⟩
  · intro _ h; cases h
  · intro b hb
    obtain rfl : b = [s] := by simpa using hb
    refine ⟨fun x hx => ?_, by simpa [St.sizes] using hz⟩
    obtain rfl : x = s := by simpa using hx
    exact h
theorem wrE (d : List Dc) (hd : ∀ x ∈ d, x.name.size ≤ 12 ∧ -9223372036854775808 ≤ x.n ∧ x.n ≤ 9223372036854775807) (hl : d.length ≤ 100) : WrP d [[]] := by
  refine ⟨hd, hl, ?_, by simp⟩
  intro b hb
  obtain rfl : b = [] := by simpa using hb
  refine ⟨?_, by simp [St.sizes]⟩
  intro _ h; cases h
theorem wr2 : WrP [x1W] [[]] := wrE _ (fun x h => by
  obtain rfl : x = x1W := by simpa using h
  exact ⟨by decide, by decide, by decide⟩) (by simp)
theorem wr4 : WrP [] [[]] := wrE _ (fun x h => by cases h) (by simp)

theorem sts_nil' (w : World) (D : Nat → Prop) (a : Option Addr) (cap : Nat) (h : Slc a 0 cap) : StsD w D [] (.slice a 0 cap) :=
  .mk [] a cap (fun _ => .slice none 0 0) (fun _ => .slice none 0 0) (fun _ => .slice none 0 0) h (fun i hi => by simp at hi) (fun i hi => by simp at hi) (fun i hi => by simp at hi) (fun i hi => by simp at hi)
theorem exs_nil' (w : World) (D : Nat → Prop) : ExsD w D [] (.slice none 0 0) :=
  .mk [] none 0 (fun _ => .slice none 0 0) ⟨Nat.le_refl _, Nat.zero_le _, fun _ => rfl⟩ (fun i hi => by simp at hi) (fun i hi => by simp at hi)
theorem slc0 : Slc none 0 0 := ⟨Nat.le_refl _, Nat.zero_le _, fun _ => rfl⟩
theorem slc1 (b n : Nat) (h : n ≤ 1) : Slc (some ⟨b, 0, none⟩) n n := ⟨Nat.le_refl _, by unfold maxLen; omega, fun h => by cases h⟩
theorem row_lit {w : World} {b : Nat} {cs : Array Value} {ty : Nat} (h : w.heap[b]? = some (.cells cs ty)) (n sz : Nat) (hn : n = 1) (c : Nat → List Value) (hc : ∀ (j : Nat) (v : Value), (c 0)[j]? = some v → cs[j]? = some v) : RowAt w (Rng 0 w.heap.size) (some ⟨b, 0, none⟩) n sz c := by
  subst hn
  intro i hi
  obtain rfl : i = 0 := by omega
  refine ⟨b, 0, rfl, ⟨Nat.zero_le _, row_lt h⟩, fun j => frozen_of_row w b j _ _ h, fun j v hv => ?_⟩
  have := row_cell h j
  rw [hc j v hv] at this
  simpa using this
theorem sts_lit {w : World} {b : Nat} (s : St) (h : w.heap[b]? = some (.cells (s.cells (.slice none 0 0) (.slice none 0 0) (.slice none 0 0)).toArray 46)) (he : s.e.of = []) (hb : s.body = []) (hl : s.els = []) : StsIn w 0 w.heap.size [s] (.slice (some ⟨b, 0, none⟩) 1 1) :=
  .mk [s] (some ⟨b, 0, none⟩) 1 (fun _ => .slice none 0 0) (fun _ => .slice none 0 0) (fun _ => .slice none 0 0) (slc1 b 1 (Nat.le_refl _))
    (row_lit h 1 11 rfl _ fun j v hv => by simpa using hv)
    (fun i hi => by obtain rfl : i = 0 := by simpa using hi
                    show ExsD w _ s.e.of _; rw [he]; exact exs_nil' _ _)
    (fun i hi => by obtain rfl : i = 0 := by simpa using hi
                    show StsD w _ s.body _; rw [hb]; exact sts_nil' _ _ _ _ slc0)
    (fun i hi => by obtain rfl : i = 0 := by simpa using hi
                    show StsD w _ s.els _; rw [hl]; exact sts_nil' _ _ _ _ slc0)
theorem ts_lit {w : World} {b : Nat} {l : List St} {v : Value} (h : w.heap[b]? = some (.cells #[v] 38)) (hs : StsIn w 0 w.heap.size l v) : TsIn w 0 w.heap.size [l] (.slice (some ⟨b, 0, none⟩) 1 1) := by
  refine ⟨some ⟨b, 0, none⟩, 1, fun _ => v, rfl, slc1 b 1 (Nat.le_refl _), row_lit h 1 1 rfl _ (fun j u hu => by simpa using hu), fun i hi => ?_⟩
  obtain rfl : i = 0 := by simpa using hi
  exact hs
theorem ds_lit {w : World} {b : Nat} (x : Dc) (h : w.heap[b]? = some (.cells x.cells.toArray 40)) : DsIn w 0 w.heap.size [x] (.slice (some ⟨b, 0, none⟩) 1 1) :=
  ⟨some ⟨b, 0, none⟩, 1, rfl, slc1 b 1 (Nat.le_refl _), row_lit h 1 4 rfl _ fun j v hv => by simpa using hv⟩
theorem ds_nil' (w : World) (D : Nat → Prop) : DsD w D [] (.slice none 0 0) := ⟨none, 0, rfl, slc0, fun i hi => by simp at hi⟩
theorem ts_nil' (w : World) (D : Nat → Prop) : TsD w D [] (.slice none 0 0) := ⟨none, 0, fun _ => .slice none 0 0, rfl, slc0, fun i hi => by simp at hi, fun i hi => by simp at hi⟩
theorem said_print' {d : List Dc} {t : List (List St)} {w w0 : World} {dv tv : Value} (hd : DsIn w 0 w.heap.size d dv) (ht : TsIn w 0 w.heap.size t tv) (hW : WrP d t) (hE : Env w0) (hk : Kept w0 w) (y : List UInt8) (hy : printP d t = y) : ∀ W, Kept w W → Calls Tryz.prog 17 #[.agg #[dv, tv]] W fun e w' => e = .returned (.string (Px.ba y)) ∧ Kept w w' := fun W hW' => by
  have := tprint_any d t W dv tv (hd.up (Nat.le_refl _) hW') (ht.up (Nat.le_refl _) hW') hW (hE.kept (hk.then hW'))
  rw [hy] at this
  exact this.mono fun e w' h => ⟨h.1, hW'.then h.2⟩

set_option maxRecDepth 100000 in
set_option maxHeartbeats 4000000 in
theorem textKnown_row (w : World) (hE : Env w) : Calls Tryz.prog 4 #[] w fun e w' => e = .returned (.bool true) ∧ Kept w w' := by
  obtain ⟨q, hq⟩ : ∃ q, (Pp.out sW).2 = q := ⟨_, rfl⟩
  have ho := outW
  rw [hq] at ho
  have HC := hide (pread_any sW (by decide +kernel) w hE.er _ _ ho)
  have HEE : Hid (Env w) := hE
  clear hE ho hq
  go_enter Tryz.func4, Tryz.ntmps4
  go_wp2_with fail
  refine (unhide HC).mono ?_
  rintro e w1 ⟨a1, n1, q1, a2, n2, q2, X, Y, E, rfl, H⟩
  obtain ⟨hk, -, hv⟩ := unhide H
  obtain ⟨rfl, rfl, rfl, hd, ht⟩ := hv _ _ rfl
  have HD : Hid (DsIn w1 0 w1.heap.size dW (.slice a1 n1 q1) ∧ TsIn w1 0 w1.heap.size tW (.slice a2 n2 q2)) := ⟨hd.mono fun k hk => ⟨Nat.zero_le _, hk.2⟩, ht.mono fun k hk => ⟨Nat.zero_le _, hk.2⟩⟩
  have HK : Hid (Kept w w1) := hk
  clear hk H hv hd ht HC
  go_wp2_with fail
  obtain ⟨V1, h1⟩ : ∃ V, w1.alloc (.cells #[.slice a1 n1 q1, .slice a2 n2 q2] 27) = V := ⟨_, rfl⟩
  obtain ⟨V2, h2⟩ : ∃ V, V1.alloc (.cells #[.slice none 0 0, .slice none 0 0] 27) = V := ⟨_, rfl⟩
  obtain ⟨V3, h3⟩ : ∃ V, V2.alloc (.cells #[.int .i64 2, .string ⟨#[109]⟩, .string ⟨#[]⟩, .int .i64 1, .int .i64 0, .int .i64 0, .string ⟨#[]⟩, .slice none 0 0, .slice none 0 0, .slice none 0 0, .complex .f64 0 0] 46) = V := ⟨_, rfl⟩
  obtain ⟨V4, h4⟩ : ∃ V, V3.alloc (.cells #[.slice (some ⟨w1.heap.size + 1 + 1, 0, none⟩) 1 1] 38) = V := ⟨_, rfl⟩
  obtain ⟨V5, h5⟩ : ∃ V, V4.alloc (.cells #[.slice none 0 0, .slice (some ⟨w1.heap.size + 1 + 1 + 1, 0, none⟩) 1 1] 27) = V := ⟨_, rfl⟩
  obtain ⟨V6, h6⟩ : ∃ V, V5.alloc (.cells #[.int .i64 1, .string ⟨#[120]⟩, .int .i64 1, .complex .f64 0 0] 40) = V := ⟨_, rfl⟩
  obtain ⟨V7, h7⟩ : ∃ V, V6.alloc (.cells #[.slice none 0 0] 38) = V := ⟨_, rfl⟩
  obtain ⟨V8, h8⟩ : ∃ V, V7.alloc (.cells #[.slice (some ⟨w1.heap.size + 1 + 1 + 1 + 1 + 1, 0, none⟩) 1 1, .slice (some ⟨w1.heap.size + 1 + 1 + 1 + 1 + 1 + 1, 0, none⟩) 1 1] 27) = V := ⟨_, rfl⟩
  obtain ⟨V9, h9⟩ : ∃ V, V8.alloc (.cells #[.int .i64 2, .string ⟨#[109, 32, 120, 32, 61, 32, 49]⟩, .string ⟨#[]⟩, .int .i64 0, .int .i64 0, .int .i64 0, .string ⟨#[]⟩, .slice none 0 0, .slice none 0 0, .slice none 0 0, .complex .f64 0 0] 46) = V := ⟨_, rfl⟩
  obtain ⟨V10, h10⟩ : ∃ V, V9.alloc (.cells #[.slice (some ⟨w1.heap.size + 1 + 1 + 1 + 1 + 1 + 1 + 1 + 1, 0, none⟩) 1 1] 38) = V := ⟨_, rfl⟩
  obtain ⟨V11, h11⟩ : ∃ V, V10.alloc (.cells #[.slice none 0 0, .slice (some ⟨w1.heap.size + 1 + 1 + 1 + 1 + 1 + 1 + 1 + 1 + 1, 0, none⟩) 1 1] 27) = V := ⟨_, rfl⟩
  obtain ⟨V12, h12⟩ : ∃ V, V11.alloc (.cells #[] 46) = V := ⟨_, rfl⟩
  obtain ⟨V13, h13⟩ : ∃ V, V12.alloc (.cells #[.slice (some ⟨w1.heap.size + 1 + 1 + 1 + 1 + 1 + 1 + 1 + 1 + 1 + 1 + 1, 0, none⟩) 0 0] 38) = V := ⟨_, rfl⟩
  obtain ⟨V14, h14⟩ : ∃ V, V13.alloc (.cells #[.slice none 0 0, .slice (some ⟨w1.heap.size + 1 + 1 + 1 + 1 + 1 + 1 + 1 + 1 + 1 + 1 + 1 + 1, 0, none⟩) 1 1] 27) = V := ⟨_, rfl⟩
  rw [h1, h2, h3, h4, h5, h6, h7, h8, h9, h10, h11, h12, h13, h14]
  have z1 : V1.heap.size = w1.heap.size + 1 := by rw [← h1, World.size_alloc]
  have z2 : V2.heap.size = w1.heap.size + 1 + 1 := by rw [← h2, World.size_alloc, z1]
  have z3 : V3.heap.size = w1.heap.size + 1 + 1 + 1 := by rw [← h3, World.size_alloc, z2]
  have z4 : V4.heap.size = w1.heap.size + 1 + 1 + 1 + 1 := by rw [← h4, World.size_alloc, z3]
  have z5 : V5.heap.size = w1.heap.size + 1 + 1 + 1 + 1 + 1 := by rw [← h5, World.size_alloc, z4]
  have z6 : V6.heap.size = w1.heap.size + 1 + 1 + 1 + 1 + 1 + 1 := by rw [← h6, World.size_alloc, z5]
  have z7 : V7.heap.size = w1.heap.size + 1 + 1 + 1 + 1 + 1 + 1 + 1 := by rw [← h7, World.size_alloc, z6]
  have z8 : V8.heap.size = w1.heap.size + 1 + 1 + 1 + 1 + 1 + 1 + 1 + 1 := by rw [← h8, World.size_alloc, z7]
  have z9 : V9.heap.size = w1.heap.size + 1 + 1 + 1 + 1 + 1 + 1 + 1 + 1 + 1 := by rw [← h9, World.size_alloc, z8]
  have z10 : V10.heap.size = w1.heap.size + 1 + 1 + 1 + 1 + 1 + 1 + 1 + 1 + 1 + 1 := by rw [← h10, World.size_alloc, z9]
  have z11 : V11.heap.size = w1.heap.size + 1 + 1 + 1 + 1 + 1 + 1 + 1 + 1 + 1 + 1 + 1 := by rw [← h11, World.size_alloc, z10]
  have z12 : V12.heap.size = w1.heap.size + 1 + 1 + 1 + 1 + 1 + 1 + 1 + 1 + 1 + 1 + 1 + 1 := by rw [← h12, World.size_alloc, z11]
  have z13 : V13.heap.size = w1.heap.size + 1 + 1 + 1 + 1 + 1 + 1 + 1 + 1 + 1 + 1 + 1 + 1 + 1 := by rw [← h13, World.size_alloc, z12]
  have z14 : V14.heap.size = w1.heap.size + 1 + 1 + 1 + 1 + 1 + 1 + 1 + 1 + 1 + 1 + 1 + 1 + 1 + 1 := by rw [← h14, World.size_alloc, z13]
  have k1 : Kept w1 V1 := by rw [← h1]; exact (Kept.refl _).al _
  have k2 : Kept V1 V2 := by rw [← h2]; exact (Kept.refl _).al _
  have k3 : Kept V2 V3 := by rw [← h3]; exact (Kept.refl _).al _
  have k4 : Kept V3 V4 := by rw [← h4]; exact (Kept.refl _).al _
  have k5 : Kept V4 V5 := by rw [← h5]; exact (Kept.refl _).al _
  have k6 : Kept V5 V6 := by rw [← h6]; exact (Kept.refl _).al _
  have k7 : Kept V6 V7 := by rw [← h7]; exact (Kept.refl _).al _
  have k8 : Kept V7 V8 := by rw [← h8]; exact (Kept.refl _).al _
  have k9 : Kept V8 V9 := by rw [← h9]; exact (Kept.refl _).al _
  have k10 : Kept V9 V10 := by rw [← h10]; exact (Kept.refl _).al _
  have k11 : Kept V10 V11 := by rw [← h11]; exact (Kept.refl _).al _
  have k12 : Kept V11 V12 := by rw [← h12]; exact (Kept.refl _).al _
  have k13 : Kept V12 V13 := by rw [← h13]; exact (Kept.refl _).al _
  have k14 : Kept V13 V14 := by rw [← h14]; exact (Kept.refl _).al _
  have g14 : Kept V14 V14 := Kept.refl _
  have g13 : Kept V13 V14 := k14.then g14
  have g12 : Kept V12 V14 := k13.then g13
  have g11 : Kept V11 V14 := k12.then g12
  have g10 : Kept V10 V14 := k11.then g11
  have g9 : Kept V9 V14 := k10.then g10
  have g8 : Kept V8 V14 := k9.then g9
  have g7 : Kept V7 V14 := k8.then g8
  have g6 : Kept V6 V14 := k7.then g7
  have g5 : Kept V5 V14 := k6.then g6
  have g4 : Kept V4 V14 := k5.then g5
  have g3 : Kept V3 V14 := k4.then g4
  have g2 : Kept V2 V14 := k3.then g3
  have g1 : Kept V1 V14 := k2.then g2
  have g0 : Kept w1 V14 := k1.then g1
  have b0 : V14.heap[w1.heap.size]? = some (.cells #[.slice a1 n1 q1, .slice a2 n2 q2] 27) := by
    have h : V1.heap[w1.heap.size]? = some (.cells #[.slice a1 n1 q1, .slice a2 n2 q2] 27) := by rw [← h1]; exact heap_alloc_new _ _
    have := (g1.block _ (row_lt h)).trans h
    exact this
  have b1 : V14.heap[w1.heap.size + 1]? = some (.cells #[.slice none 0 0, .slice none 0 0] 27) := by
    have h : V2.heap[V1.heap.size]? = some (.cells #[.slice none 0 0, .slice none 0 0] 27) := by rw [← h2]; exact heap_alloc_new _ _
    have := (g2.block _ (row_lt h)).trans h
    rw [z1] at this; exact this
  have b2 : V14.heap[w1.heap.size + 1 + 1]? = some (.cells #[.int .i64 2, .string ⟨#[109]⟩, .string ⟨#[]⟩, .int .i64 1, .int .i64 0, .int .i64 0, .string ⟨#[]⟩, .slice none 0 0, .slice none 0 0, .slice none 0 0, .complex .f64 0 0] 46) := by
    have h : V3.heap[V2.heap.size]? = some (.cells #[.int .i64 2, .string ⟨#[109]⟩, .string ⟨#[]⟩, .int .i64 1, .int .i64 0, .int .i64 0, .string ⟨#[]⟩, .slice none 0 0, .slice none 0 0, .slice none 0 0, .complex .f64 0 0] 46) := by rw [← h3]; exact heap_alloc_new _ _
    have := (g3.block _ (row_lt h)).trans h
    rw [z2] at this; exact this
  have b3 : V14.heap[w1.heap.size + 1 + 1 + 1]? = some (.cells #[.slice (some ⟨w1.heap.size + 1 + 1, 0, none⟩) 1 1] 38) := by
    have h : V4.heap[V3.heap.size]? = some (.cells #[.slice (some ⟨w1.heap.size + 1 + 1, 0, none⟩) 1 1] 38) := by rw [← h4]; exact heap_alloc_new _ _
    have := (g4.block _ (row_lt h)).trans h
    rw [z3] at this; exact this
  have b4 : V14.heap[w1.heap.size + 1 + 1 + 1 + 1]? = some (.cells #[.slice none 0 0, .slice (some ⟨w1.heap.size + 1 + 1 + 1, 0, none⟩) 1 1] 27) := by
    have h : V5.heap[V4.heap.size]? = some (.cells #[.slice none 0 0, .slice (some ⟨w1.heap.size + 1 + 1 + 1, 0, none⟩) 1 1] 27) := by rw [← h5]; exact heap_alloc_new _ _
    have := (g5.block _ (row_lt h)).trans h
    rw [z4] at this; exact this
  have b5 : V14.heap[w1.heap.size + 1 + 1 + 1 + 1 + 1]? = some (.cells #[.int .i64 1, .string ⟨#[120]⟩, .int .i64 1, .complex .f64 0 0] 40) := by
    have h : V6.heap[V5.heap.size]? = some (.cells #[.int .i64 1, .string ⟨#[120]⟩, .int .i64 1, .complex .f64 0 0] 40) := by rw [← h6]; exact heap_alloc_new _ _
    have := (g6.block _ (row_lt h)).trans h
    rw [z5] at this; exact this
  have b6 : V14.heap[w1.heap.size + 1 + 1 + 1 + 1 + 1 + 1]? = some (.cells #[.slice none 0 0] 38) := by
    have h : V7.heap[V6.heap.size]? = some (.cells #[.slice none 0 0] 38) := by rw [← h7]; exact heap_alloc_new _ _
    have := (g7.block _ (row_lt h)).trans h
    rw [z6] at this; exact this
  have b7 : V14.heap[w1.heap.size + 1 + 1 + 1 + 1 + 1 + 1 + 1]? = some (.cells #[.slice (some ⟨w1.heap.size + 1 + 1 + 1 + 1 + 1, 0, none⟩) 1 1, .slice (some ⟨w1.heap.size + 1 + 1 + 1 + 1 + 1 + 1, 0, none⟩) 1 1] 27) := by
    have h : V8.heap[V7.heap.size]? = some (.cells #[.slice (some ⟨w1.heap.size + 1 + 1 + 1 + 1 + 1, 0, none⟩) 1 1, .slice (some ⟨w1.heap.size + 1 + 1 + 1 + 1 + 1 + 1, 0, none⟩) 1 1] 27) := by rw [← h8]; exact heap_alloc_new _ _
    have := (g8.block _ (row_lt h)).trans h
    rw [z7] at this; exact this
  have b8 : V14.heap[w1.heap.size + 1 + 1 + 1 + 1 + 1 + 1 + 1 + 1]? = some (.cells #[.int .i64 2, .string ⟨#[109, 32, 120, 32, 61, 32, 49]⟩, .string ⟨#[]⟩, .int .i64 0, .int .i64 0, .int .i64 0, .string ⟨#[]⟩, .slice none 0 0, .slice none 0 0, .slice none 0 0, .complex .f64 0 0] 46) := by
    have h : V9.heap[V8.heap.size]? = some (.cells #[.int .i64 2, .string ⟨#[109, 32, 120, 32, 61, 32, 49]⟩, .string ⟨#[]⟩, .int .i64 0, .int .i64 0, .int .i64 0, .string ⟨#[]⟩, .slice none 0 0, .slice none 0 0, .slice none 0 0, .complex .f64 0 0] 46) := by rw [← h9]; exact heap_alloc_new _ _
    have := (g9.block _ (row_lt h)).trans h
    rw [z8] at this; exact this
  have b9 : V14.heap[w1.heap.size + 1 + 1 + 1 + 1 + 1 + 1 + 1 + 1 + 1]? = some (.cells #[.slice (some ⟨w1.heap.size + 1 + 1 + 1 + 1 + 1 + 1 + 1 + 1, 0, none⟩) 1 1] 38) := by
    have h : V10.heap[V9.heap.size]? = some (.cells #[.slice (some ⟨w1.heap.size + 1 + 1 + 1 + 1 + 1 + 1 + 1 + 1, 0, none⟩) 1 1] 38) := by rw [← h10]; exact heap_alloc_new _ _
    have := (g10.block _ (row_lt h)).trans h
    rw [z9] at this; exact this
  have b10 : V14.heap[w1.heap.size + 1 + 1 + 1 + 1 + 1 + 1 + 1 + 1 + 1 + 1]? = some (.cells #[.slice none 0 0, .slice (some ⟨w1.heap.size + 1 + 1 + 1 + 1 + 1 + 1 + 1 + 1 + 1, 0, none⟩) 1 1] 27) := by
    have h : V11.heap[V10.heap.size]? = some (.cells #[.slice none 0 0, .slice (some ⟨w1.heap.size + 1 + 1 + 1 + 1 + 1 + 1 + 1 + 1 + 1, 0, none⟩) 1 1] 27) := by rw [← h11]; exact heap_alloc_new _ _
    have := (g11.block _ (row_lt h)).trans h
    rw [z10] at this; exact this
  have b11 : V14.heap[w1.heap.size + 1 + 1 + 1 + 1 + 1 + 1 + 1 + 1 + 1 + 1 + 1]? = some (.cells #[] 46) := by
    have h : V12.heap[V11.heap.size]? = some (.cells #[] 46) := by rw [← h12]; exact heap_alloc_new _ _
    have := (g12.block _ (row_lt h)).trans h
    rw [z11] at this; exact this
  have b12 : V14.heap[w1.heap.size + 1 + 1 + 1 + 1 + 1 + 1 + 1 + 1 + 1 + 1 + 1 + 1]? = some (.cells #[.slice (some ⟨w1.heap.size + 1 + 1 + 1 + 1 + 1 + 1 + 1 + 1 + 1 + 1 + 1, 0, none⟩) 0 0] 38) := by
    have h : V13.heap[V12.heap.size]? = some (.cells #[.slice (some ⟨w1.heap.size + 1 + 1 + 1 + 1 + 1 + 1 + 1 + 1 + 1 + 1 + 1, 0, none⟩) 0 0] 38) := by rw [← h13]; exact heap_alloc_new _ _
    have := (g13.block _ (row_lt h)).trans h
    rw [z12] at this; exact this
  have b13 : V14.heap[w1.heap.size + 1 + 1 + 1 + 1 + 1 + 1 + 1 + 1 + 1 + 1 + 1 + 1 + 1]? = some (.cells #[.slice none 0 0, .slice (some ⟨w1.heap.size + 1 + 1 + 1 + 1 + 1 + 1 + 1 + 1 + 1 + 1 + 1 + 1, 0, none⟩) 1 1] 27) := by
    have h : V14.heap[V13.heap.size]? = some (.cells #[.slice none 0 0, .slice (some ⟨w1.heap.size + 1 + 1 + 1 + 1 + 1 + 1 + 1 + 1 + 1 + 1 + 1 + 1, 0, none⟩) 1 1] 27) := by rw [← h14]; exact heap_alloc_new _ _
    have := (g14.block _ (row_lt h)).trans h
    rw [z13] at this; exact this
  have HG0 : Hid (Kept w1 V14) := g0
  have HDW : Hid (DsIn V14 0 V14.heap.size dW (.slice a1 n1 q1) ∧ TsIn V14 0 V14.heap.size tW (.slice a2 n2 q2)) := ⟨HD.out.1.up (Nat.le_refl _) g0, HD.out.2.up (Nat.le_refl _) g0⟩
  clear HD
  clear h1 z1 k1 g1 h2 z2 k2 g2 h3 z3 k3 g3 h4 z4 k4 g4 h5 z5 k5 g5 h6 z6 k6 g6 h7 z7 k7 g7 h8 z8 k8 g8 h9 z9 k9 g9 h10 z10 k10 g10 h11 z11 k11 g11 h12 z12 k12 g12 h13 z13 k13 g13 h14 z14 k14 g14 g0
  generalize V14 = W at *
  generalize w1.heap.size + 1 + 1 + 1 + 1 + 1 + 1 + 1 + 1 + 1 + 1 + 1 + 1 + 1 = B13 at *
  generalize w1.heap.size + 1 + 1 + 1 + 1 + 1 + 1 + 1 + 1 + 1 + 1 + 1 + 1 = B12 at *
  generalize w1.heap.size + 1 + 1 + 1 + 1 + 1 + 1 + 1 + 1 + 1 + 1 + 1 = B11 at *
  generalize w1.heap.size + 1 + 1 + 1 + 1 + 1 + 1 + 1 + 1 + 1 + 1 = B10 at *
  generalize w1.heap.size + 1 + 1 + 1 + 1 + 1 + 1 + 1 + 1 + 1 = B9 at *
  generalize w1.heap.size + 1 + 1 + 1 + 1 + 1 + 1 + 1 + 1 = B8 at *
  generalize w1.heap.size + 1 + 1 + 1 + 1 + 1 + 1 + 1 = B7 at *
  generalize w1.heap.size + 1 + 1 + 1 + 1 + 1 + 1 = B6 at *
  generalize w1.heap.size + 1 + 1 + 1 + 1 + 1 = B5 at *
  generalize w1.heap.size + 1 + 1 + 1 + 1 = B4 at *
  generalize w1.heap.size + 1 + 1 + 1 = B3 at *
  generalize w1.heap.size + 1 + 1 = B2 at *
  generalize w1.heap.size + 1 = B1 at *
  generalize w1.heap.size = B0 at *
  have HKW : Hid (Kept w W) := HK.out.then HG0.out
  have SS : Hid (∀ w', Kept W w' → w'.cell? ⟨B0, 0, none⟩ = some (.slice a1 n1 q1) ∧ w'.cell? ⟨B0, 1, none⟩ = some (.slice a2 n2 q2) ∧ w'.cell? ⟨B1, 0, none⟩ = some (.slice none 0 0) ∧ w'.cell? ⟨B1, 1, none⟩ = some (.slice none 0 0) ∧ w'.cell? ⟨B4, 0, none⟩ = some (.slice none 0 0) ∧ w'.cell? ⟨B4, 1, none⟩ = some (.slice (some ⟨B3, 0, none⟩) 1 1) ∧
    w'.cell? ⟨B7, 0, none⟩ = some (.slice (some ⟨B5, 0, none⟩) 1 1) ∧ w'.cell? ⟨B7, 1, none⟩ = some (.slice (some ⟨B6, 0, none⟩) 1 1) ∧ w'.cell? ⟨B10, 0, none⟩ = some (.slice none 0 0) ∧ w'.cell? ⟨B10, 1, none⟩ = some (.slice (some ⟨B9, 0, none⟩) 1 1) ∧ w'.cell? ⟨B13, 0, none⟩ = some (.slice none 0 0) ∧ w'.cell? ⟨B13, 1, none⟩ = some (.slice (some ⟨B12, 0, none⟩) 1 1)) :=
    fun w' K => ⟨K.cellS (row_cell b0 0), K.cellS (row_cell b0 1), K.cellS (row_cell b1 0), K.cellS (row_cell b1 1), K.cellS (row_cell b4 0), K.cellS (row_cell b4 1), K.cellS (row_cell b7 0), K.cellS (row_cell b7 1), K.cellS (row_cell b10 0), K.cellS (row_cell b10 1), K.cellS (row_cell b13 0), K.cellS (row_cell b13 1)⟩
  have P0 : Hid _ := said_print' HDW.out.1 HDW.out.2 wrW HEE.out HKW.out _ printW
  have P1 : Hid _ := said_print' (w := W) (ds_nil' _ _) (ts_nil' _ _) wr0 HEE.out HKW.out _ print0
  have P1r : Hid (∀ V, Kept W V → Calls Tryz.prog 18 #[.agg #[.slice none 0 0, .slice none 0 0]] V fun e w' => e = .returned (.bool false) ∧ Kept W w') := fun V hV => (tright_any [] [] V _ _ (ds_nil' _ _) (ts_nil' _ _) wr0 (HEE.out.kept (HKW.out.then hV)) false (by rw [print0]; rfl)).mono fun e w' h => ⟨h.1, hV.then h.2⟩
  have P2 : Hid _ := said_print' (ds_nil' _ _) (ts_lit b3 (sts_lit s1W b2 rfl rfl rfl)) (wr1 s1W (wrs ⟨by decide, by decide, by decide, by decide⟩ rfl rfl rfl) (by decide)) HEE.out HKW.out _ print1
  have P3 : Hid _ := said_print' (ds_lit x1W b5) (ts_lit b6 (sts_nil' _ _ _ _ slc0)) wr2 HEE.out HKW.out _ print2
  have P4 : Hid _ := said_print' (ds_nil' _ _) (ts_lit b9 (sts_lit s2W b8 rfl rfl rfl)) (wr1 s2W (wrs ⟨by decide, by decide, by decide, by decide⟩ rfl rfl rfl) (by decide)) HEE.out HKW.out _ print3
  have P5 : Hid _ := said_print' (ds_nil' _ _) (ts_lit b12 (sts_nil' _ _ _ _ (slc1 B11 0 (by decide)))) wr4 HEE.out HKW.out _ print4
  have KN : Hid (∀ V, Kept W V → Calls Tryz.prog 16 #[] V fun e w' => e = .returned (.bool true) ∧ Kept W w') := fun V hV => (known6_any V (HEE.out.kept (HKW.out.then hV))).mono fun e w' h => ⟨h.1, hV.then h.2⟩
  have hemp : ((Px.ba []).toList == ([] : List UInt8)) = true := by rw [toList_data]; rfl
  have hgo : ((Px.ba [103, 111, 32, 123, 10, 125, 10]).toList == [103, 111, 32, 123, 10, 125, 10]) = true := by rw [toList_data]; rfl
  have hsw : ((Px.ba sW.data.toList).toList == sW.toList) = true := by rw [toList_data, toList_data]; exact beq_self_eq_true _
  clear b0 b1 b2 b3 b4 b5 b6 b7 b8 b9 b10 b11 b12 b13 HDW HEE
  generalize hE0 : Px.ba [] = E0 at *
  generalize hE1 : Px.ba [103, 111, 32, 123, 10, 125, 10] = E1 at *
  generalize hE2 : Px.ba sW.data.toList = E2 at *
  clear hE0 hE1 hE2
  rw [show (⟨#[118, 97, 114, 32, 120, 10, 119, 105, 100, 101, 32, 121, 10, 97, 116, 111, 109, 105, 99, 32, 97, 10, 108, 111, 99, 97, 108, 32, 116, 10, 109, 117, 116, 101, 120, 32, 109, 10, 99, 104, 97, 110, 32, 99, 32, 50, 10, 103, 111, 32, 123, 10, 9, 105, 102, 32, 120, 32, 60, 32, 49, 32, 123, 10, 9, 9, 108, 111, 99, 107, 32, 109, 10, 9, 125, 32, 101, 108, 115, 101, 32, 123, 10, 9, 9, 103, 111, 116, 111, 32, 108, 10, 9, 125, 10, 9, 114, 101, 112, 101, 97, 116, 32, 48, 32, 123, 10, 9, 9, 117, 110, 108, 111, 99, 107, 32, 109, 10, 9, 125, 10, 9, 115, 101, 110, 100, 32, 99, 32, 45, 116, 10, 9, 114, 101, 99, 118, 32, 99, 32, 97, 10, 9, 112, 114, 105, 110, 116, 32, 40, 49, 32, 43, 32, 50, 41, 32, 42, 32, 51, 10, 9, 108, 97, 98, 101, 108, 32, 108, 10, 9, 105, 102, 32, 121, 32, 123, 10, 9, 125, 10, 125, 10, 103, 111, 32, 123, 10, 125, 10]⟩ : ByteArray) = sW from rfl]
  generalize sW = SW at *
  refine (KN.out _ (Kept.refl _)).mono ?_
  rintro e w2 ⟨rfl, k2⟩
  obtain ⟨p0, p1, -⟩ := SS.out _ k2
  have HK2 : Hid (Kept W w2) := k2
  clear k2
  go_wp2_with fail
  refine (P0.out _ HK2.out).mono ?_
  rintro e w3 ⟨rfl, k3⟩
  obtain ⟨-, -, p2, p3, -⟩ := SS.out _ k3
  have HK3 : Hid (Kept W w3) := k3
  clear k3 p0 p1
  go_wp2_with fail
  refine (P1.out _ HK3.out).mono ?_
  rintro e w4 ⟨rfl, k4⟩
  obtain ⟨-, -, p2, p3, -⟩ := SS.out _ k4
  have HK4 : Hid (Kept W w4) := k4
  clear k4
  go_wp2_with fail
  refine (P1r.out _ HK4.out).mono ?_
  rintro e w5 ⟨rfl, k5⟩
  obtain ⟨-, -, -, -, p4, p5, -⟩ := SS.out _ k5
  have HK5 : Hid (Kept W w5) := k5
  clear k5
  go_wp2_with fail
  refine (P2.out _ HK5.out).mono ?_
  rintro e w6 ⟨rfl, k6⟩
  obtain ⟨-, -, -, -, -, -, p6, p7, -⟩ := SS.out _ k6
  have HK6 : Hid (Kept W w6) := k6
  clear k6
  go_wp2_with fail
  refine (P3.out _ HK6.out).mono ?_
  rintro e w7 ⟨rfl, k7⟩
  obtain ⟨-, -, -, -, -, -, -, -, p8, p9, -⟩ := SS.out _ k7
  have HK7 : Hid (Kept W w7) := k7
  clear k7
  go_wp2_with fail
  refine (P4.out _ HK7.out).mono ?_
  rintro e w8 ⟨rfl, k8⟩
  obtain ⟨-, -, -, -, -, -, -, -, -, -, p10, p11⟩ := SS.out _ k8
  have HK8 : Hid (Kept W w8) := k8
  clear k8
  go_wp2_with fail
  refine (P5.out _ HK8.out).mono ?_
  rintro e w9 ⟨rfl, k9⟩
  have HF : Hid (Kept w w9) := HKW.out.then k9
  clear k9
  go_wp2_with fail
  go_ret
  exact ⟨rfl, HF.out⟩
#print axioms textKnown_row
end Go.Proofs.YtkobdephobaopaaGreatDoor
