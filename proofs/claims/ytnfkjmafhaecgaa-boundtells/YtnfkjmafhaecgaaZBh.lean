/- Bh -/
import Derived.Test.YtnfkjmafhaecgaaZBg

namespace Go.Proofs.Ytnfkjmafhaecgaa
open Go.RowKit Bn
attribute [local go_sem] run_store_complex
namespace Bn
/-- What is told of the first thread that is too long: its first statement's place. -/
def at0 : List St → Nat × Nat × Int
  | [] => (0, 0, 5)
  | s :: _ => (s.re, s.im, 5)
def lng : List (List St) → Nat × Nat × Int
  | [] => (0, 0, 0)
  | l :: t => if 300 < cap (sns l) then at0 l else lng t
theorem lng_skip (t : List (List St)) (k : Nat) (h : k < t.length) (h3 : ¬ 300 < cap (sns t[k])) : lng (t.drop k) = lng (t.drop (k + 1)) := by
  rw [List.drop_eq_getElem_cons h]; exact if_neg h3
theorem lng_here (t : List (List St)) (k : Nat) (h : k < t.length) (h3 : 300 < cap (sns t[k])) : ∃ h0 : 0 < t[k].length, lng (t.drop k) = (t[k][0].re, t[k][0].im, 5) := by
  rw [List.drop_eq_getElem_cons h, show lng (t[k] :: t.drop (k + 1)) = at0 t[k] from if_pos h3]
  cases e : t[k] with
  | nil => rw [e] at h3; simp [sns, cap] at h3
  | cons s l => exact ⟨by simp, rfl⟩
end Bn
def tellB (x : Nat × Nat × Int) : Ending := .returned (.tuple #[.complex .f64 x.1 x.2.1, .int .i64 x.2.2])
theorem tellB_eq {x : Nat × Nat × Int} {re im : Nat} {e : Int} (h : x = (re, im, e)) : Ending.returned (.tuple #[.complex .f64 re im, .int .i64 e]) = tellB x := by subst h; rfl
set_option maxRecDepth 100000 in
set_option maxHeartbeats 2000000 in
theorem bcheck_any (t : List (List St)) (ht : t.length ≤ 1000000) (hn : ∀ l ∈ t, NumL l) (w : World) (a1 a2 : Option Addr) (n1 q1 n2 q2 : Nat) (hT : TsIn w 0 w.heap.size t (.slice a2 n2 q2)) :
    Calls Try.prog 20 #[.agg #[.slice a1 n1 q1, .slice a2 n2 q2]] w fun r w' => r = tellB (lng t) ∧ Kept w w' := by
  have HT : Hid _ := hT
  obtain ⟨a, c, e, hl, hl2, hcap⟩ := hT.open
  cases e
  have G : Hid (∀ W, Kept w W → Calls Try.prog 18 #[.agg #[.slice a1 n1 q1, .slice a2 t.length q2]] W fun r w' => ∃ a cap, r = .returned (.slice a (szs t).length cap) ∧ NumsR W w' (szs t) a cap) :=
    fun W hW => bsize_any t ht hn W a1 a2 n1 q1 t.length q2 (hT.up (Nat.le_refl _) hW)
  have hsl := szs_len t
  clear hT hn
  go_enter Try.func20, Try.ntmps20
  go_wp2_with fail
  refine (G.out _ ((Kept.refl w).al _)).mono ?_
  rintro r w1 ⟨ar, cp, rfl, hR⟩
  have HR : Hid _ := hR
  clear hR
  have b1 : w1.cell? ⟨w.heap.size, 1, none⟩ = some (.slice a2 t.length q2) := HR.out.kept.cellS (by simp)
  have KW : Hid (Kept w w1) := ((Kept.refl w).al _).then HR.out.kept
  have hrc := HR.out.le
  have hrb := HR.out.big
  clear G
  go_wp2_with fail
  go_loopw [9] (fun i wr => ∃ k : Nat, i = .int .i64 (k : Int) ∧ k ≤ t.length ∧ Hid (lng (t.drop k) = lng t ∧ Kept w1 wr)) (fun i _ => t.length - (intOf i).toNat)
  case atStart => exact ⟨0, rfl, Nat.zero_le _, rfl, Kept.refl _⟩
  case round =>
    obtain ⟨k, rfl, hk, HI⟩ := hrel
    have b1' := HI.out.2.cellS b1
    by_cases hlt : k < t.length
    · have hki : (k : Int) < (t.length : Int) := by omega
      have hks : k < (szs t).length := by omega
      have hki2 : (k : Int) < ((szs t).length : Int) := by omega
      obtain ⟨g, rfl, d0⟩ := HR.out.at_ k hks
      have d0' := HI.out.2.cellS d0
      rw [szs_get] at d0'
      by_cases h3 : 300 < cap (sns t[k])
      · have h3i : ((cap (sns t[k]) : Nat) : Int) > 300 := by omega
        obtain ⟨h0, hlg⟩ := lng_here t k hlt h3
        have HL : Hid (lng t = (t[k][0].re, t[k][0].im, 5)) := by show _ = _; rw [← HI.out.1]; exact hlg
        have hst : Stays 0 w.heap.size w wr := (KW.out.then HI.out.2).stays (Nat.le_refl _)
        obtain ⟨b, o, a3, n3, q3, rfl, _, hb, _, c0, k1⟩ := HT.out.item hst k hlt
        obtain ⟨_, _, e, hl3, hl4, hl5⟩ := k1.open
        cases e
        obtain ⟨b', o', a1', n1', q1', a2', n2', q2', a3', n3', q3', rfl, _, hb', _, e0, e1, e2, e3, e4, e5, e6, e7, e8, e9, e10, _, _, _⟩ := k1.item (wr := wr) (fun _ _ => rfl) 0 h0
        simp only [Nat.zero_mul, Nat.add_zero] at e10
        have h0i : (0 : Int) < (t[k].length : Int) := by omega
        clear hlg k1 e0 e1 e2 e3 e4 e5 e6 e7 e8 e9 hst
        go_wp2_with fail
        go_ret2
        exact ⟨tellB_eq HL.out, KW.out.then HI.out.2⟩
      · have h3i : ¬ ((cap (sns t[k]) : Nat) : Int) > 300 := by omega
        have HL : Hid (lng (t.drop (k + 1)) = lng t) := by show _ = _; rw [← lng_skip t k hlt h3]; exact HI.out.1
        go_wp2_with fail
        go_roundw
        case rel => exact ⟨k + 1, by go_num, by omega, HL.out, HI.out.2⟩
        case measure => simp [intOf]; omega
    · have hki : ¬ (k : Int) < (t.length : Int) := by omega
      have hki2 : ¬ (k : Int) < ((szs t).length : Int) := by omega
      obtain rfl : k = t.length := by omega
      have HL : Hid (lng t = (0, 0, 0)) := by
        have := HI.out.1
        rw [List.drop_length] at this
        exact this.symm
      go_wp2_with fail
      go_ret2
      exact ⟨tellB_eq HL.out, KW.out.then HI.out.2⟩
set_option maxRecDepth 100000 in
set_option maxHeartbeats 2000000 in
theorem rbound_any (t : List (List St)) (ht : t.length ≤ 1000000) (hn : ∀ l ∈ t, NumL l) (w : World) (a1 a2 : Option Addr) (n1 q1 n2 q2 : Nat) (hT : TsIn w 0 w.heap.size t (.slice a2 n2 q2)) :
    Calls Try.prog 24 #[.agg #[.slice a1 n1 q1, .slice a2 n2 q2]] w fun r w' => r = tellB (lng t) ∧ Kept w w' := by
  have HT : Hid _ := hT
  obtain ⟨a, c, e, hl, hl2, hcap⟩ := hT.open
  cases e
  have G : Hid (∀ W, Kept w W → Calls Try.prog 23 #[.agg #[.slice a1 n1 q1, .slice a2 t.length q2]] W fun r w' => ∃ a cap, r = .returned (.slice a (szs t).length cap) ∧ NumsR W w' (szs t) a cap) :=
    fun W hW => rsizes_any t ht hn W a1 a2 n1 q1 t.length q2 (hT.up (Nat.le_refl _) hW)
  have hsl := szs_len t
  clear hT hn
  go_enter Try.func24, Try.ntmps24
  go_wp2_with fail
  refine (G.out _ ((Kept.refl w).al _)).mono ?_
  rintro r w1 ⟨ar, cp, rfl, hR⟩
  have HR : Hid _ := hR
  clear hR
  have b1 : w1.cell? ⟨w.heap.size, 1, none⟩ = some (.slice a2 t.length q2) := HR.out.kept.cellS (by simp)
  have KW : Hid (Kept w w1) := ((Kept.refl w).al _).then HR.out.kept
  have hrc := HR.out.le
  have hrb := HR.out.big
  clear G
  go_wp2_with fail
  go_loopw [5] (fun i wr => ∃ k : Nat, i = .int .i64 (k : Int) ∧ k ≤ t.length ∧ Hid (lng (t.drop k) = lng t ∧ Kept w1 wr)) (fun i _ => t.length - (intOf i).toNat)
  case atStart => exact ⟨0, rfl, Nat.zero_le _, rfl, Kept.refl _⟩
  case round =>
    obtain ⟨k, rfl, hk, HI⟩ := hrel
    have b1' := HI.out.2.cellS b1
    by_cases hlt : k < t.length
    · have hki : (k : Int) < (t.length : Int) := by omega
      have hks : k < (szs t).length := by omega
      have hki2 : (k : Int) < ((szs t).length : Int) := by omega
      obtain ⟨g, rfl, d0⟩ := HR.out.at_ k hks
      have d0' := HI.out.2.cellS d0
      rw [szs_get] at d0'
      by_cases h3 : 300 < cap (sns t[k])
      · have h3i : ((cap (sns t[k]) : Nat) : Int) > 300 := by omega
        obtain ⟨h0, hlg⟩ := lng_here t k hlt h3
        have HL : Hid (lng t = (t[k][0].re, t[k][0].im, 5)) := by show _ = _; rw [← HI.out.1]; exact hlg
        have hst : Stays 0 w.heap.size w wr := (KW.out.then HI.out.2).stays (Nat.le_refl _)
        obtain ⟨b, o, a3, n3, q3, rfl, _, hb, _, c0, k1⟩ := HT.out.item hst k hlt
        obtain ⟨_, _, e, hl3, hl4, hl5⟩ := k1.open
        cases e
        obtain ⟨b', o', a1', n1', q1', a2', n2', q2', a3', n3', q3', rfl, _, hb', _, e0, e1, e2, e3, e4, e5, e6, e7, e8, e9, e10, _, _, _⟩ := k1.item (wr := wr) (fun _ _ => rfl) 0 h0
        simp only [Nat.zero_mul, Nat.add_zero] at e10
        have h0i : (0 : Int) < (t[k].length : Int) := by omega
        clear hlg k1 e0 e1 e2 e3 e4 e5 e6 e7 e8 e9 hst
        go_wp2_with fail
        go_ret2
        exact ⟨tellB_eq HL.out, KW.out.then HI.out.2⟩
      · have h3i : ¬ ((cap (sns t[k]) : Nat) : Int) > 300 := by omega
        have HL : Hid (lng (t.drop (k + 1)) = lng t) := by show _ = _; rw [← lng_skip t k hlt h3]; exact HI.out.1
        go_wp2_with fail
        go_roundw
        case rel => exact ⟨k + 1, by go_num, by omega, HL.out, HI.out.2⟩
        case measure => simp [intOf]; omega
    · have hki : ¬ (k : Int) < (t.length : Int) := by omega
      have hki2 : ¬ (k : Int) < ((szs t).length : Int) := by omega
      obtain rfl : k = t.length := by omega
      have HL : Hid (lng t = (0, 0, 0)) := by
        have := HI.out.1
        rw [List.drop_length] at this
        exact this.symm
      go_wp2_with fail
      go_ret2
      exact ⟨tellB_eq HL.out, KW.out.then HI.out.2⟩
end Go.Proofs.Ytnfkjmafhaecgaa
