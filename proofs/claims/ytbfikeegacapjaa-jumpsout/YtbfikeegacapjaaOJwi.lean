/- Jwi -/
import Derived.Test.YtbfikeegacapjaaOTr9
import Derived.Test.YtbfikeegacapjaaONh
import Derived.Deep.LoopGhost
import Derived.Deep.CutBlock
import Derived.Deep.DeepCutAuto

namespace Go.Proofs.Ytbfikeegacapjaa
open Go.RowKit
attribute [local go_sem] run_store_complex
def PWi (s : St) : Prop := ∀ (w : World) (hi : Nat) (ev bv lv : Value), hi ≤ w.heap.size → ExsIn w 0 hi s.e.of ev → StsIn w 0 hi s.body bv → StsIn w 0 hi s.els lv → s.size ≤ 1073741824 →
  Calls Try.prog 25 #[s.val ev bv lv] w fun e w' => e = .returned (.int .i64 ((s.size : Int) - 1)) ∧ Kept w w'
set_option maxRecDepth 100000 in
set_option maxHeartbeats 1000000 in
theorem lwithin_of (s : St) (H1 : ∀ x ∈ s.body, PWi x) (H2 : ∀ x ∈ s.els, PWi x) : PWi s := by
  intro w hi ev bv lv hh he hb hl hn
  have HB : Hid (StsIn w 0 hi s.body bv) := hb
  have HL : Hid (StsIn w 0 hi s.els lv) := hl
  have I1 : Hid (∀ x ∈ s.body, PWi x) := H1
  have I2 : Hid (∀ x ∈ s.els, PWi x) := H2
  obtain ⟨a1, n1, q1, rfl⟩ := he.form
  obtain ⟨a2, q2, rfl, hb1, -, -⟩ := hb.open
  obtain ⟨a3, q3, rfl, hl1, -, -⟩ := hl.open
  have HN : Hid (s.size = 1 + (St.sizes s.body + St.sizes s.els) ∧ s.size ≤ 1073741824 ∧ hi ≤ w.heap.size) := ⟨St.size_eq s, hn, hh⟩
  clear he hb hl hn hh H1 H2
  unfold St.val
  go_enter Try.func25, Try.ntmps25
  go_upto_region 2 with fail
  obtain ⟨W0, hW0⟩ : ∃ W, w.alloc (.cells #[.int .i64 s.kind, .string s.name, .string s.other, .int .i64 s.n, .int .i64 s.e.kind, .int .i64 s.e.n, .string s.e.name, .slice a1 n1 q1, .slice a2 s.body.length q2, .slice a3 s.els.length q3, .complex .f64 s.re s.im] 55) = W := ⟨_, rfl⟩
  obtain ⟨P, hP⟩ : ∃ P, w.heap.size = P := ⟨_, rfl⟩
  have K0 : Hid (Kept w W0) := by rw [← hW0]; exact (Kept.refl _).al _
  have p8 : W0.cell? ⟨P, 8, none⟩ = some (.slice a2 s.body.length q2) := by rw [← hW0, ← hP]; simp
  have p9 : W0.cell? ⟨P, 9, none⟩ = some (.slice a3 s.els.length q3) := by rw [← hW0, ← hP]; simp
  have HP9 : Hid (W0.cell? ⟨P, 9, none⟩ = some (.slice a3 s.els.length q3)) := p9
  rw [hW0, hP]
  clear hW0 hP p9
  go_wp2_with fail
  go_loopw [3, 11] (fun nv i wr => ∃ k : Nat, i = .int .i64 (k : Int) ∧ k ≤ s.body.length ∧ nv = .int .i64 (St.sizes (s.body.take k) : Int) ∧ Hid (Kept W0 wr)) (fun _ i _ => s.body.length - (intOf i).toNat)
  case atStart => exact ⟨0, rfl, Nat.zero_le _, rfl, Kept.refl _⟩
  case round =>
    obtain ⟨k, rfl, hk, rfl, HI⟩ := hrel
    by_cases hlt : k < s.body.length
    · have hki : (k : Int) < (s.body.length : Int) := by omega
      obtain ⟨b, o, ea, en, eq, ba, bn, bq, la, ln, lq, rfl, _, hbb, _, c0, c1, c2, c3, c4, c5, c6, c7, c8, c9, c10, k1, k2, k3⟩ := HB.out.item ((K0.out.then HI.out).stays HN.out.2.2) k hlt
      have hz := (K0.out.then HI.out).size
      have hst : St.sizes (s.body.take (k + 1)) = St.sizes (s.body.take k) + s.body[k].size := by rw [St.sizes_take s.body k hlt, St.size_eq s.body[k]]
      have hle := St.sizes_take_le s.body (k + 1)
      have hbw : b < wr.heap.size := by have := HN.out; omega
      have hpos := St.size_pos s.body[k]
      have P1 : Hid (∀ W, Kept wr W → Calls Try.prog 25 #[.agg #[.int .i64 s.body[k].kind, .string s.body[k].name, .string s.body[k].other, .int .i64 s.body[k].n, .int .i64 s.body[k].e.kind, .int .i64 s.body[k].e.n, .string s.body[k].e.name, .slice ea en eq, .slice ba bn bq, .slice la ln lq, .complex .f64 s.body[k].re s.body[k].im]] W fun e w' => e = .returned (.int .i64 ((s.body[k].size : Int) - 1)) ∧ Kept W w') := fun W hW => by
        have hst2 : StaysD (Rng 0 hi) wr W := hW.stays (by have := HN.out; omega)
        exact I1.out _ (List.getElem_mem hlt) W hi _ _ _ (by have := HN.out; have := hW.size; omega) (k1.stays hst2) (k2.stays hst2) (k3.stays hst2) (by have := HN.out; omega)
      have HSZ : Hid (St.sizes (s.body.take (k + 1)) = St.sizes (s.body.take k) + s.body[k].size ∧ St.sizes (s.body.take (k + 1)) ≤ 1073741824 ∧ 1 ≤ s.body[k].size) := ⟨hst, by have := HN.out; omega, hpos⟩
      have w1 : IntKind.i64.wrap ((St.sizes (s.body.take k) : Int) + 1) = (St.sizes (s.body.take k) : Int) + 1 := by rw [IntKind.wrap_i64]; have := HSZ.out; omega
      have w2 : IntKind.i64.wrap ((St.sizes (s.body.take k) : Int) + 1 + ((s.body[k].size : Int) - 1)) = (St.sizes (s.body.take (k + 1)) : Int) := by rw [IntKind.wrap_i64]; have := HSZ.out; omega
      clear k1 k2 k3 hst hle hz hpos
      generalize St.sizes (s.body.take k) = m at *
      generalize s.body[k] = x at *
      go_wp2_with fail
      refine (P1.out _ ((Kept.refl _).al _)).mono ?_
      rintro e w5 ⟨rfl, k5⟩
      have HK5 : Hid (Kept W0 w5) := (HI.out.al _).then k5
      clear k5
      go_wp2_with fail
      go_roundw
      case rel => exact ⟨k + 1, by go_num, by omega, rfl, HK5⟩
      case measure => simp [intOf]; omega
    · have hki : ¬ (k : Int) < (s.body.length : Int) := by omega
      have hall : St.sizes (s.body.take k) = St.sizes s.body := by rw [List.take_of_length_le (by omega)]
      rw [hall]
      have p9 : wr.cell? ⟨P, 9, none⟩ = some (.slice a3 s.els.length q3) := HI.out.cellS HP9.out
      have pl := block_lt_of_cell p9
      have HI0 : Hid (Kept W0 wr) := HI
      clear hall p8 hlt hk
      go_wp2_with fail
      clear p9 pl
      go_loopw [3, 24] (fun nv i wq => ∃ k : Nat, i = .int .i64 (k : Int) ∧ k ≤ s.els.length ∧ nv = .int .i64 ((St.sizes s.body + St.sizes (s.els.take k) : Nat) : Int) ∧ Hid (Kept W0 wq)) (fun _ i _ => s.els.length - (intOf i).toNat)
      case atStart => exact ⟨0, rfl, Nat.zero_le _, rfl, HI0⟩
      case round =>
        obtain ⟨k, rfl, hk, rfl, HI⟩ := hrel
        by_cases hlt : k < s.els.length
        · have hki : (k : Int) < (s.els.length : Int) := by omega
          obtain ⟨b, o, ea, en, eq, ba, bn, bq, la, ln, lq, rfl, _, hbb, _, c0, c1, c2, c3, c4, c5, c6, c7, c8, c9, c10, k1, k2, k3⟩ := HL.out.item ((K0.out.then HI.out).stays HN.out.2.2) k hlt
          have hz := (K0.out.then HI.out).size
          have hst : St.sizes (s.els.take (k + 1)) = St.sizes (s.els.take k) + s.els[k].size := by rw [St.sizes_take s.els k hlt, St.size_eq s.els[k]]
          have hle := St.sizes_take_le s.els (k + 1)
          have hbw : b < wr.heap.size := by have := HN.out; omega
          have hpos := St.size_pos s.els[k]
          have P1 : Hid (∀ W, Kept wr W → Calls Try.prog 25 #[.agg #[.int .i64 s.els[k].kind, .string s.els[k].name, .string s.els[k].other, .int .i64 s.els[k].n, .int .i64 s.els[k].e.kind, .int .i64 s.els[k].e.n, .string s.els[k].e.name, .slice ea en eq, .slice ba bn bq, .slice la ln lq, .complex .f64 s.els[k].re s.els[k].im]] W fun e w' => e = .returned (.int .i64 ((s.els[k].size : Int) - 1)) ∧ Kept W w') := fun W hW => by
            have hst2 : StaysD (Rng 0 hi) wr W := hW.stays (by have := HN.out; omega)
            exact I2.out _ (List.getElem_mem hlt) W hi _ _ _ (by have := HN.out; have := hW.size; omega) (k1.stays hst2) (k2.stays hst2) (k3.stays hst2) (by have := HN.out; omega)
          obtain ⟨m, hm⟩ : ∃ m, St.sizes s.body + St.sizes (s.els.take k) = m := ⟨_, rfl⟩
          have HSZ : Hid (St.sizes s.body + St.sizes (s.els.take (k + 1)) = m + s.els[k].size ∧ m + s.els[k].size ≤ 1073741824 ∧ 1 ≤ s.els[k].size) := ⟨by omega, by have := HN.out; omega, hpos⟩
          rw [hm]
          have w1 : IntKind.i64.wrap ((m : Int) + 1) = (m : Int) + 1 := by rw [IntKind.wrap_i64]; have := HSZ.out; omega
          have w2 : IntKind.i64.wrap ((m : Int) + 1 + ((s.els[k].size : Int) - 1)) = ((St.sizes s.body + St.sizes (s.els.take (k + 1)) : Nat) : Int) := by rw [IntKind.wrap_i64]; have := HSZ.out; omega
          clear k1 k2 k3 hst hle hz hpos hm
          generalize s.els[k] = x at *
          go_wp2_with fail
          refine (P1.out _ ((Kept.refl _).al _)).mono ?_
          rintro e w5 ⟨rfl, k5⟩
          have HK5 : Hid (Kept W0 w5) := (HI.out.al _).then k5
          clear k5
          go_wp2_with fail
          go_roundw
          case rel => exact ⟨k + 1, by go_num, by omega, rfl, HK5⟩
          case measure => simp [intOf]; omega
        · have hki : ¬ (k : Int) < (s.els.length : Int) := by omega
          have hall : ((St.sizes s.body + St.sizes (s.els.take k) : Nat) : Int) = (s.size : Int) - 1 := by rw [List.take_of_length_le (by omega)]; have := HN.out; omega
          rw [hall]
          have HK : Hid (Kept w wr) := K0.out.then HI.out
          clear hall
          go_wp2_with fail
          go_ret
          exact ⟨rfl, HK.out⟩
theorem lwithin_any (s : St) : PWi s := St.ind (P := PWi) (fun s hb hl => lwithin_of s hb hl) s
end Go.Proofs.Ytbfikeegacapjaa
