/- Jk -/
import Derived.Test.YtnfkjmafhaecgaaYQb
import Derived.Test.YtnfkjmafhaecgaaYJt
import Derived.Test.YtnfkjmafhaecgaaYJc
import Derived.Test.YtnfkjmafhaecgaaYWD

namespace Go.Proofs.Ytnfkjmafhaecgaa
open Go.RowKit Jf
attribute [local go_sem] run_store_complex
set_option maxRecDepth 100000 in
set_option maxHeartbeats 1000000 in
theorem read9_any (s : ByteArray) (hs : s.size ≤ 1125899906842624) (w : World) (d : List Dc) (t : List (List St)) (q : Nat) (hr : Pp.out s = (some (d, t), q)) :
    Calls Try.prog 17 #[.string s] w fun e w' => ∃ (a1 : Option Addr) (n1 q1 : Nat) (a2 : Option Addr) (n2 q2 : Nat), e = .returned (.agg #[.slice a1 n1 q1, .slice a2 n2 q2]) ∧ Hid (Kept w w' ∧ DsIn w' w.heap.size w'.heap.size d (.slice a1 n1 q1) ∧ TsIn w' w.heap.size w'.heap.size t (.slice a2 n2 q2) ∧ OwnD w' w.heap.size d (.slice a1 n1 q1)) := by
  have RP : Hid (Calls Try.prog 37 #[.string s] (Wz w) fun e w' => GotQ (Wz w) (some (d, t)) q e w') := rparse_any s hs (Wz w) _ _ hr
  clear hs hr
  go_enter Try.func17, Try.ntmps17
  go_wp2_with fail
  refine Calls.mono RP.out ?_
  rintro e w1 ⟨a1, n1, q1, a2, n2, q2, Q, E, rfl, H⟩
  obtain ⟨rfl, rfl, hd, ht, ho⟩ := H.out.2.2 _ _ rfl
  have HK : Hid (Kept (Wz w) w1) := H.out.1
  have HDT : Hid (DsIn w1 (Wz w).heap.size w1.heap.size d (.slice a1 n1 q1) ∧ TsIn w1 (Wz w).heap.size w1.heap.size t (.slice a2 n2 q2) ∧ OwnD w1 (Wz w).heap.size d (.slice a1 n1 q1)) := ⟨hd, ht, ho⟩
  have hbx : BoxS w1 w.heap.size [.slice none 0 0, .slice none 0 0] := (Wz_box w).kept HK.out
  have HBX : Hid (BoxS w1 w.heap.size [.slice none 0 0, .slice none 0 0]) := hbx
  have s0 := hbx.cell 0 rfl
  have s1 := hbx.cell 1 rfl
  have sf0 := hbx.fz 0
  have sf1 := hbx.fz 1
  have hrl := hbx.lt
  clear hd ht ho H hbx
  go_wp2_with fail
  obtain ⟨Wf, hWf⟩ : ∃ Wf, (w1.setCells w.heap.size 0 [.slice a1 n1 q1, .slice a2 n2 q2]).alloc (.cells #[.slice a1 n1 q1, .slice a2 n2 q2] 27) = Wf := ⟨_, rfl⟩
  have kk : Kept (w1.setCells w.heap.size 0 [.slice a1 n1 q1, .slice a2 n2 q2]) Wf := by rw [← hWf]; exact (Kept.refl _).al _
  have hs2 : (w1.setCells w.heap.size 0 [.slice a1 n1 q1, .slice a2 n2 q2]).heap.size = w1.heap.size := size_setCells ..
  have hzw := Wz_size w
  have st : StaysD (Rng (Wz w).heap.size w1.heap.size) w1 Wf := fun j hj => (kk.block j (by rw [hs2]; exact hj.2)).trans (heap_setCells _ _ _ _ j (by have := hj.1; omega))
  have hszf : w1.heap.size ≤ Wf.heap.size := by have := kk.size; omega
  have hkf : Kept w Wf := Kept.then (b := w1.setCells w.heap.size 0 [.slice a1 n1 q1, .slice a2 n2 q2]) (Below.setCells ((Wz_kept w).then HK.out) (Nat.le_refl _) _ _) kk
  have hrg : Wf.rangeAt w.heap.size 0 [.slice a1 n1 q1, .slice a2 n2 q2] := fun j v hv => kk.cellS (World.rangeAt_setCells_same _ _ _ _ (HBX.out.there 0 2 (by decide)) j v hv)
  have hfin : ∃ (b1 : Option Addr) (m1 p1 : Nat) (b2 : Option Addr) (m2 p2 : Nat), Ending.returned (.agg #[.slice a1 n1 q1, .slice a2 n2 q2]) = .returned (.agg #[.slice b1 m1 p1, .slice b2 m2 p2]) ∧ Hid (Kept w Wf ∧ DsIn Wf w.heap.size Wf.heap.size d (.slice b1 m1 p1) ∧ TsIn Wf w.heap.size Wf.heap.size t (.slice b2 m2 p2) ∧ OwnD Wf w.heap.size d (.slice b1 m1 p1)) :=
    ⟨a1, n1, q1, a2, n2, q2, rfl, hkf, (HDT.out.1.stays st).mono (Rng.up (by omega) hszf), (HDT.out.2.1.stays st).mono (Rng.up (by omega) hszf), ((HDT.out.2.2.bu (M := (· = w.heap.size)) (Bu.sets (M := (· = w.heap.size)) (Bu.refl _ _) (.inl rfl) 0 [.slice a1 n1 q1, .slice a2 n2 q2]) (fun k hk _ e => by omega)).bu (M := fun _ => False) (Bu.of kk) fun _ _ _ c => c).lower (by omega)⟩
  rw [← hWf] at hfin hrg
  exact bodyPost_ret (results_cell_mid (P := Try.prog) Try.results17 _ _ w.heap.size 0 [.slice a1 n1 q1, .slice a2 n2 q2] _ rfl hrg Try.underlying27 rfl esizePr) rfl hfin
/-- What is small enough to be held right. -/
def jfit (t : List (List St)) : Bool := decide (tsz t ≤ 1073741824) && (flatTs t).all fun s => decide (s.name.size ≤ 1000)
theorem jfit_ok {t : List (List St)} (h : jfit t = true) : tsz t ≤ 1073741824 ∧ ∀ s ∈ flatTs t, s.name.size ≤ maxLen := by
  unfold jfit at h
  simp only [Bool.and_eq_true, List.all_eq_true, decide_eq_true_eq] at h
  exact ⟨h.1, fun s hs => by have := h.2 s hs; unfold maxLen; omega⟩
/-- What Check tells of a text that is read; the Gotos and Labels. -/
def ckJ (s : ByteArray) : Option (Option (Nat × Nat) × List Sp) := match (Pp.out s).1 with
  | some (_, t) => if jfit t = true then some (chk (spt t 0 0), spt t 0 0) else none
  | none => none
theorem read9_check (s : ByteArray) (hs : s.size ≤ 1125899906842624) (r : Option (Nat × Nat)) (l : List Sp) (h : ckJ s = some (r, l)) (w : World) :
    Calls Try.prog 17 #[.string s] w fun e w1 => ∃ (a1 : Option Addr) (n1 q1 : Nat) (a2 : Option Addr) (n2 q2 : Nat), e = .returned (.agg #[.slice a1 n1 q1, .slice a2 n2 q2]) ∧ Hid (Kept w w1 ∧ (∀ W, Kept w1 W → Calls Try.prog 10 #[.agg #[.slice a1 n1 q1, .slice a2 n2 q2]] W fun e w' => e = .returned (Jf.told r) ∧ Kept W w') ∧
      (∀ W, Kept w1 W → ∀ i : Int, Calls Try.prog 13 #[.agg #[.slice a1 n1 q1, .slice a2 n2 q2], .int .i64 i] W fun e w' => e = .returned (.int .i64 (starg l i)) ∧ Kept W w')) := by
  obtain ⟨o, q, ho⟩ : ∃ o q, Pp.out s = (o, q) := ⟨_, _, rfl⟩
  unfold ckJ at h
  rw [ho] at h
  cases o with
  | none => cases h
  | some p =>
    obtain ⟨d, t⟩ := p
    simp only at h
    split at h
    · rename_i hf
      injection h with h
      injection h with h1 h2
      obtain ⟨f1, f2⟩ := jfit_ok hf
      refine (read9_any s hs w d t q ho).mono ?_
      rintro e w1 ⟨a1, n1, q1, a2, n2, q2, rfl, H⟩
      refine ⟨a1, n1, q1, a2, n2, q2, rfl, H.out.1, fun W hW => ?_, fun W hW i => ?_⟩
      · rw [← h1]
        exact jcheck_any d t W _ _ (H.out.2.1.up (Nat.le_refl _) hW) (H.out.2.2.1.up (Nat.le_refl _) hW) f1 f2
      · rw [← h2]
        exact Target_any d t i W _ _ (H.out.2.1.up (Nat.le_refl _) hW) (H.out.2.2.1.up (Nat.le_refl _) hW) f1
    · cases h
theorem ckJ_l {s : ByteArray} {r : Option (Nat × Nat)} (h : (ckJ s).map (·.1) = some r) : ∃ l, ckJ s = some (r, l) := by
  cases hc : ckJ s with
  | none => rw [hc] at h; cases h
  | some p => rw [hc] at h; obtain ⟨a, b⟩ := p; injection h with h; subst h; exact ⟨b, rfl⟩
def sA : ByteArray := ⟨#[103, 111, 123, 103, 111, 116, 111, 32, 97, 32, 108, 97, 98, 101, 108, 32, 97, 125]⟩
def sB : ByteArray := ⟨#[103, 111, 123, 108, 97, 98, 101, 108, 32, 97, 32, 103, 111, 116, 111, 32, 97, 125]⟩
theorem jkA : (ckJ sA).map (·.1) = some none := by kernel_rfl
theorem jkB : (ckJ sB).map (·.1) = some (some (4607182418800017408, 4622945017495814144)) := by kernel_rfl
theorem eqj1 : (FloatKind.f64.format.order 4607182418800017408 4607182418800017408 == some Ordering.eq) = true := by decide +kernel
theorem eqj2 : (FloatKind.f64.format.order 4622945017495814144 4622945017495814144 == some Ordering.eq) = true := by decide +kernel
set_option maxRecDepth 100000 in
set_option maxHeartbeats 1000000 in
theorem known9_any (w : World) : Calls Try.prog 15 #[] w fun e w' => e = .returned (.bool true) ∧ Kept w w' := by
  obtain ⟨lA, hA⟩ := ckJ_l jkA
  obtain ⟨lB, hB⟩ := ckJ_l jkB
  have RA : Hid (∀ w, Calls _ _ _ w _) := fun w => read9_check sA (by decide) _ lA hA w
  have RB : Hid (∀ w, Calls _ _ _ w _) := fun w => read9_check sB (by decide) _ lB hB w
  have e1 := eqj1
  have e2 := eqj2
  clear hA hB
  go_enter Try.func15, Try.ntmps15
  go_wp2_with fail
  refine Calls.mono (RA.out _) ?_
  rintro e w1 ⟨a1, n1, q1, a2, n2, q2, rfl, H⟩
  have CK : Hid (∀ W, Kept w1 W → Calls Try.prog 10 #[.agg #[.slice a1 n1 q1, .slice a2 n2 q2]] W fun e w' => e = .returned (.tuple #[.complex .f64 0 0, .int .i64 0]) ∧ Kept W w') := H.out.2.1
  have K1 : Hid (Kept w w1) := H.out.1
  clear H
  go_wp2_with fail
  refine Calls.mono (CK.out _ (Kept.refl _)) ?_
  rintro e w2 ⟨rfl, k2⟩
  have K2 : Hid (Kept w w2) := K1.out.then k2
  clear k2
  go_wp2_with fail
  refine Calls.mono (RB.out _) ?_
  rintro e w3 ⟨a3, n3, q3, a4, n4, q4, rfl, H⟩
  have CK2 : Hid (∀ W, Kept w3 W → Calls Try.prog 10 #[.agg #[.slice a3 n3 q3, .slice a4 n4 q4]] W fun e w' => e = .returned (.tuple #[.complex .f64 4607182418800017408 4622945017495814144, .int .i64 4]) ∧ Kept W w') := H.out.2.1
  have K3 : Hid (Kept w w3) := K2.out.then H.out.1
  clear H
  go_wp2_with fail
  refine Calls.mono (CK2.out _ (Kept.refl _)) ?_
  rintro e w4 ⟨rfl, k4⟩
  have K4 : Hid (Kept w w4) := K3.out.then k4
  clear k4
  go_wp2_with fail
  go_ret
  exact ⟨rfl, K4.out⟩
end Go.Proofs.Ytnfkjmafhaecgaa
