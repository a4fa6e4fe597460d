/- Nk9 -/
import Derived.Test.YtbfikeegacapjaaWQb
import Derived.Test.YtbfikeegacapjaaWNj
import Derived.Test.YtbfikeegacapjaaWNp
import Derived.Test.YtbfikeegacapjaaWWD

namespace Go.Proofs.Ytbfikeegacapjaa
open Go.RowKit
attribute [local go_sem] run_store_complex
set_option maxRecDepth 100000 in
set_option maxHeartbeats 1000000 in
theorem read_any (s : ByteArray) (hs : s.size ≤ 1125899906842624) (w : World) (d : List Dc) (t : List (List St)) (q : Nat) (hr : Pp.out s = (some (d, t), q)) :
    Calls Try.prog 9 #[.string s] w fun e w' => ∃ (a1 : Option Addr) (n1 q1 : Nat) (a2 : Option Addr) (n2 q2 : Nat), e = .returned (.agg #[.slice a1 n1 q1, .slice a2 n2 q2]) ∧ Hid (Kept w w' ∧ DsIn w' w.heap.size w'.heap.size d (.slice a1 n1 q1) ∧ TsIn w' w.heap.size w'.heap.size t (.slice a2 n2 q2) ∧ OwnD w' w.heap.size d (.slice a1 n1 q1)) := by
  have RP : Hid (Calls Try.prog 26 #[.string s] (Wz w) fun e w' => GotQ (Wz w) (some (d, t)) q e w') := rparse_any s hs (Wz w) _ _ hr
  clear hs hr
  go_enter Try.func9, Try.ntmps9
  go_wp2_with fail
  refine Calls.mono RP.out ?_
  rintro e w1 ⟨a1, n1, q1, a2, n2, q2, Q, E, rfl, H⟩
  obtain ⟨rfl, rfl, hd, ht, ho⟩ := H.out.2.2 _ _ rfl
  have HK : Hid (Kept (Wz w) w1) := H.out.1
  have HDT : Hid (DsIn w1 (Wz w).heap.size w1.heap.size d (.slice a1 n1 q1) ∧ TsIn w1 (Wz w).heap.size w1.heap.size t (.slice a2 n2 q2) ∧ OwnD w1 (Wz w).heap.size d (.slice a1 n1 q1)) := ⟨hd, ht, ho⟩
  have hbx : BoxS w1 w.heap.size [.slice none 0 0, .slice none 0 0] := (Wz_box w).kept HK.out
  have HBX : Hid (BoxS w1 w.heap.size [.slice none 0 0, .slice none 0 0]) := hbx
  have s0 := hbx.cell 0 rfl
  have s1 := hbx.cell 1 rfl
  have sf0 := hbx.fz 0
  have sf1 := hbx.fz 1
  have hrl := hbx.lt
  clear hd ht ho H hbx
  go_wp2_with fail
  obtain ⟨Wf, hWf⟩ : ∃ Wf, (w1.setCells w.heap.size 0 [.slice a1 n1 q1, .slice a2 n2 q2]).alloc (.cells #[.slice a1 n1 q1, .slice a2 n2 q2] 27) = Wf := ⟨_, rfl⟩
  have kk : Kept (w1.setCells w.heap.size 0 [.slice a1 n1 q1, .slice a2 n2 q2]) Wf := by rw [← hWf]; exact (Kept.refl _).al _
  have hs2 : (w1.setCells w.heap.size 0 [.slice a1 n1 q1, .slice a2 n2 q2]).heap.size = w1.heap.size := size_setCells ..
  have hzw := Wz_size w
  have st : StaysD (Rng (Wz w).heap.size w1.heap.size) w1 Wf := fun j hj => (kk.block j (by rw [hs2]; exact hj.2)).trans (heap_setCells _ _ _ _ j (by have := hj.1; omega))
  have hszf : w1.heap.size ≤ Wf.heap.size := by have := kk.size; omega
  have hkf : Kept w Wf := Kept.then (b := w1.setCells w.heap.size 0 [.slice a1 n1 q1, .slice a2 n2 q2]) (Below.setCells ((Wz_kept w).then HK.out) (Nat.le_refl _) _ _) kk
  have hrg : Wf.rangeAt w.heap.size 0 [.slice a1 n1 q1, .slice a2 n2 q2] := fun j v hv => kk.cellS (World.rangeAt_setCells_same _ _ _ _ (HBX.out.there 0 2 (by decide)) j v hv)
  have hfin : ∃ (b1 : Option Addr) (m1 p1 : Nat) (b2 : Option Addr) (m2 p2 : Nat), Ending.returned (.agg #[.slice a1 n1 q1, .slice a2 n2 q2]) = .returned (.agg #[.slice b1 m1 p1, .slice b2 m2 p2]) ∧ Hid (Kept w Wf ∧ DsIn Wf w.heap.size Wf.heap.size d (.slice b1 m1 p1) ∧ TsIn Wf w.heap.size Wf.heap.size t (.slice b2 m2 p2) ∧ OwnD Wf w.heap.size d (.slice b1 m1 p1)) :=
    ⟨a1, n1, q1, a2, n2, q2, rfl, hkf, (HDT.out.1.stays st).mono (Rng.up (by omega) hszf), (HDT.out.2.1.stays st).mono (Rng.up (by omega) hszf), ((HDT.out.2.2.bu (M := (· = w.heap.size)) (Bu.sets (M := (· = w.heap.size)) (Bu.refl _ _) (.inl rfl) 0 [.slice a1 n1 q1, .slice a2 n2 q2]) (fun k hk _ e => by omega)).bu (M := fun _ => False) (Bu.of kk) fun _ _ _ c => c).lower (by omega)⟩
  rw [← hWf] at hfin hrg
  exact bodyPost_ret (results_cell_mid (P := Try.prog) Try.results9 _ _ w.heap.size 0 [.slice a1 n1 q1, .slice a2 n2 q2] _ rfl hrg Try.underlying27 rfl esizePr) rfl hfin
def fitB (s : St) : Bool := decide (s.e.size ≤ 1000) && s.e.names.all (fun x => decide (x.size ≤ 1000)) && decide (s.name.size ≤ 1000) && decide (s.other.size ≤ 1000)
def fitP (d : List Dc) (t : List (List St)) : Bool := d.all (fun y => decide (y.name.size ≤ 1000) && decide (0 ≤ y.kind) && decide (y.kind ≤ 10)) && (flatTs t).all fitB && t.all fun ss => decide (St.sizes ss ≤ 1000)
theorem fitP_ok {d : List Dc} {t : List (List St)} (h : fitP d t = true) : (∀ s ∈ flatTs t, Fit s) ∧ (∀ ss ∈ t, St.sizes ss ≤ 300000000) ∧ ∀ y ∈ d, FitD y := by
  unfold fitP at h
  simp only [Bool.and_eq_true, List.all_eq_true, decide_eq_true_eq] at h
  obtain ⟨⟨h1, h2⟩, h3⟩ := h
  refine ⟨fun s hs => ?_, fun ss hs => by have := h3 ss hs; omega, fun y hy => ?_⟩
  · have := h2 s hs
    unfold fitB at this
    simp only [Bool.and_eq_true, List.all_eq_true, decide_eq_true_eq] at this
    exact fit_of this.1.1.1 this.1.1.2 this.1.2 this.2
  · obtain ⟨⟨f1, f2⟩, f3⟩ := h1 y hy
    exact ⟨by unfold maxLen; omega, by omega, by omega⟩
def ckOf (s : ByteArray) : Option (Option (Nat × Nat)) := match (Pp.out s).1 with
  | some (d, t) => if fitP d t = true then some (Nf.check d t) else none
  | none => none
theorem read_check (s : ByteArray) (hs : s.size ≤ 1125899906842624) (r : Option (Nat × Nat)) (h : ckOf s = some r) (d : List Dc) (hd : (Pp.out s).1.map (·.1) = some d) (w : World) :
    Calls Try.prog 9 #[.string s] w fun e w1 => ∃ (a1 : Option Addr) (n1 q1 : Nat) (a2 : Option Addr) (n2 q2 : Nat), e = .returned (.agg #[.slice a1 n1 q1, .slice a2 n2 q2]) ∧ Hid (Kept w w1 ∧ (∀ W, Kept w1 W → Calls Try.prog 12 #[.agg #[.slice a1 n1 q1, .slice a2 n2 q2]] W fun e w' => e = .returned (Nf.told r) ∧ Kept W w')) := by
  obtain ⟨o, q, ho⟩ : ∃ o q, Pp.out s = (o, q) := ⟨_, _, rfl⟩
  unfold ckOf at h
  rw [ho] at h hd
  cases o with
  | none => cases h
  | some p =>
    obtain ⟨d', t⟩ := p
    simp only [Option.map_some, Option.some.injEq] at hd
    subst hd
    simp only at h
    split at h
    · rename_i hf
      injection h with h
      obtain ⟨f1, f2, f3⟩ := fitP_ok hf
      refine (read_any s hs w d' t q ho).mono ?_
      rintro e w1 ⟨a1, n1, q1, a2, n2, q2, rfl, H⟩
      refine ⟨a1, n1, q1, a2, n2, q2, rfl, H.out.1, fun W hW => ?_⟩
      · rw [← h]
        exact check_any d' t W _ _ (H.out.2.1.up (Nat.le_refl _) hW) (H.out.2.2.1.up (Nat.le_refl _) hW) f1 f2 f3
    · cases h
def sA : ByteArray := ⟨#[103, 111, 123, 120, 61, 49, 125]⟩
def sB : ByteArray := ⟨#[118, 97, 114, 32, 120, 32, 103, 111, 123, 120, 61, 49, 125]⟩
theorem ckA : ckOf sA = some (some (4607182418800017408, 4616189618054758400)) := by kernel_rfl
theorem ckB : ckOf sB = some none := by kernel_rfl
theorem eql_one : (FloatKind.f64.format.order 4607182418800017408 4607182418800017408 == some Ordering.eq) = true := by decide +kernel
theorem eql_four : (FloatKind.f64.format.order 4616189618054758400 4616189618054758400 == some Ordering.eq) = true := by decide +kernel
set_option maxRecDepth 100000 in
set_option maxHeartbeats 1000000 in
theorem known_any (w : World) : Calls Try.prog 14 #[] w fun e w' => e = .returned (.bool true) ∧ Kept w w' := by
  have RA : Hid (∀ w, Calls _ _ _ w _) := fun w => read_check sA (by decide) _ ckA [] (by kernel_rfl) w
  have RB : Hid (∀ w, Calls _ _ _ w _) := fun w => read_check sB (by decide) _ ckB [⟨1, Px.ba [120], 0, 4607182418800017408, 4607182418800017408⟩] (by kernel_rfl) w
  have e1 := eql_one
  have e2 := eql_four
  go_enter Try.func14, Try.ntmps14
  go_wp2_with fail
  refine Calls.mono (RA.out _) ?_
  rintro e w1 ⟨a1, n1, q1, a2, n2, q2, rfl, H⟩
  have CK : Hid (∀ W, Kept w1 W → Calls Try.prog 12 #[.agg #[.slice a1 n1 q1, .slice a2 n2 q2]] W fun e w' => e = .returned (.tuple #[.complex .f64 4607182418800017408 4616189618054758400, .int .i64 3]) ∧ Kept W w') := H.out.2
  have K1 : Hid (Kept w w1) := H.out.1
  clear H
  go_wp2_with fail
  refine Calls.mono (CK.out _ (Kept.refl _)) ?_
  rintro e w2 ⟨rfl, k2⟩
  have K2 : Hid (Kept w w2) := K1.out.then k2
  clear k2
  go_wp2_with fail
  refine Calls.mono (RB.out _) ?_
  rintro e w3 ⟨a3, n3, q3, a4, n4, q4, rfl, H⟩
  have CK2 : Hid (∀ W, Kept w3 W → Calls Try.prog 12 #[.agg #[.slice a3 n3 q3, .slice a4 n4 q4]] W fun e w' => e = .returned (.tuple #[.complex .f64 0 0, .int .i64 0]) ∧ Kept W w') := H.out.2
  have K3 : Hid (Kept w w3) := K2.out.then H.out.1
  clear H
  go_wp2_with fail
  refine Calls.mono (CK2.out _ (Kept.refl _)) ?_
  rintro e w4 ⟨rfl, k4⟩
  have K4 : Hid (Kept w w4) := K3.out.then k4
  clear k4
  go_wp2_with fail
  go_ret
  exact ⟨rfl, K4.out⟩
end Go.Proofs.Ytbfikeegacapjaa
