/- Bi -/
import Derived.Test.YtnfkjmafhaecgaaZQb
import Derived.Test.YtnfkjmafhaecgaaZBh
import Derived.Test.YtnfkjmafhaecgaaZWD

namespace Go.Proofs.Ytnfkjmafhaecgaa
open Go.RowKit Bn
attribute [local go_sem] run_store_complex
set_option maxRecDepth 100000 in
set_option maxHeartbeats 1000000 in
theorem read10_any (s : ByteArray) (hs : s.size ≤ 1125899906842624) (w : World) (d : List Dc) (t : List (List St)) (q : Nat) (hr : Pp.out s = (some (d, t), q)) :
    Calls Try.prog 19 #[.string s] w fun e w' => ∃ (a1 : Option Addr) (n1 q1 : Nat) (a2 : Option Addr) (n2 q2 : Nat), e = .returned (.agg #[.slice a1 n1 q1, .slice a2 n2 q2]) ∧ Hid (Kept w w' ∧ DsIn w' w.heap.size w'.heap.size d (.slice a1 n1 q1) ∧ TsIn w' w.heap.size w'.heap.size t (.slice a2 n2 q2) ∧ OwnD w' w.heap.size d (.slice a1 n1 q1)) := by
  have RP : Hid (Calls Try.prog 37 #[.string s] (Wz w) fun e w' => GotQ (Wz w) (some (d, t)) q e w') := rparse_any s hs (Wz w) _ _ hr
  clear hs hr
  go_enter Try.func19, Try.ntmps19
  go_wp2_with fail
  refine Calls.mono RP.out ?_
  rintro e w1 ⟨a1, n1, q1, a2, n2, q2, Q, E, rfl, H⟩
  obtain ⟨rfl, rfl, hd, ht, ho⟩ := H.out.2.2 _ _ rfl
  have HK : Hid (Kept (Wz w) w1) := H.out.1
  have HDT : Hid (DsIn w1 (Wz w).heap.size w1.heap.size d (.slice a1 n1 q1) ∧ TsIn w1 (Wz w).heap.size w1.heap.size t (.slice a2 n2 q2) ∧ OwnD w1 (Wz w).heap.size d (.slice a1 n1 q1)) := ⟨hd, ht, ho⟩
  have hbx : BoxS w1 w.heap.size [.slice none 0 0, .slice none 0 0] := (Wz_box w).kept HK.out
  have HBX : Hid (BoxS w1 w.heap.size [.slice none 0 0, .slice none 0 0]) := hbx
  have s0 := hbx.cell 0 rfl
  have s1 := hbx.cell 1 rfl
  have sf0 := hbx.fz 0
  have sf1 := hbx.fz 1
  have hrl := hbx.lt
  clear hd ht ho H hbx
  go_wp2_with fail
  obtain ⟨Wf, hWf⟩ : ∃ Wf, (w1.setCells w.heap.size 0 [.slice a1 n1 q1, .slice a2 n2 q2]).alloc (.cells #[.slice a1 n1 q1, .slice a2 n2 q2] 27) = Wf := ⟨_, rfl⟩
  have kk : Kept (w1.setCells w.heap.size 0 [.slice a1 n1 q1, .slice a2 n2 q2]) Wf := by rw [← hWf]; exact (Kept.refl _).al _
  have hs2 : (w1.setCells w.heap.size 0 [.slice a1 n1 q1, .slice a2 n2 q2]).heap.size = w1.heap.size := size_setCells ..
  have hzw := Wz_size w
  have st : StaysD (Rng (Wz w).heap.size w1.heap.size) w1 Wf := fun j hj => (kk.block j (by rw [hs2]; exact hj.2)).trans (heap_setCells _ _ _ _ j (by have := hj.1; omega))
  have hszf : w1.heap.size ≤ Wf.heap.size := by have := kk.size; omega
  have hkf : Kept w Wf := Kept.then (b := w1.setCells w.heap.size 0 [.slice a1 n1 q1, .slice a2 n2 q2]) (Below.setCells ((Wz_kept w).then HK.out) (Nat.le_refl _) _ _) kk
  have hrg : Wf.rangeAt w.heap.size 0 [.slice a1 n1 q1, .slice a2 n2 q2] := fun j v hv => kk.cellS (World.rangeAt_setCells_same _ _ _ _ (HBX.out.there 0 2 (by decide)) j v hv)
  have hfin : ∃ (b1 : Option Addr) (m1 p1 : Nat) (b2 : Option Addr) (m2 p2 : Nat), Ending.returned (.agg #[.slice a1 n1 q1, .slice a2 n2 q2]) = .returned (.agg #[.slice b1 m1 p1, .slice b2 m2 p2]) ∧ Hid (Kept w Wf ∧ DsIn Wf w.heap.size Wf.heap.size d (.slice b1 m1 p1) ∧ TsIn Wf w.heap.size Wf.heap.size t (.slice b2 m2 p2) ∧ OwnD Wf w.heap.size d (.slice b1 m1 p1)) :=
    ⟨a1, n1, q1, a2, n2, q2, rfl, hkf, (HDT.out.1.stays st).mono (Rng.up (by omega) hszf), (HDT.out.2.1.stays st).mono (Rng.up (by omega) hszf), ((HDT.out.2.2.bu (M := (· = w.heap.size)) (Bu.sets (M := (· = w.heap.size)) (Bu.refl _ _) (.inl rfl) 0 [.slice a1 n1 q1, .slice a2 n2 q2]) (fun k hk _ e => by omega)).bu (M := fun _ => False) (Bu.of kk) fun _ _ _ c => c).lower (by omega)⟩
  rw [← hWf] at hfin hrg
  exact bodyPost_ret (results_cell_mid (P := Try.prog) Try.results19 _ _ w.heap.size 0 [.slice a1 n1 q1, .slice a2 n2 q2] _ rfl hrg Try.underlying27 rfl esizePr) rfl hfin
theorem NumL.flat {t : List (List St)} (h : ∀ x ∈ flatTs t, NumS x) : ∀ l ∈ t, NumL l := by
  induction t with
  | nil => intro l hl; cases hl
  | cons a t ih =>
    intro l hl x hx
    rcases List.mem_cons.1 hl with rfl | hl
    · exact h x (by rw [flatTs, List.mem_append]; exact .inl hx)
    · exact ih (fun y hy => h y (by rw [flatTs, List.mem_append]; exact .inr hy)) l hl x hx
/-- What is small enough to be sized. -/
def numfit (t : List (List St)) : Bool := decide (t.length ≤ 1000000) && (flatTs t).all fun s => decide (-9223372036854775808 ≤ s.n) && decide (s.n ≤ 9223372036854775807) && decide (s.e.size ≤ 1073741824)
theorem numfit_ok {t : List (List St)} (h : numfit t = true) : t.length ≤ 1000000 ∧ ∀ l ∈ t, NumL l := by
  unfold numfit at h
  simp only [Bool.and_eq_true, List.all_eq_true, decide_eq_true_eq] at h
  exact ⟨h.1, NumL.flat fun s hs => ⟨(h.2 s hs).1.1, (h.2 s hs).1.2, (h.2 s hs).2⟩⟩
/-- What is told of a text that is read: its threads' sizes, the first that is too long. -/
def ckB (s : ByteArray) : Option (List Nat × (Nat × Nat × Int)) := match (Pp.out s).1 with
  | some (_, t) => if numfit t = true then some (szs t, lng t) else none
  | none => none
theorem read10_check (s : ByteArray) (hs : s.size ≤ 1125899906842624) (l : List Nat) (x : Nat × Nat × Int) (h : ckB s = some (l, x)) (w : World) :
    Calls Try.prog 19 #[.string s] w fun e w1 => ∃ (a1 : Option Addr) (n1 q1 : Nat) (a2 : Option Addr) (n2 q2 : Nat), e = .returned (.agg #[.slice a1 n1 q1, .slice a2 n2 q2]) ∧ Hid (Kept w w1 ∧
      (∀ W, Kept w1 W → Calls Try.prog 18 #[.agg #[.slice a1 n1 q1, .slice a2 n2 q2]] W fun r w' => ∃ a cap, r = .returned (.slice a l.length cap) ∧ NumsR W w' l a cap) ∧
      (∀ W, Kept w1 W → Calls Try.prog 20 #[.agg #[.slice a1 n1 q1, .slice a2 n2 q2]] W fun e w' => e = tellB x ∧ Kept W w')) := by
  obtain ⟨o, q, ho⟩ : ∃ o q, Pp.out s = (o, q) := ⟨_, _, rfl⟩
  unfold ckB at h
  rw [ho] at h
  cases o with
  | none => cases h
  | some p =>
    obtain ⟨d, t⟩ := p
    simp only at h
    split at h
    · rename_i hf
      injection h with h
      injection h with h1 h2
      obtain ⟨f1, f2⟩ := numfit_ok hf
      refine (read10_any s hs w d t q ho).mono ?_
      rintro e w1 ⟨a1, n1, q1, a2, n2, q2, rfl, H⟩
      refine ⟨a1, n1, q1, a2, n2, q2, rfl, H.out.1, fun W hW => ?_, fun W hW => ?_⟩
      · rw [← h1]
        exact bsize_any t f1 f2 W a1 a2 n1 q1 n2 q2 (H.out.2.2.1.up (Nat.le_refl _) hW)
      · rw [← h2]
        exact bcheck_any t f1 f2 W a1 a2 n1 q1 n2 q2 (H.out.2.2.1.up (Nat.le_refl _) hW)
    · cases h
/-- The first number of a row of two, the second. -/
theorem NumsR.first {w w' : World} {x : Nat} {l : List Nat} {a : Option Addr} {cap : Nat} (h : NumsR w w' (x :: l) a cap) : ∃ g, a = some ⟨g, 0, none⟩ ∧ ∀ i (hi : i < (x :: l).length), w'.cell? ⟨g, i, none⟩ = some (.int .i64 ((x :: l)[i] : Int)) := by
  obtain ⟨g, e, _⟩ := h.at_ 0 (by simp)
  refine ⟨g, e, fun i hi => ?_⟩
  obtain ⟨g', e', hc⟩ := h.at_ i hi
  rw [e] at e'
  injection e' with e'
  injection e' with e'
  rw [e']; exact hc
def tK : ByteArray := ⟨#[103, 111, 123, 120, 61, 121, 43, 49, 125, 103, 111, 123, 125]⟩
theorem tkK : ckB tK = some ([4, 0], (0, 0, 0)) := by kernel_rfl
set_option maxRecDepth 100000 in
set_option maxHeartbeats 1000000 in
theorem known10_any (w : World) : Calls Try.prog 21 #[] w fun e w' => e = .returned (.bool true) ∧ Kept w w' := by
  have RA : Hid (∀ w, Calls _ _ _ w _) := fun w => read10_check tK (by decide) _ _ tkK w
  go_enter Try.func21, Try.ntmps21
  go_wp2_with fail
  refine Calls.mono (RA.out _) ?_
  rintro e w1 ⟨a1, n1, q1, a2, n2, q2, rfl, H⟩
  have CK : Hid (∀ W, Kept w1 W → Calls Try.prog 18 #[.agg #[.slice a1 n1 q1, .slice a2 n2 q2]] W fun r w' => ∃ a cap, r = .returned (.slice a 2 cap) ∧ NumsR W w' [4, 0] a cap) := H.out.2.1
  have K1 : Hid (Kept w w1) := H.out.1
  clear H RA
  go_wp2_with fail
  refine Calls.mono (CK.out _ (Kept.refl _)) ?_
  rintro e w2 ⟨a, cp, rfl, hr⟩
  have K2 : Hid (Kept w w2) := K1.out.then hr.kept
  have h1 := hr.le
  have h2 := hr.big
  obtain ⟨g, rfl, hc⟩ := hr.first
  have c0 : w2.cell? ⟨g, 0, none⟩ = some (.int .i64 4) := hc 0 (by decide)
  have c1 : w2.cell? ⟨g, 1, none⟩ = some (.int .i64 0) := hc 1 (by decide)
  simp only [List.length_cons, List.length_nil] at h1
  clear hc hr
  go_wp2_with fail
  go_ret
  exact ⟨rfl, K2.out⟩
end Go.Proofs.Ytnfkjmafhaecgaa
