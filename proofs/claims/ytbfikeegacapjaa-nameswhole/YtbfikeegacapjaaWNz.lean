/- Nv9 Nz -/
import Derived.Test.YtbfikeegacapjaaWNu
import Derived.Test.YtbfikeegacapjaaWSmA
import Derived.Test.YtbfikeegacapjaaWSh
import Derived.Test.YtbfikeegacapjaaWNk9
import Derived.Test.YtbfikeegacapjaaWNf

namespace Go.Proofs.Ytbfikeegacapjaa
open Go.RowKit
attribute [local go_sem] run_store_complex
theorem acts_nil (w : World) (hi : Nat) : ActsR w hi [] (.slice none 0 0) := ⟨none, 0, rfl, Nat.le_refl _, by omega, fun i hi => by simp at hi, fun x hx => by cases hx⟩
theorem made_read {d0 : List Dc} {t0 : List (List St)} {most : Int} {nc : Nat} (hg : GoodP d0 t0 most nc) {w1 : World} {lo1 lo2 : Nat} {v1 v2 : Value} (h1 : DsIn w1 lo1 w1.heap.size d0 v1) (h2 : TsIn w1 lo2 w1.heap.size t0 v2) :
    ∃ s : ByteArray, Calls Try.prog 10 #[.agg #[v1, v2]] w1 (fun r w' => r = .returned (.string s) ∧ Kept w1 w') ∧ ∃ (d : List Dc) (t : List (List St)), MadeR d t ∧ t.length = t0.length ∧
      ∀ W, Calls Try.prog 9 #[.string s] W fun e w' => ∃ (a1 : Option Addr) (q1 : Nat) (a2 : Option Addr) (q2 : Nat), e = .returned (.agg #[.slice a1 d.length q1, .slice a2 t.length q2]) ∧ Hid (Kept W w' ∧ OwnD w' 0 d (.slice a1 d.length q1) ∧ TsIn w' 0 w'.heap.size t (.slice a2 t.length q2)) := by
  have h3 := hg.three
  have h4 := hg.two
  have hl := hg.dl.1
  have hlen := Ps.shown_len (e := 2) (by decide) d0 t0 hg.dl.2 fun b hb => hg.ok b hb
  obtain ⟨d, t, q, ho, hm, hs⟩ := mader hl hg.dl.2 (by rintro rfl; simp at h4) (by omega) fun b hb => hg.ok b hb
  have htl : t.length = t0.length := by
    obtain ⟨d', t', q', ho', s1, s2⟩ := Ps.out_shown (e := 2) (by decide) d0 t0 (by omega) hg.dl.2 (fun b hb => (hg.ok b hb).1) (by omega) (by rintro rfl; simp at h4) (by omega)
    rw [ho] at ho'
    injection ho' with e1 e2
    injection e1 with e1
    injection e1 with e1 e3
    rw [e3]; exact Ps.len_of_map s2
  refine ⟨_, showp_any 2 (by decide) d0 t0 hg.dl.2 (fun b hb => (hg.ok b hb).1) (by omega) w1 _ _ (h1.up (Nat.le_refl _) (Kept.refl _)) (h2.up (Nat.le_refl _) (Kept.refl _)), d, t, hm, htl, fun W => ?_⟩
  refine (read_any _ (by simp [Px.ba, ByteArray.size]; omega) W d t q ho).mono ?_
  rintro e w' ⟨a1, n1, q1, a2, n2, q2, rfl, H⟩
  obtain ⟨k, hd, ht, ho⟩ := H.out
  obtain ⟨_, _, e1, -⟩ := hd.open
  obtain ⟨_, _, e2, -⟩ := ht.open
  injection e1 with _ e1 _
  injection e2 with _ e2 _
  subst e1
  subst e2
  exact ⟨a1, q1, a2, q2, rfl, k, ho.lower (Nat.zero_le _), ht.mono fun j hj => ⟨Nat.zero_le _, hj.2⟩⟩
end Go.Proofs.Ytbfikeegacapjaa

namespace Go.Proofs.Ytbfikeegacapjaa
open Go.RowKit
theorem dup_snoc : ∀ (r a : List Dc) (y : Dc), Nf.dup a (r ++ [y]) = match Nf.dup a r with | some z => some z | none => if Nf.isIn (a ++ r) y.name = true then some y else none
  | [], a, y => by simp [Nf.dup]
  | z :: r, a, y => by
    rw [List.cons_append, Nf.dup, Nf.dup]
    by_cases h : Nf.isIn a z.name = true
    · rw [if_pos h, if_pos h]
    · rw [if_neg h, if_neg h, dup_snoc r (a ++ [z]) y, List.append_assoc]; rfl
theorem wrong_app (d : List Dc) (l m : List St) : (Nf.wrong d (l ++ m)).isNone = ((Nf.wrong d l).isNone && (Nf.wrong d m).isNone) := by
  unfold Nf.wrong
  rw [List.find?_append]
  cases l.find? fun s => !Nf.right d s <;> rfl
theorem wrong_each (d : List Dc) : ∀ t : List (List St), (Nf.wrong d (flatTs t)).isNone = t.all fun b => (Nf.wrong d (flatTs [b])).isNone
  | [] => rfl
  | b :: t => by
    rw [show flatTs (b :: t) = St.flats b ++ flatTs t from rfl, wrong_app, wrong_each d t, List.all_cons, show flatTs [b] = St.flats b ++ [] from rfl, List.append_nil]
theorem check_each {d : List Dc} {t : List (List St)} (h : t ≠ []) : (Nf.check d t).isNone = t.all fun b => (Nf.check d [b]).isNone := by
  unfold Nf.check
  cases Nf.dup [] d with
  | some y =>
    cases t with
    | nil => exact absurd rfl h
    | cons b t => rfl
  | none => simpa using wrong_each d t
theorem check_again {d : List Dc} {t : List (List St)} {y : Dc} (h : Nf.isIn d y.name = true) : ∃ p, Nf.check (d ++ [y]) t = some p ∧ (Nf.check d t = none → p = (y.re, y.im)) := by
  unfold Nf.check
  rw [dup_snoc d [] y, List.nil_append, if_pos h]
  cases Nf.dup [] d with
  | some z => exact ⟨_, rfl, fun h => by cases h⟩
  | none => exact ⟨_, rfl, fun _ => rfl⟩
theorem kind_snoc {x : ByteArray} {y : Dc} (h : y.name ≠ x) : ∀ d : List Dc, Nf.kind (d ++ [y]) x = Nf.kind d x
  | [] => by simp [Nf.kind, h]
  | z :: d => by rw [List.cons_append, Nf.kind, Nf.kind, kind_snoc h d]
theorem right_snoc {d : List Dc} {y : Dc} {s : St} (h1 : y.name ≠ s.name) (h2 : ∀ x ∈ s.touches, y.name ≠ x) : Nf.right (d ++ [y]) s = Nf.right d s := by
  have ha : ∀ l : List ByteArray, (∀ x ∈ l, y.name ≠ x) → (l.all fun x => Nf.plain (Nf.kind (d ++ [y]) x)) = l.all fun x => Nf.plain (Nf.kind d x) := by
    intro l
    induction l with
    | nil => intro _; rfl
    | cons x l ih => intro h; rw [List.all_cons, List.all_cons, kind_snoc (h x List.mem_cons_self), ih fun z hz => h z (List.mem_cons_of_mem _ hz)]
  unfold Nf.right Nf.own
  rw [kind_snoc h1, ha _ h2]
theorem wrong_snoc {d : List Dc} {y : Dc} : ∀ l : List St, (∀ s ∈ l, y.name ≠ s.name ∧ ∀ x ∈ s.touches, y.name ≠ x) → Nf.wrong (d ++ [y]) l = Nf.wrong d l
  | [], _ => rfl
  | s :: l, h => by
    have ih := wrong_snoc (d := d) l fun z hz => h z (List.mem_cons_of_mem _ hz)
    have h0 := h s List.mem_cons_self
    unfold Nf.wrong at ih ⊢
    rw [List.find?_cons, List.find?_cons, right_snoc h0.1 h0.2, ih]
theorem check_more {d : List Dc} {t : List (List St)} {y : Dc} (h1 : Nf.isIn d y.name = false) (h2 : ∀ s ∈ flatTs t, y.name ≠ s.name ∧ ∀ x ∈ s.touches, y.name ≠ x) : Nf.check (d ++ [y]) t = Nf.check d t := by
  unfold Nf.check
  rw [dup_snoc d [] y, List.nil_append, h1, wrong_snoc _ h2]
  cases Nf.dup [] d <;> rfl
end Go.Proofs.Ytbfikeegacapjaa
