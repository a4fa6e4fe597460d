/- HdA -/
import Derived.Test.YtnfkjmafhaecgaaRows
import Derived.Test.YtnfkjmafhaecgaaZPlA
import Derived.WalkKit
import Derived.WalkSpells
import Derived.WalkLawsBesides
import Derived.Test.YtnfkjmafhaecgaaZKpA
import Derived.Deep.RegionWith
import Derived.Deep.RegionHeld3
import Derived.Test.YtnfkjmafhaecgaaZPaB
import Derived.Test.YtnfkjmafhaecgaaZPlB
import Derived.Test.YtnfkjmafhaecgaaZBs

namespace Go.Proofs.Ytnfkjmafhaecgaa
open Go.RowKit
attribute [local go_sem] run_store_complex
set_option maxHeartbeats 400000 in
theorem pick_emod (n m : Int) (w : World) (hm : 0 < m) (hm2 : m ≤ 4611686018427387904) :
    Calls Try.prog 16 #[.int .i64 n, .int .i64 m] w fun e w' => e = .returned (.int .i64 (n % m)) ∧ w' = w := by
  have e1 := tmod_pos n m hm
  obtain ⟨b1, b2⟩ := tmod_lt n m hm
  have H : Hid (n % m = if n.tmod m < 0 then n.tmod m + m else n.tmod m) := e1
  clear e1
  have hz : (m == 0) = false := by simp; omega
  go_enter Try.func16, Try.ntmps16
  go_wp2
  all_goals
    go_ret
    refine ⟨ret_int ?_, rfl⟩
    rw [H.out]
    first | rw [if_pos (by omega)] | rw [if_neg (by omega)]
/-- Pick's answer as a number of its own. -/
theorem pick_nat (n : Int) (m : Nat) (hm : 0 < m) (hm2 : m ≤ 1000) : ∃ k : Nat, k < m ∧ n % (m : Int) = k ∧ ∀ w, Calls Try.prog 16 #[.int .i64 n, .int .i64 (m : Int)] w fun e w' => e = .returned (.int .i64 (k : Int)) ∧ w' = w := by
  have h2 := Int.emod_nonneg n (by omega : (m : Int) ≠ 0)
  have h3 := Int.emod_lt_of_pos n (by omega : (0 : Int) < m)
  obtain ⟨k, hk⟩ := Int.eq_ofNat_of_zero_le h2
  refine ⟨k, by omega, hk, fun w => ?_⟩
  have := pick_emod n m w (by omega) (by omega)
  rwa [hk] at this
theorem index_eight (A B C D E F G H : ByteArray) (k : Nat) (hk : k < 8) : ∃ X, (X = A ∨ X = B ∨ X = C ∨ X = D ∨ X = E ∨ X = F ∨ X = G ∨ X = H) ∧ ∀ w, (Instr.index 107 (.agg #[.string A, .string B, .string C, .string D, .string E, .string F, .string G, .string H]) (.int .i64 (k : Int))).run Try.prog w = .ok (.string X) w := by
  have h9 := Try.sizeOf9
  have ha := Try.isAgg9
  match k, hk with
  | 0, _ => exact ⟨A, by simp, fun w => by simp [Instr.index, go_sem, h9, ha]⟩
  | 1, _ => exact ⟨B, by simp, fun w => by simp [Instr.index, go_sem, h9, ha]⟩
  | 2, _ => exact ⟨C, by simp, fun w => by simp [Instr.index, go_sem, h9, ha]⟩
  | 3, _ => exact ⟨D, by simp, fun w => by simp [Instr.index, go_sem, h9, ha]⟩
  | 4, _ => exact ⟨E, by simp, fun w => by simp [Instr.index, go_sem, h9, ha]⟩
  | 5, _ => exact ⟨F, by simp, fun w => by simp [Instr.index, go_sem, h9, ha]⟩
  | 6, _ => exact ⟨G, by simp, fun w => by simp [Instr.index, go_sem, h9, ha]⟩
  | 7, _ => exact ⟨H, by simp, fun w => by simp [Instr.index, go_sem, h9, ha]⟩
theorem index_two (A B : ByteArray) (k : Nat) (hk : k < 2) : ∃ X, (X = A ∨ X = B) ∧ ∀ w, (Instr.index 54 (.agg #[.string A, .string B]) (.int .i64 (k : Int))).run Try.prog w = .ok (.string X) w := by
  have h9 := Try.sizeOf9
  have ha := Try.isAgg9
  match k, hk with
  | 0, _ => exact ⟨A, by simp, fun w => by simp [Instr.index, go_sem, h9, ha]⟩
  | 1, _ => exact ⟨B, by simp, fun w => by simp [Instr.index, go_sem, h9, ha]⟩
set_option maxRecDepth 100000 in
set_option maxHeartbeats 400000 in
theorem plain_any (n : Int) : ∃ t : List UInt8, (Px.isNm t = true ∧ t.length = 1) ∧ ∀ w, Calls Try.prog 41 #[.int .i64 n] w fun e w' => e = .returned (.string (Px.ba t)) ∧ w' = w := by
  obtain ⟨k, hk, -, hp⟩ := pick_nat n 8 (by omega) (by omega)
  obtain ⟨X, hXX, hX⟩ := index_eight ⟨#[120]⟩ ⟨#[120]⟩ ⟨#[121]⟩ ⟨#[122]⟩ ⟨#[97]⟩ ⟨#[116]⟩ ⟨#[120]⟩ ⟨#[121]⟩ k hk
  have hX2 : ∃ t : List UInt8, (Px.isNm t = true ∧ t.length = 1) ∧ X = Px.ba t := by
    rcases hXX with rfl | rfl | rfl | rfl | rfl | rfl | rfl | rfl
    · exact ⟨[120], by decide, rfl⟩
    · exact ⟨[120], by decide, rfl⟩
    · exact ⟨[121], by decide, rfl⟩
    · exact ⟨[122], by decide, rfl⟩
    · exact ⟨[97], by decide, rfl⟩
    · exact ⟨[116], by decide, rfl⟩
    · exact ⟨[120], by decide, rfl⟩
    · exact ⟨[121], by decide, rfl⟩
  obtain ⟨t, ht, rfl⟩ := hX2
  refine ⟨t, ht, fun w => ?_⟩
  generalize Px.ba t = X at *
  clear hXX ht
  have P : Hid (∀ w, Calls Try.prog 16 #[.int .i64 n, .int .i64 8] w fun e w' => e = .returned (.int .i64 (k : Int)) ∧ w' = w) := hp
  clear hp
  go_enter Try.func41, Try.ntmps41
  go_wp2_with fail
  refine (P.out _).mono ?_
  rintro e w' ⟨rfl, rfl⟩
  go_wp2_with fail
  go_ret
  exact ⟨rfl, rfl⟩
/-! ### Slices that are only read -/
/-- Numbers lie in memory, as the slice v says, in blocks below hi. -/
structure IntsR (w : World) (hi : Nat) (l : List Int) (v : Value) : Prop where
  out : ∃ (a : Option Addr) (cap : Nat), v = .slice a l.length cap ∧ l.length ≤ cap ∧ cap ≤ 9223372036854775807 ∧ (∀ i (_ : i < l.length), ∃ b o, a = some ⟨b, o, none⟩ ∧ b < hi ∧ w.cell? ⟨b, o + i, none⟩ = some (.int .i64 l[i])) ∧ ∀ x ∈ l, -9223372036854775808 ≤ x ∧ x ≤ 9223372036854775807
theorem IntsR.kept {w w' : World} {hi : Nat} {l : List Int} {v : Value} (h : IntsR w hi l v) (k : Kept w w') : IntsR w' hi l v := by
  obtain ⟨a, cap, e, h1, h2, h3, h4⟩ := h.out
  refine ⟨a, cap, e, h1, h2, fun i hi => ?_, h4⟩
  obtain ⟨b, o, e1, e2, e3⟩ := h3 i hi
  exact ⟨b, o, e1, e2, k.cellS e3⟩
theorem IntsR.mono {w : World} {hi hi' : Nat} {l : List Int} {v : Value} (h : IntsR w hi l v) (k : hi ≤ hi') : IntsR w hi' l v := by
  obtain ⟨a, cap, e, h1, h2, h3, h4⟩ := h.out
  refine ⟨a, cap, e, h1, h2, fun i hi => ?_, h4⟩
  obtain ⟨b, o, e1, e2, e3⟩ := h3 i hi
  exact ⟨b, o, e1, by omega, e3⟩
/-- Where a cut begins. -/
def cutAt (a : Option Addr) (l cap sz : Nat) : Option Addr := if cap = l then a else a.map (·.add (l * sz))
theorem cutAt_some {b o l cap sz : Nat} (h : l < cap) : cutAt (some ⟨b, o, none⟩) l cap sz = some ⟨b, o + l * sz, none⟩ := by
  unfold cutAt; rw [if_neg (by omega)]; simp [Addr.add_mid]
theorem run_cut_l {t e : TypeId} {sz : Nat} (hu : Try.prog.underlying t = some (.slice e)) (he : Try.prog.elem t = e) (hs : ∀ w, (sizeOf e).run Try.prog w = .ok sz w) (a : Option Addr) (n cap l : Nat) (h1 : l ≤ n) (w : World) :
    (Instr.sliceAt t (.slice a n cap) (some (.int .i64 (l : Int))) none none).run Try.prog w = .ok (.slice (cutAt a l cap sz) (n - l) (cap - l)) w := by
  have hu' : Try.prog.underlying t = some (.slice (Try.prog.elem t)) := by rw [he]; exact hu
  rw [run_sliceAt_slice _ _ _ _ _ _ hu', run_slice_l _ _ _ _ _ hu' _ _ (by omega) (by omega), he, hs]
  simp [sliced, cutAt]
theorem run_cut_h {t e : TypeId} {sz : Nat} (hu : Try.prog.underlying t = some (.slice e)) (he : Try.prog.elem t = e) (hs : ∀ w, (sizeOf e).run Try.prog w = .ok sz w) (a : Option Addr) (n cap h : Nat) (h1 : h ≤ cap) (w : World) :
    (Instr.sliceAt t (.slice a n cap) none (some (.int .i64 (h : Int))) none).run Try.prog w = .ok (.slice (cutAt a 0 cap sz) h cap) w := by
  have hu' : Try.prog.underlying t = some (.slice (Try.prog.elem t)) := by rw [he]; exact hu
  rw [run_sliceAt_slice _ _ _ _ _ _ hu', run_slice_h _ _ _ _ _ hu' _ _ (by omega) (by omega), he, hs]
  simp [sliced, cutAt]
theorem run_cut_lh {t e : TypeId} {sz : Nat} (hu : Try.prog.underlying t = some (.slice e)) (he : Try.prog.elem t = e) (hs : ∀ w, (sizeOf e).run Try.prog w = .ok sz w) (a : Option Addr) (n cap l h : Nat) (h1 : l ≤ h) (h2 : h ≤ cap) (w : World) :
    (Instr.sliceAt t (.slice a n cap) (some (.int .i64 (l : Int))) (some (.int .i64 (h : Int))) none).run Try.prog w = .ok (.slice (cutAt a l cap sz) (h - l) (cap - l)) w := by
  have hu' : Try.prog.underlying t = some (.slice (Try.prog.elem t)) := by rw [he]; exact hu
  rw [run_sliceAt_slice _ _ _ _ _ _ hu', run_slice_lh _ _ _ _ _ hu' _ _ _ _ (by omega) (by omega) (by omega), he, hs]
  simp [sliced, cutAt]
theorem IntsR.cut {w : World} {hi : Nat} {l : List Int} {a : Option Addr} {n cap : Nat} (h : IntsR w hi l (.slice a n cap)) (i j : Nat) (hij : i ≤ j) (hj : j ≤ l.length) : IntsR w hi ((l.take j).drop i) (.slice (cutAt a i cap 1) (j - i) (cap - i)) := by
  obtain ⟨a, cap, e, h1, h2, h3, h4⟩ := h.out
  cases e
  have hlen : ((l.take j).drop i).length = j - i := by rw [List.length_drop, List.length_take]; omega
  refine ⟨cutAt a i cap 1, cap - i, by rw [hlen], by rw [hlen]; omega, by omega, fun k hk => ?_, fun x hx => h4 x (List.mem_of_mem_take (List.mem_of_mem_drop hx))⟩
  rw [hlen] at hk
  obtain ⟨b, o, rfl, e2, e3⟩ := h3 (i + k) (by omega)
  refine ⟨b, o + i * 1, cutAt_some (by omega), e2, ?_⟩
  rw [show o + i * 1 + k = o + (i + k) by omega, e3]
  simp [List.getElem_drop, List.getElem_take]
end Go.Proofs.Ytnfkjmafhaecgaa
namespace Go.Proofs.Ytnfkjmafhaecgaa
open Go.RowKit
namespace Px
/-- A short expression: its text and its depth are bounded by its parts. -/
structure Sx (e : Ex) : Prop where
  wf : Wf e
  len : (T e 4).length ≤ 6 * e.size
  deep : D e 4 ≤ e.size
  one : ∀ m ∈ e.names, m.size ≤ 1
theorem Sx.num (n : Nat) (h : n ≤ 9) : Sx (numE n) := by
  refine ⟨.num n (by omega), ?_, ?_, fun m hm => by rw [Ex.names_eq] at hm; simp [numE, Ex.kind, Ex.of, Ex.namesL] at hm⟩
  · have e : T (numE n) 4 = Lib.itoa n := by show tpw _ (tb (numE n)) 4 = _; rw [tb_num]; rfl
    rw [e]
    have h1 : ∀ n : Nat, n ≤ 9 → (Lib.itoa n).length ≤ 6 := by
      intro n hn
      match n, hn with
      | 0, _ | 1, _ | 2, _ | 3, _ | 4, _ | 5, _ | 6, _ | 7, _ | 8, _ | 9, _ => decide +kernel
    have h2 := h1 n h
    have h3 := Ex.size_pos (numE n)
    omega
  · have e : D (numE n) 4 = 0 := by show dpw _ (dp (numE n)) 4 = _; rw [dp_num]; rfl
    rw [e]; omega
theorem Sx.name (t : List UInt8) (h : isNm t = true) (hl : t.length = 1) : Sx (nameE t) := by
  refine ⟨.name t h, ?_, ?_, fun m hm => by rw [Ex.names_eq] at hm; simp [nameE, Ex.kind, Ex.of, Ex.namesL, Ex.name] at hm; rw [hm]; simp [ba, ByteArray.size]; omega⟩
  · have e : T (nameE t) 4 = t := by show tpw _ (tb (nameE t)) 4 = _; rw [tb_name]; rfl
    have h3 := Ex.size_pos (nameE t)
    rw [e]; omega
  · have e : D (nameE t) 4 = 0 := by show dpw _ (dp (nameE t)) 4 = _; rw [dp_name]; rfl
    rw [e]; omega
theorem Sx.minus {y : Ex} (h : Sx y) : Sx (minusE y) := by
  have hz : (minusE y).size = 1 + y.size := by unfold minusE; rw [Ex.size_eq]; show 1 + Ex.sizes [y] = _; simp [Ex.sizes]
  refine ⟨.minus y h.wf, ?_, ?_, fun m hm => by rw [Ex.names_eq] at hm; simp [minusE, Ex.kind, Ex.of, Ex.namesL] at hm; exact h.one m hm⟩
  · have e : T (minusE y) 4 = 45 :: T y 4 := by show tpw _ (tb (minusE y)) 4 = _; rw [tb_minus]; rfl
    have := h.len
    rw [e, hz, List.length_cons]; omega
  · have e : D (minusE y) 4 = 1 + D y 4 := by show dpw _ (dp (minusE y)) 4 = _; rw [dp_minus]; rfl
    have := h.deep
    rw [e, hz]; omega
theorem Sx.bin (k : Nat) {y z : Ex} (h4 : 4 ≤ k) (h10 : k ≤ 10) (hy : Sx y) (hz : Sx z) : Sx (binE k y z) := by
  have hs : (binE k y z).size = 1 + (y.size + z.size) := by unfold binE; rw [Ex.size_eq]; show 1 + Ex.sizes [y, z] = _; simp [Ex.sizes]
  obtain ⟨r1, r2⟩ := rnk_bin k h4 h10
  have a1 := (T_low y (l := max (rnk k) 2) (l' := 4) (by omega))
  have a2 := (T_low z (l := rnk k + 1) (l' := 4) (by omega))
  have b1 := hy.len
  have b2 := hz.len
  have c1 := hy.deep
  have c2 := hz.deep
  have hsg : ∀ k : Nat, 4 ≤ k → k ≤ 10 → (sgn (k : Int)).length ≤ 2 := seven (by decide) (by decide) (by decide) (by decide) (by decide) (by decide) (by decide)
  have hg := hsg k h4 h10
  have tl : (tb (binE k y z)).length ≤ 6 * y.size + 6 * z.size + 4 := by
    rw [tb_bin k y z h4]
    simp only [List.length_append, List.length_cons]
    omega
  have dl : dp (binE k y z) ≤ y.size + z.size := by rw [dp_bin]; omega
  have hk2 : ¬ ((k : Int) = 2) := by omega
  refine ⟨.bin k y z h4 h10 hy.wf hz.wf, ?_, ?_, fun m hm => by rw [Ex.names_eq] at hm; simp [binE, Ex.kind, Ex.of, Ex.namesL, hk2] at hm; exact hm.elim (hy.one m) (hz.one m)⟩
  · show (tpw _ (tb (binE k y z)) 4).length ≤ _
    rw [hs]; unfold tpw; split
    · simp only [List.length_cons, List.length_append, List.length_nil]; omega
    · omega
  · show dpw _ (dp (binE k y z)) 4 ≤ _
    rw [hs]; unfold dpw; split <;> omega
theorem Sx.ge {e : Ex} (h : Sx e) (hs : e.size ≤ 7) : Ps.GE e := by
  have a := T_low e (l := 1) (l' := 4) (by omega)
  have b := h.len
  have c := h.deep
  exact ⟨h.wf, by omega, by omega, h.one⟩
end Px
attribute [local go_sem] run_store_complex
/-! The walk's own rules for the cuts here: one way, whatever the capacity. -/
section
variable (w : World) (a : Option Addr) (n cap : Nat)
set_option maxRecDepth 100000 in
theorem cut_i1 (h1 : (1 : Int) ≤ n) : (Instr.sliceAt 22 (.slice a n cap) (some (.int .i64 1)) none none).run Try.prog w = .ok (.slice (cutAt a 1 cap 1) (n - 1) (cap - 1)) w :=
  run_cut_l Try.underlying22 rfl Try.sizeOf3 a n cap 1 (by omega) w
set_option maxRecDepth 100000 in
theorem cut_im (m : Int) (h0 : 0 ≤ m) (h1 : m ≤ n) : (Instr.sliceAt 22 (.slice a n cap) (some (.int .i64 m)) none none).run Try.prog w = .ok (.slice (cutAt a m.toNat cap 1) (n - m.toNat) (cap - m.toNat)) w := by
  obtain ⟨k, rfl⟩ := Int.eq_ofNat_of_zero_le h0
  exact run_cut_l Try.underlying22 rfl Try.sizeOf3 a n cap k (by omega) w
set_option maxRecDepth 100000 in
theorem cut_i1m (m : Int) (h0 : 1 ≤ m) (h1 : m ≤ cap) : (Instr.sliceAt 22 (.slice a n cap) (some (.int .i64 1)) (some (.int .i64 m)) none).run Try.prog w = .ok (.slice (cutAt a 1 cap 1) (m.toNat - 1) (cap - 1)) w := by
  obtain ⟨k, rfl⟩ := Int.eq_ofNat_of_zero_le (by omega : 0 ≤ m)
  exact run_cut_lh Try.underlying22 rfl Try.sizeOf3 a n cap 1 k (by omega) (by omega) w
set_option maxRecDepth 100000 in
theorem cut_i3 (h1 : (3 : Int) ≤ cap) : (Instr.sliceAt 22 (.slice a n cap) none (some (.int .i64 3)) none).run Try.prog w = .ok (.slice (cutAt a 0 cap 1) 3 cap) w :=
  run_cut_h Try.underlying22 rfl Try.sizeOf3 a n cap 3 (by omega) w
set_option maxRecDepth 100000 in
theorem cut_a1 (h1 : (1 : Int) ≤ n) : (Instr.sliceAt 23 (.slice a n cap) (some (.int .i64 1)) none none).run Try.prog w = .ok (.slice (cutAt a 1 cap 5) (n - 1) (cap - 1)) w :=
  run_cut_l Try.underlying23 rfl Try.sizeOf79 a n cap 1 (by omega) w
set_option maxRecDepth 100000 in
theorem cut_a16 (h1 : (16 : Int) ≤ cap) : (Instr.sliceAt 23 (.slice a n cap) none (some (.int .i64 16)) none).run Try.prog w = .ok (.slice (cutAt a 0 cap 5) 16 cap) w :=
  run_cut_h Try.underlying23 rfl Try.sizeOf79 a n cap 16 (by omega) w
end
attribute [local go_sem ↓] cut_i1 cut_im cut_i1m
/-- What Expr leaves. -/
def MadeE (w : World) (n : Nat) (r : Ending) (w' : World) : Prop :=
  ∃ (e : Ex) (v : Value), r = .returned (e.val v) ∧ ExsIn w' w.heap.size w'.heap.size e.of v ∧ (e.size ≤ 2 * n + 1 ∧ Px.Sx e) ∧ Kept w w'
theorem made_res {w Wf : World} {e : Ex} {a : Option Addr} {m q : Nat} (tmps : Array Value) (hp : tmps.getD 4 undef = .pointer (some ⟨w.heap.size, 0, none⟩)) (hr : Wf.rangeAt w.heap.size 0 (e.cells (.slice a m q))) :
    (results Try.f25 tmps).run Try.prog Wf = .ok (e.val (.slice a m q)) Wf :=
  results_cell_mid (P := Try.prog) Try.results25 _ _ w.heap.size 0 _ _ hp hr Try.underlying44 rfl esizeEx
def PHe (n : Nat) : Prop := ∀ (l : List Int) (w : World) (v : Value) (deep : Int), l.length ≤ n → IntsR w w.heap.size l v → l.length ≤ 1000 → 0 ≤ deep → deep ≤ 1000000 - n →
  Calls Try.prog 25 #[v, .int .i64 deep] w fun r w' => MadeE w l.length r w'
set_option maxRecDepth 100000 in
set_option maxHeartbeats 2000000 in
theorem expr_of (n : Nat) (H : ∀ m, m < n → PHe m) : PHe n := by
  intro l w v deep hn hi hl hd hd2
  have HA : Hid _ := hi
  have HH : Hid (∀ m, m < n → PHe m) := H
  obtain ⟨a, cap, rfl, hc1, hc2, hcell, hrng⟩ := hi.out
  by_cases h0 : l.length = 0
  · clear H hi hcell hrng
    have e0 : ((l.length : Int) == 0) = true := by rw [h0]; rfl
    go_enter Try.func25, Try.ntmps25
    go_wp2_with fail
    refine bodyPost_ret (v := .agg #[.int .i64 1, .int .i64 1, .string ⟨#[]⟩, .slice none 0 0]) (by simp [results, Try.results25, go_sem]) rfl ⟨.mk 1 1 ⟨#[]⟩ [], _, rfl, ExsD.nil _ _, ⟨?_, Px.Sx.num 1 (by omega)⟩, (Kept.refl _).al _⟩
    rw [Ex.size_eq]; show 1 + Ex.sizes [] ≤ _; simp [Ex.sizes]
  have e0 : ((l.length : Int) == 0) = false := by rw [beq_eq_false_iff_ne]; omega
  obtain ⟨b, o, rfl, hb, c0⟩ := hcell 0 (by omega)
  obtain ⟨x, hx⟩ : ∃ x, l[0] = x := ⟨_, rfl⟩
  rw [hx] at c0
  obtain ⟨x1, x2⟩ := hrng x (by rw [← hx]; exact List.getElem_mem _)
  obtain ⟨k, hk, -, hpk⟩ := pick_nat x 16 (by omega) (by omega)
  have PK : Hid (∀ w, Calls Try.prog 16 #[.int .i64 x, .int .i64 16] w fun e w' => e = .returned (.int .i64 (k : Int)) ∧ w' = w) := hpk
  have hpos : (0 : Int) < (l.length : Int) := by omega
  have HL0 : Hid (l.length ≠ 0) := h0
  clear H hi hcell hrng hx hpk h0
  rw [Nat.add_zero] at c0
  by_cases hleaf : k < 5 ∨ 5 < deep
  · obtain ⟨s, HT, hs⟩ : ∃ s : ByteArray, Hid (∃ t, (Px.isNm t = true ∧ t.length = 1) ∧ s = Px.ba t) ∧ ∀ w, Calls Try.prog 41 #[.int .i64 (x.tdiv 16)] w fun e w' => e = .returned (.string s) ∧ w' = w := by
      obtain ⟨t, ht, hs⟩ := plain_any (x.tdiv 16)
      exact ⟨Px.ba t, ⟨t, ht, rfl⟩, hs⟩
    have PP : Hid (∀ w, Calls Try.prog 41 #[.int .i64 (x.tdiv 16)] w fun e w' => e = .returned (.string s) ∧ w' = w) := hs
    clear hs
    by_cases hk5 : k < 5
    all_goals
      first | (have g5 : (k : Int) < 5 := by omega) | (have g5 : decide ((k : Int) < 5) = false := decide_eq_false (by omega); have g6 : 5 < deep := by omega)
      clear hleaf
      go_enter Try.func25, Try.ntmps25
      go_wp2_with fail
      refine (PK.out _).mono ?_
      rintro e w' ⟨rfl, rfl⟩
      go_wp2_with fail
      refine (PP.out _).mono ?_
      rintro e w' ⟨rfl, rfl⟩
      go_wp2_with fail
      refine bodyPost_ret (v := .agg #[.int .i64 2, .int .i64 0, .string s, .slice none 0 0]) (by simp [results, Try.results25, go_sem]) rfl ⟨.mk 2 0 s [], _, rfl, ExsD.nil _ _, ⟨?_, by obtain ⟨t, ⟨h1, h2⟩, rfl⟩ := HT.out; exact Px.Sx.name t h1 h2⟩, (Kept.refl _).al _⟩
      rw [Ex.size_eq]; show 1 + Ex.sizes [] ≤ _; simp [Ex.sizes]
  have g5 : decide ((k : Int) < 5) = false := decide_eq_false (by omega)
  have g6 : ¬ 5 < deep := by omega
  by_cases hk8 : k < 8
  · have g8 : (k : Int) < 8 := by omega
    obtain ⟨p, hp, -, hpp⟩ := pick_nat (x.tdiv 16) 5 (by omega) (by omega)
    have PP : Hid (∀ w, Calls Try.prog 16 #[.int .i64 (x.tdiv 16), .int .i64 5] w fun e w' => e = .returned (.int .i64 (p : Int)) ∧ w' = w) := hpp
    clear hleaf hpp
    go_enter Try.func25, Try.ntmps25
    go_wp2_with fail
    refine (PK.out _).mono ?_
    rintro e w' ⟨rfl, rfl⟩
    go_wp2_with fail
    refine (PP.out _).mono ?_
    rintro e w' ⟨rfl, rfl⟩
    go_wp2_with fail
    refine bodyPost_ret (v := .agg #[.int .i64 1, .int .i64 p, .string ⟨#[]⟩, .slice none 0 0]) (by simp [results, Try.results25, go_sem]) rfl ⟨.mk 1 p ⟨#[]⟩ [], _, rfl, ExsD.nil _ _, ⟨?_, Px.Sx.num p (by omega)⟩, (Kept.refl _).al _⟩
    rw [Ex.size_eq]; show 1 + Ex.sizes [] ≤ _; simp [Ex.sizes]
  have g8 : decide ((k : Int) < 8) = false := decide_eq_false (by omega)
  obtain ⟨W0, hW0⟩ : ∃ W0, w.alloc (.cells #[.int .i64 0, .int .i64 0, .string ⟨#[]⟩, .slice none 0 0] 44) = W0 := ⟨_, rfl⟩
  have HW0 : Hid (Kept w W0 ∧ W0.heap.size = w.heap.size + 1 ∧ W0.there w.heap.size 0 4 ∧ W0.cell? ⟨w.heap.size, 0, none⟩ = some (.int .i64 0) ∧ W0.cell? ⟨w.heap.size, 1, none⟩ = some (.int .i64 0) ∧ W0.cell? ⟨w.heap.size, 2, none⟩ = some (.string ⟨#[]⟩) ∧ W0.cell? ⟨w.heap.size, 3, none⟩ = some (.slice none 0 0) ∧ ∀ j, W0.frozen? ⟨w.heap.size, j, none⟩ = false) := by
    rw [← hW0]
    refine ⟨(Kept.refl _).al _, by simp, ?_, by simp, by simp, by simp, by simp, by simp⟩
    exact there_of 4 (fun j hj => by
      match j, hj with
      | 0, _ => exact ⟨.int .i64 0, by simp⟩
      | 1, _ => exact ⟨.int .i64 0, by simp⟩
      | 2, _ => exact ⟨.string ⟨#[]⟩, by simp⟩
      | 3, _ => exact ⟨.slice none 0 0, by simp⟩) (by simp)
  have c0w : W0.cell? ⟨b, o, none⟩ = some (.int .i64 x) := HW0.out.1.cellS c0
  by_cases hk88 : k = 8
  · subst hk88
    have PE : Hid (∀ W, Kept W0 W → Calls Try.prog 25 #[.slice (cutAt (some ⟨b, o, none⟩) 1 cap 1) (l.length - 1) (cap - 1), .int .i64 (deep + 1)] W fun r w' => ∃ (e1 : Ex) (a1 : Option Addr) (n1 q1 : Nat), r = .returned (.agg #[.int .i64 e1.kind, .int .i64 e1.n, .string e1.name, .slice a1 n1 q1]) ∧ Hid (ExsIn w' W.heap.size w'.heap.size e1.of (.slice a1 n1 q1) ∧ (e1.size ≤ 2 * (l.length - 1) + 1 ∧ Px.Sx e1) ∧ Kept W w' ∧ Kept W0 w') ∧
        w'.cell? ⟨w.heap.size, 0, none⟩ = some (.int .i64 0) ∧ w'.cell? ⟨w.heap.size, 1, none⟩ = some (.int .i64 0) ∧ w'.cell? ⟨w.heap.size, 2, none⟩ = some (.string ⟨#[]⟩) ∧ w'.cell? ⟨w.heap.size, 3, none⟩ = some (.slice none 0 0) ∧ ∀ j, w'.frozen? ⟨w.heap.size, j, none⟩ = false) := by
      intro W hW
      have h0 := HL0.out
      have hcut := (HA.out.kept (HW0.out.1.then hW)).cut 1 l.length (by omega) (Nat.le_refl _)
      have hlen : ((l.take l.length).drop 1).length = l.length - 1 := by simp
      have := HH.out (n - 1) (by omega) ((l.take l.length).drop 1) W _ (deep + 1) (by omega) (hcut.mono (Nat.le_trans HW0.out.1.size hW.size)) (by omega) (by omega) (by omega)
      refine this.mono ?_
      rintro r w1 ⟨e1, v1, rfl, h1, h2, h3⟩
      obtain ⟨a1, n1, q1, rfl⟩ := h1.form
      have KK : Kept W0 w1 := hW.then h3
      obtain ⟨_, hz, _, z0, z1, z2, z3, zf⟩ := HW0.out
      exact ⟨e1, a1, n1, q1, rfl, ⟨h1, by rw [hlen] at h2; exact h2, h3, KK⟩, KK.cellS z0, KK.cellS z1, KK.cellS z2, KK.cellS z3, fun j => (KK.frozen (by simp; omega)).trans (zf j)⟩
    clear hleaf
    go_enter Try.func25, Try.ntmps25
    go_wp2_with fail
    refine (PK.out _).mono ?_
    rintro e w' ⟨rfl, hw'⟩
    obtain rfl : W0 = w' := hw'.symm
    clear hw'
    have h1n : (1 : Int) ≤ (l.length : Int) := by omega
    go_wp2_with fail
    refine (PE.out _ (Kept.refl _)).mono ?_
    rintro r w1 ⟨e1, a1, n1, q1, rfl, HV, z0, z1, z2, z3, zf⟩
    have hzw : w.heap.size < w1.heap.size := block_lt_of_cell z0
    go_wp2_with fail
    have HT : w1.there w.heap.size 0 4 := there_of 4 (fun j hj => by
      match j, hj with
      | 0, _ => exact ⟨_, z0⟩
      | 1, _ => exact ⟨_, z1⟩
      | 2, _ => exact ⟨_, z2⟩
      | 3, _ => exact ⟨_, z3⟩) zf
    obtain ⟨f1, f2, f3, f4, f5⟩ := made_fin (cs := (Ex.mk 3 0 ⟨#[]⟩ [e1]).cells (.slice (some ⟨w1.heap.size, 0, none⟩) 1 1)) (HW0.out.1.then HV.out.2.2.2) HT rfl (.cells #[.int .i64 e1.kind, .int .i64 e1.n, .string e1.name, .slice a1 n1 q1] 44)
    refine bodyPost_ret (v := (Ex.mk 3 0 ⟨#[]⟩ [e1]).val (.slice (some ⟨w1.heap.size, 0, none⟩) 1 1)) (w := ((w1.setCells w.heap.size 0 ((Ex.mk 3 0 ⟨#[]⟩ [e1]).cells (.slice (some ⟨w1.heap.size, 0, none⟩) 1 1))).alloc (.cells #[.int .i64 e1.kind, .int .i64 e1.n, .string e1.name, .slice a1 n1 q1] 44))) (made_res _ rfl f2) rfl ⟨_, _, rfl, ?_, ⟨?_, ?_⟩, f1⟩
    · refine ExsD.one ⟨by omega, by omega⟩ f3 ?_
      have h2 := HW0.out.2.1
      exact ((HV.out.1.mono (Rng.up (by omega) (Nat.le_refl _))).stays f5).mono (Rng.up (by omega) (by omega))
    · have := HV.out.2.1.1
      have := HL0.out
      rw [Ex.size_eq]; show 1 + Ex.sizes [e1] ≤ _; simp [Ex.sizes]; omega
    · exact Px.Sx.minus HV.out.2.1.2
  · obtain ⟨p, hp, -, hpp⟩ := pick_nat (x.tdiv 16) 7 (by omega) (by omega)
    have PP : Hid (∀ w, Calls Try.prog 16 #[.int .i64 (x.tdiv 16), .int .i64 7] w fun e w' => e = .returned (.int .i64 (p : Int)) ∧ w' = w) := hpp
    have g88 : ((k : Int) == 8) = false := by rw [beq_eq_false_iff_ne]; omega
    clear hleaf hpp
    have h1n : (1 : Int) ≤ (l.length : Int) := by omega
    go_enter Try.func25, Try.ntmps25
    go_wp2_with fail
    refine (PK.out _).mono ?_
    rintro e w' ⟨rfl, hw'⟩
    obtain rfl : W0 = w' := hw'.symm
    clear hw'
    go_wp2_with fail
    refine (PP.out _).mono ?_
    rintro e w' ⟨rfl, hw'⟩
    obtain rfl : W0 = w' := hw'.symm
    clear hw'
    go_wp2_with fail
    obtain ⟨m, hm⟩ : ∃ m : Nat, m = 1 + l.length / 2 := ⟨_, rfl⟩
    have HM : Hid (m = 1 + l.length / 2) := hm
    have hml : m ≤ l.length := by have := HL0.out; omega
    have hm1 : 1 ≤ m := by omega
    have hmi : (1 : Int) + (l.length : Int) / 2 = (m : Int) := by omega
    have POST : Hid (∀ W w1 : World, Kept W0 W → Kept W w1 → Kept W0 w1 ∧ w1.cell? ⟨w.heap.size, 0, none⟩ = some (.int .i64 0) ∧ w1.cell? ⟨w.heap.size, 1, none⟩ = some (.int .i64 0) ∧ w1.cell? ⟨w.heap.size, 2, none⟩ = some (.string ⟨#[]⟩) ∧ w1.cell? ⟨w.heap.size, 3, none⟩ = some (.slice none 0 0) ∧ ∀ j, w1.frozen? ⟨w.heap.size, j, none⟩ = false) := by
      intro W w1 hW h3
      have KK : Kept W0 w1 := hW.then h3
      obtain ⟨_, hz, _, z0, z1, z2, z3, zf⟩ := HW0.out
      exact ⟨KK, KK.cellS z0, KK.cellS z1, KK.cellS z2, KK.cellS z3, fun j => (KK.frozen (by simp; omega)).trans (zf j)⟩
    have PE1 : Hid (∀ W, Kept W0 W → Calls Try.prog 25 #[.slice (cutAt (some ⟨b, o, none⟩) 1 cap 1) (m - 1) (cap - 1), .int .i64 (deep + 1)] W fun r w' => ∃ (e1 : Ex) (a1 : Option Addr) (n1 q1 : Nat), r = .returned (.agg #[.int .i64 e1.kind, .int .i64 e1.n, .string e1.name, .slice a1 n1 q1]) ∧ Hid (ExsIn w' W.heap.size w'.heap.size e1.of (.slice a1 n1 q1) ∧ (e1.size ≤ 2 * (m - 1) + 1 ∧ Px.Sx e1) ∧ Kept W w' ∧ Kept W0 w')) := by
      intro W hW
      have h0 := HL0.out
      have hcut := (HA.out.kept (HW0.out.1.then hW)).cut 1 m hm1 hml
      have hlen : ((l.take m).drop 1).length = m - 1 := by simp; omega
      have := HH.out (n - 1) (by omega) ((l.take m).drop 1) W _ (deep + 1) (by omega) (hcut.mono (Nat.le_trans HW0.out.1.size hW.size)) (by omega) (by omega) (by omega)
      refine this.mono ?_
      rintro r w1 ⟨e1, v1, rfl, h1, h2, h3⟩
      obtain ⟨a1, n1, q1, rfl⟩ := h1.form
      exact ⟨e1, a1, n1, q1, rfl, h1, by rw [hlen] at h2; exact h2, h3, hW.then h3⟩
    have PE2 : Hid (∀ W, Kept W0 W → Calls Try.prog 25 #[.slice (cutAt (some ⟨b, o, none⟩) m cap 1) (l.length - m) (cap - m), .int .i64 (deep + 1)] W fun r w' => ∃ (e1 : Ex) (a1 : Option Addr) (n1 q1 : Nat), r = .returned (.agg #[.int .i64 e1.kind, .int .i64 e1.n, .string e1.name, .slice a1 n1 q1]) ∧ Hid (ExsIn w' W.heap.size w'.heap.size e1.of (.slice a1 n1 q1) ∧ (e1.size ≤ 2 * (l.length - m) + 1 ∧ Px.Sx e1) ∧ Kept W w' ∧ Kept W0 w') ∧
        w'.cell? ⟨w.heap.size, 0, none⟩ = some (.int .i64 0) ∧ w'.cell? ⟨w.heap.size, 1, none⟩ = some (.int .i64 0) ∧ w'.cell? ⟨w.heap.size, 2, none⟩ = some (.string ⟨#[]⟩) ∧ w'.cell? ⟨w.heap.size, 3, none⟩ = some (.slice none 0 0) ∧ (∀ j, w'.frozen? ⟨w.heap.size, j, none⟩ = false) ∧ w.heap.size < w'.heap.size) := by
      intro W hW
      have h0 := HL0.out
      have hcut := (HA.out.kept (HW0.out.1.then hW)).cut m l.length hml (Nat.le_refl _)
      have hlen : ((l.take l.length).drop m).length = l.length - m := by simp
      have := HH.out (n - 1) (by omega) ((l.take l.length).drop m) W _ (deep + 1) (by omega) (hcut.mono (Nat.le_trans HW0.out.1.size hW.size)) (by omega) (by omega) (by omega)
      refine this.mono ?_
      rintro r w1 ⟨e1, v1, rfl, h1, h2, h3⟩
      obtain ⟨a1, n1, q1, rfl⟩ := h1.form
      obtain ⟨KK, z0, z1, z2, z3, zf⟩ := POST.out W w1 hW h3
      exact ⟨e1, a1, n1, q1, rfl, ⟨h1, by rw [hlen] at h2; exact h2, h3, KK⟩, z0, z1, z2, z3, zf, block_lt_of_cell z0⟩
    have hwr : IntKind.i64.wrap (deep + 1) = deep + 1 := by rw [IntKind.wrap_i64]; omega
    have hm1i : (1 : Int) ≤ (m : Int) := by omega
    have hmli : (m : Int) ≤ (l.length : Int) := by omega
    have hmci : (m : Int) ≤ (cap : Int) := by omega
    have hm0i : (0 : Int) ≤ (m : Int) := by omega
    simp only [hmi]
    clear hm hmi
    go_region_with (first | (go_at_call_of 25 (cutAt (some ⟨b, o, none⟩) 1 cap 1); refine (PE1.out _ (Kept.refl W0).dr).mono ?_; rintro r w1 ⟨e1, a1, n1, q1, rfl, HV⟩) | (go_at_call_of 25 (cutAt (some ⟨b, o, none⟩) m cap 1); refine (PE2.out _ HV.out.2.2.2).mono ?_; rintro r w2 ⟨e2, a2, n2, q2, rfl, HU, z0, z1, z2, z3, zf, hzw⟩))
    go_wp2_with fail
    have HT : w2.there w.heap.size 0 4 := there_of 4 (fun j hj => by
      match j, hj with
      | 0, _ => exact ⟨_, z0⟩
      | 1, _ => exact ⟨_, z1⟩
      | 2, _ => exact ⟨_, z2⟩
      | 3, _ => exact ⟨_, z3⟩) zf
    obtain ⟨f1, f2, f3, f4, f5⟩ := made_fin (cs := (Ex.mk (4 + (p : Int)) 0 ⟨#[]⟩ [e1, e2]).cells (.slice (some ⟨w2.heap.size, 0, none⟩) 2 2)) (HW0.out.1.then HU.out.2.2.2) HT rfl (.cells #[.int .i64 e1.kind, .int .i64 e1.n, .string e1.name, .slice a1 n1 q1, .int .i64 e2.kind, .int .i64 e2.n, .string e2.name, .slice a2 n2 q2] 44)
    refine bodyPost_ret (v := (Ex.mk (4 + (p : Int)) 0 ⟨#[]⟩ [e1, e2]).val (.slice (some ⟨w2.heap.size, 0, none⟩) 2 2)) (w := ((w2.setCells w.heap.size 0 ((Ex.mk (4 + (p : Int)) 0 ⟨#[]⟩ [e1, e2]).cells (.slice (some ⟨w2.heap.size, 0, none⟩) 2 2))).alloc (.cells #[.int .i64 e1.kind, .int .i64 e1.n, .string e1.name, .slice a1 n1 q1, .int .i64 e2.kind, .int .i64 e2.n, .string e2.name, .slice a2 n2 q2] 44))) (made_res _ rfl f2) rfl ⟨_, _, rfl, ?_, ⟨?_, ?_⟩, f1⟩
    · have h2 := HW0.out.2.1
      have hz12 := HU.out.2.2.1.size
      have hz1 := HV.out.2.2.2.size
      refine ExsD.two ⟨by omega, by omega⟩ f3 ?_ ?_
      · exact (((HV.out.1.stays (HU.out.2.2.1.stays (Nat.le_refl _))).mono (Rng.up (by show _ ≤ W0.heap.size; omega) hz12)).stays f5).mono (Rng.up (by omega) (by omega))
      · exact ((HU.out.1.mono (Rng.up (by omega) (Nat.le_refl _))).stays f5).mono (Rng.up (by omega) (by omega))
    · have h1 := HV.out.2.1.1
      have h2 := HU.out.2.1.1
      have h3 := HL0.out
      rw [Ex.size_eq]; show 1 + Ex.sizes [e1, e2] ≤ _; simp [Ex.sizes]; omega
    · have := Px.Sx.bin (4 + p) (by omega) (by omega) HV.out.2.1.2 HU.out.2.1.2
      unfold Px.binE at this
      rwa [show ((4 + p : Nat) : Int) = 4 + (p : Int) by omega] at this
theorem expr_any (n : Nat) : PHe n := by
  induction n using Nat.strongRecOn with
  | _ n ih => exact expr_of n ih
end Go.Proofs.Ytnfkjmafhaecgaa
namespace Go.Proofs.Ytnfkjmafhaecgaa
open Go.RowKit
attribute [local go_sem] run_store_complex
attribute [local go_sem ↓] cut_i3 cut_a16
/-- A raw statement. -/
structure Ac where
  what : Int
  a : Int
  b : Int
  n : Int
  e : List Int
/-- Its numbers are within their kind. -/
def Ac.inR (x : Ac) : Prop := (-9223372036854775808 ≤ x.what ∧ x.what ≤ 9223372036854775807) ∧ (-9223372036854775808 ≤ x.a ∧ x.a ≤ 9223372036854775807) ∧ (-9223372036854775808 ≤ x.b ∧ x.b ≤ 9223372036854775807) ∧ (-9223372036854775808 ≤ x.n ∧ x.n ≤ 9223372036854775807)
/-- Raw statements lie in memory, as the slice v says, in blocks below hi. -/
structure ActsR (w : World) (hi : Nat) (l : List Ac) (v : Value) : Prop where
  out : ∃ (a : Option Addr) (cap : Nat), v = .slice a l.length cap ∧ l.length ≤ cap ∧ cap ≤ 9223372036854775807 ∧ (∀ i (_ : i < l.length), ∃ b o a1 n1 q1, a = some ⟨b, o, none⟩ ∧ b < hi ∧ w.cell? ⟨b, o + i * 5, none⟩ = some (.int .i64 l[i].what) ∧ w.cell? ⟨b, o + i * 5 + 1, none⟩ = some (.int .i64 l[i].a) ∧ w.cell? ⟨b, o + i * 5 + 2, none⟩ = some (.int .i64 l[i].b) ∧ w.cell? ⟨b, o + i * 5 + 3, none⟩ = some (.int .i64 l[i].n) ∧ w.cell? ⟨b, o + i * 5 + 4, none⟩ = some (.slice a1 n1 q1) ∧ IntsR w hi l[i].e (.slice a1 n1 q1)) ∧ ∀ x ∈ l, x.inR
theorem ActsR.kept {w w' : World} {hi : Nat} {l : List Ac} {v : Value} (h : ActsR w hi l v) (k : Kept w w') : ActsR w' hi l v := by
  obtain ⟨a, cap, e, h1, h2, h3, h4⟩ := h.out
  refine ⟨a, cap, e, h1, h2, fun i hi => ?_, h4⟩
  obtain ⟨b, o, a1, n1, q1, e1, e2, e3, e4, e5, e6, e7, e8⟩ := h3 i hi
  exact ⟨b, o, a1, n1, q1, e1, e2, k.cellS e3, k.cellS e4, k.cellS e5, k.cellS e6, k.cellS e7, e8.kept k⟩
theorem ActsR.cut {w : World} {hi : Nat} {l : List Ac} {a : Option Addr} {n cap : Nat} (h : ActsR w hi l (.slice a n cap)) (i j : Nat) (hij : i ≤ j) (hj : j ≤ l.length) : ActsR w hi ((l.take j).drop i) (.slice (cutAt a i cap 5) (j - i) (cap - i)) := by
  obtain ⟨a, cap, e, h1, h2, h3, h4⟩ := h.out
  cases e
  have hlen : ((l.take j).drop i).length = j - i := by rw [List.length_drop, List.length_take]; omega
  refine ⟨cutAt a i cap 5, cap - i, by rw [hlen], by rw [hlen]; omega, by omega, fun k hk => ?_, fun x hx => h4 x (List.mem_of_mem_take (List.mem_of_mem_drop hx))⟩
  rw [hlen] at hk
  obtain ⟨b, o, a1, n1, q1, rfl, e2, e3, e4, e5, e6, e7, e8⟩ := h3 (i + k) (by omega)
  have hg : ((l.take j).drop i)[k]'(by rw [hlen]; exact hk) = l[i + k]'(by omega) := by simp [List.getElem_drop, List.getElem_take]
  rw [hg]
  have ho : o + i * 5 + k * 5 = o + (i + k) * 5 := by omega
  refine ⟨b, o + i * 5, a1, n1, q1, cutAt_some (by omega), e2, ?_⟩
  rw [ho]
  exact ⟨e3, e4, e5, e6, e7, e8⟩
set_option maxRecDepth 100000 in
set_option maxHeartbeats 2000000 in
theorem short_any (x : Ac) (w : World) (ev : Value) (he : IntsR w w.heap.size x.e ev) :
    Calls Try.prog 42 #[.agg #[.int .i64 x.what, .int .i64 x.a, .int .i64 x.b, .int .i64 x.n, ev]] w fun r w' => MadeE w 3 r w' := by
  have HA : Hid _ := he
  obtain ⟨a, cap, rfl, hc1, hc2, -, -⟩ := he.out
  clear he
  obtain ⟨W0, hW0⟩ : ∃ W0, (w.alloc (.cells #[.int .i64 x.what, .int .i64 x.a, .int .i64 x.b, .int .i64 x.n, .slice a x.e.length cap] 79)).alloc (.cells #[.int .i64 0, .int .i64 0, .string ⟨#[]⟩, .slice none 0 0] 44) = W0 := ⟨_, rfl⟩
  have HW0 : Hid (Kept w W0 ∧ W0.heap.size = w.heap.size + 2 ∧ W0.cell? ⟨w.heap.size + 1, 0, none⟩ = some (.int .i64 0) ∧ W0.cell? ⟨w.heap.size + 1, 1, none⟩ = some (.int .i64 0) ∧ W0.cell? ⟨w.heap.size + 1, 2, none⟩ = some (.string ⟨#[]⟩) ∧ W0.cell? ⟨w.heap.size + 1, 3, none⟩ = some (.slice none 0 0) ∧ ∀ j, W0.frozen? ⟨w.heap.size + 1, j, none⟩ = false) := by
    rw [← hW0]
    exact ⟨((Kept.refl _).al _).al _, by simp, by simp, by simp, by simp, by simp, by simp⟩
  have b4 : W0.cell? ⟨w.heap.size, 4, none⟩ = some (.slice a x.e.length cap) := by rw [← hW0]; simp
  have PE : Hid (∀ (l : List Int) (v : Value), IntsR w w.heap.size l v → l.length ≤ 3 → Calls Try.prog 25 #[v, .int .i64 0] W0 fun r w' => ∃ (e1 : Ex) (a1 : Option Addr) (n1 q1 : Nat), r = .returned (.agg #[.int .i64 e1.kind, .int .i64 e1.n, .string e1.name, .slice a1 n1 q1]) ∧ Hid (ExsIn w' W0.heap.size w'.heap.size e1.of (.slice a1 n1 q1) ∧ (e1.size ≤ 7 ∧ Px.Sx e1) ∧ Kept W0 w') ∧
      w'.cell? ⟨w.heap.size + 1, 0, none⟩ = some (.int .i64 0) ∧ w'.cell? ⟨w.heap.size + 1, 1, none⟩ = some (.int .i64 0) ∧ w'.cell? ⟨w.heap.size + 1, 2, none⟩ = some (.string ⟨#[]⟩) ∧ w'.cell? ⟨w.heap.size + 1, 3, none⟩ = some (.slice none 0 0) ∧ ∀ j, w'.frozen? ⟨w.heap.size + 1, j, none⟩ = false) := by
    intro l v hv hl
    refine (expr_any 3 l W0 v 0 hl ((hv.kept HW0.out.1).mono HW0.out.1.size) (by omega) (by omega) (by omega)).mono ?_
    rintro r w1 ⟨e1, v1, rfl, h1, ⟨h2, h2s⟩, h3⟩
    obtain ⟨a1, n1, q1, rfl⟩ := h1.form
    obtain ⟨_, hz, z0, z1, z2, z3, zf⟩ := HW0.out
    exact ⟨e1, a1, n1, q1, rfl, ⟨h1, ⟨by omega, h2s⟩, h3⟩, h3.cellS z0, h3.cellS z1, h3.cellS z2, h3.cellS z3, fun j => (h3.frozen (by simp; omega)).trans (zf j)⟩
  by_cases h3 : x.e.length ≤ 3
  · have g3 : ¬ (3 : Int) < (x.e.length : Int) := by omega
    go_enter Try.func42, Try.ntmps42
    go_wp2_with fail
    refine (PE.out x.e _ HA.out h3).mono ?_
    rintro r w1 ⟨e1, a1, n1, q1, rfl, HV, z0, z1, z2, z3, zf⟩
    go_wp2_with fail
    have HT : w1.there (w.heap.size + 1) 0 4 := there_of 4 (fun j hj => by
      match j, hj with
      | 0, _ => exact ⟨_, z0⟩
      | 1, _ => exact ⟨_, z1⟩
      | 2, _ => exact ⟨_, z2⟩
      | 3, _ => exact ⟨_, z3⟩) zf
    have hz := size_setCells (w.heap.size + 1) (e1.cells (.slice a1 n1 q1)) 0 w1
    have h2 := HW0.out.2.1
    refine bodyPost_ret (v := e1.val (.slice a1 n1 q1)) (w := w1.setCells (w.heap.size + 1) 0 (e1.cells (.slice a1 n1 q1))) (results_cell_mid (P := Try.prog) Try.results42 _ _ (w.heap.size + 1) 0 _ _ rfl (World.rangeAt_setCells_same _ _ _ _ HT) Try.underlying44 rfl esizeEx) rfl ⟨e1, _, rfl, ?_, HV.out.2.1, Below.setCells (HW0.out.1.then HV.out.2.2) (by omega) _ _⟩
    exact (HV.out.1.stays fun i hi => heap_setCells _ _ _ _ i (by have := hi.1; omega)).mono (Rng.up (by omega) (by omega))
  · have g3 : (3 : Int) < (x.e.length : Int) := by omega
    have g4 : (3 : Int) ≤ (cap : Int) := by omega
    have hcut := HA.out.cut 0 3 (by omega) (by omega)
    rw [Nat.sub_zero, Nat.sub_zero] at hcut
    have HC : Hid _ := PE.out _ _ hcut (by simp; omega)
    clear hcut
    go_enter Try.func42, Try.ntmps42
    go_wp2_with fail
    refine Calls.mono HC.out ?_
    rintro r w1 ⟨e1, a1, n1, q1, rfl, HV, z0, z1, z2, z3, zf⟩
    go_wp2_with fail
    have HT : w1.there (w.heap.size + 1) 0 4 := there_of 4 (fun j hj => by
      match j, hj with
      | 0, _ => exact ⟨_, z0⟩
      | 1, _ => exact ⟨_, z1⟩
      | 2, _ => exact ⟨_, z2⟩
      | 3, _ => exact ⟨_, z3⟩) zf
    have hz := size_setCells (w.heap.size + 1) (e1.cells (.slice a1 n1 q1)) 0 w1
    have h2 := HW0.out.2.1
    refine bodyPost_ret (v := e1.val (.slice a1 n1 q1)) (w := w1.setCells (w.heap.size + 1) 0 (e1.cells (.slice a1 n1 q1))) (results_cell_mid (P := Try.prog) Try.results42 _ _ (w.heap.size + 1) 0 _ _ rfl (World.rangeAt_setCells_same _ _ _ _ HT) Try.underlying44 rfl esizeEx) rfl ⟨e1, _, rfl, ?_, HV.out.2.1, Below.setCells (HW0.out.1.then HV.out.2.2) (by omega) _ _⟩
    exact (HV.out.1.stays fun i hi => heap_setCells _ _ _ _ i (by have := hi.1; omega)).mono (Rng.up (by omega) (by omega))
set_option maxHeartbeats 400000 in
theorem acts_any (l : List Ac) (w : World) (hi : Nat) (v : Value) (h : ActsR w hi l v) :
    Calls Try.prog 29 #[v] w fun r w' => ∃ l' a' n' q', r = .returned (.slice a' n' q') ∧ ActsR w hi l' (.slice a' n' q') ∧ l'.length ≤ 16 ∧ w' = w := by
  have HA : Hid _ := h
  obtain ⟨a, cap, rfl, hc1, hc2, -, -⟩ := h.out
  clear h
  by_cases h3 : l.length ≤ 16
  · have g3 : ¬ (16 : Int) < (l.length : Int) := by omega
    go_enter Try.func29, Try.ntmps29
    go_wp2_with fail
    go_ret
    exact ⟨l, _, _, _, rfl, HA.out, h3, rfl⟩
  · have g3 : (16 : Int) < (l.length : Int) := by omega
    have g4 : (16 : Int) ≤ (cap : Int) := by omega
    go_enter Try.func29, Try.ntmps29
    go_wp2_with fail
    go_ret
    have hcut := HA.out.cut 0 16 (by omega) (by omega)
    rw [Nat.sub_zero, Nat.sub_zero] at hcut
    exact ⟨_, _, _, _, rfl, hcut, by simp; omega, rfl⟩
end Go.Proofs.Ytnfkjmafhaecgaa
namespace Go.Proofs.Ytnfkjmafhaecgaa
open Go.RowKit
/-- How deep blocks may still be within one another. -/
def Ed (deep : Int) : Nat := (3 - deep).toNat
theorem Ed_succ {deep : Int} (h : deep < 3) : Ed deep = Ed (deep + 1) + 1 := by unfold Ed; omega
/-- Statements that may be shown. -/
def OKs (e : Nat) (l : List St) : Prop := ∀ s ∈ l, Ps.Gd e s
theorem OKs.nil (e : Nat) : OKs e [] := fun _ h => by cases h
theorem OKs.append {e : Nat} {l m : List St} (h : OKs e l) (k : OKs e m) : OKs e (l ++ m) := fun x hx => (List.mem_append.1 hx).elim (h x) (k x)
theorem OKs.one {e : Nat} {s : St} (h : Ps.Gd e s) : OKs e [s] := fun x hx => by
  obtain rfl : x = s := by simpa using hx
  exact h
/-- A name. -/
def Nam (s : ByteArray) : Prop := ∃ t, (Px.isNm t = true ∧ t.length = 1) ∧ s = Px.ba t
theorem Nam.two {s a b : ByteArray} (h : s = a ∨ s = b) (ha : Nam a) (hb : Nam b) : Nam s := by rcases h with rfl | rfl <;> assumption
theorem OKs.assign {e : Nat} {s : ByteArray} {x : Ex} (h : Nam s) (hx : x.size ≤ 7 ∧ Px.Sx x) : OKs e [.mk 1 s ⟨#[]⟩ 0 x [] [] 0 0] := by
  obtain ⟨t, ht, rfl⟩ := h
  exact OKs.one (.assign e t x 0 0 ht.1 (hx.2.ge hx.1) ht.2)
theorem OKs.word {e : Nat} {k : Int} {s : ByteArray} (hk : k = 2 ∨ k = 3 ∨ k = 9 ∨ k = 10) (h : Nam s) : OKs e [.mk k s ⟨#[]⟩ 0 (.mk 0 0 ⟨#[]⟩ []) [] [] 0 0] := by
  obtain ⟨t, ht, rfl⟩ := h
  exact OKs.one (.word e k t 0 0 hk ht.1 ht.2)
theorem OKs.send {e : Nat} {s : ByteArray} {x : Ex} (h : Nam s) (hx : x.size ≤ 7 ∧ Px.Sx x) : OKs e [.mk 4 s ⟨#[]⟩ 0 x [] [] 0 0] := by
  obtain ⟨t, ht, rfl⟩ := h
  exact OKs.one (.send e t x 0 0 ht.1 (hx.2.ge hx.1) ht.2)
theorem OKs.recv {e : Nat} {s u : ByteArray} (h : Nam s) (h2 : Nam u) : OKs e [.mk 5 s u 0 (.mk 0 0 ⟨#[]⟩ []) [] [] 0 0] := by
  obtain ⟨t, ht, rfl⟩ := h
  obtain ⟨t2, ht2, rfl⟩ := h2
  exact OKs.one (.recv e t t2 0 0 ht.1 ht2.1 ht.2 ht2.2)
theorem OKs.print {e : Nat} {x : Ex} (hx : x.size ≤ 7 ∧ Px.Sx x) : OKs e [.mk 6 ⟨#[]⟩ ⟨#[]⟩ 0 x [] [] 0 0] := OKs.one (.print e x 0 0 (hx.2.ge hx.1))
theorem OKs.cond {deep : Int} (hd : deep < 3) {x : Ex} (hx : x.size ≤ 7 ∧ Px.Sx x) {b c : List St} (hb : OKs (Ed (deep + 1)) b) (hc : OKs (Ed (deep + 1)) c) : OKs (Ed deep) [.mk 7 ⟨#[]⟩ ⟨#[]⟩ 0 x b c 0 0] := by
  rw [Ed_succ hd]
  exact OKs.one (.cond _ x b c 0 0 (hx.2.ge hx.1) hb hc)
theorem OKs.rep {deep : Int} (hd : deep < 3) {n : Nat} (hn : n ≤ 9) {b : List St} (hb : OKs (Ed (deep + 1)) b) : OKs (Ed deep) [.mk 8 ⟨#[]⟩ ⟨#[]⟩ (n : Int) (.mk 0 0 ⟨#[]⟩ []) b [] 0 0] := by
  rw [Ed_succ hd]
  exact OKs.one (.rep _ n b 0 0 hn hb)
theorem nam1 (c : UInt8) (h : Px.isNm [c] = true) : Nam ⟨#[c]⟩ := ⟨[c], ⟨h, rfl⟩, rfl⟩
def sliceLen : Value → Nat | .slice _ n _ => n | _ => 0
/-- What stmts leaves: some statements, and the rest of the acts. -/
def MadeS (w : World) (hi n : Nat) (most : Int) (ed : Nat) (r : Ending) (w' : World) : Prop :=
  ∃ (ss : List St) (a1 : Option Addr) (n1 q1 : Nat) (rest : List Ac) (a2 : Option Addr) (n2 q2 : Nat), r = .returned (.tuple #[.slice a1 n1 q1, .slice a2 n2 q2]) ∧
    Hid (StsIn w' w.heap.size w'.heap.size ss (.slice a1 n1 q1) ∧ ActsR w' hi rest (.slice a2 n2 q2) ∧ St.sizes ss + rest.length ≤ n ∧ OKs ed ss ∧ (ss.length : Int) ≤ max 0 most ∧ Kept w w')
/-- Where stmts stands before a round. -/
structure SmI (w wr : World) (hi n : Nat) (most : Int) (ed : Nat) (ls : List Ac) (lv : Value) (ps : List Item) (out : Value) : Prop where
  acts : ActsR wr hi ls lv
  own : OwnK wr w.heap.size (Far w.heap.size wr out) ps out
  kept : Kept w wr
  size : St.sizes (ps.map (·.s)) + ls.length ≤ n
  ok : OKs ed (ps.map (·.s))
  most : (ps.length : Int) ≤ max 0 most
theorem ActsR.below {w w' : World} {hi : Nat} {l : List Ac} {v : Value} (h : ActsR w hi l v) (k : Below hi w w') : ActsR w' hi l v := by
  obtain ⟨a, cap, e, e1, e2, e3, e4⟩ := h.out
  refine ⟨a, cap, e, e1, e2, fun i hi' => ?_, e4⟩
  obtain ⟨b, o, a1, n1, q1, f1, f2, f3, f4, f5, f6, f7, f8⟩ := e3 i hi'
  refine ⟨b, o, a1, n1, q1, f1, f2, (k.cell f2).trans f3, (k.cell f2).trans f4, (k.cell f2).trans f5, (k.cell f2).trans f6, (k.cell f2).trans f7, ?_⟩
  obtain ⟨a', cap', g, g1, g2, g3, g4⟩ := f8.out
  refine ⟨a', cap', g, g1, g2, fun j hj => ?_, g4⟩
  obtain ⟨b', o', x1, x2, x3⟩ := g3 j hj
  exact ⟨b', o', x1, x2, (k.cell (by exact x2)).trans x3⟩
theorem ActsR.len {w : World} {hi : Nat} {l : List Ac} {a : Option Addr} {n q : Nat} (h : ActsR w hi l (.slice a n q)) : l.length = n := by
  obtain ⟨a, cap, e, _⟩ := h.out
  cases e; rfl
/-- Behind the append of what was made. -/
theorem SmI.next {w wr W w4 : World} {hi n : Nat} {most : Int} {ed : Nat} {ls rest : List Ac} {lv rv : Value} {ps : List Item} {out out' : Value} {p : Item} (h : SmI w wr hi n most ed ls lv ps out) (k : Kept wr W) (hp : p.InD W (Rng wr.heap.size W.heap.size))
    (hG : Grew W w.heap.size 46 11 out ps.length (itCells ps) 1 p.cells out' w4) (hr : ActsR W hi rest rv) (hhi : hi ≤ w.heap.size) (hs : St.size p.s + rest.length ≤ ls.length) (ho : OKs ed [p.s]) (hm : (ps.length : Int) < most) :
    SmI w w4 hi n most ed rest rv (ps ++ [p]) out' := by
  obtain ⟨h1, h2⟩ := ab_one h.own k hp hG
  have hb : Below w.heap.size wr w4 := h2.below h.own.le h.own.base_le
  have hbW : Below w.heap.size W w4 := hG.grow.below (Nat.le_trans h.own.le k.size) h.own.base_le
  refine ⟨?_, h1, Below.trans h.kept hb, ?_, ?_, ?_⟩
  · obtain ⟨a, cap, e, e1, e2, e3, e4⟩ := hr.out
    refine ⟨a, cap, e, e1, e2, fun i hi' => ?_, e4⟩
    obtain ⟨b, o, a1, n1, q1, f1, f2, f3, f4, f5, f6, f7, f8⟩ := e3 i hi'
    have hbl : b < w.heap.size := by omega
    refine ⟨b, o, a1, n1, q1, f1, f2, (hbW.cell hbl).trans f3, (hbW.cell hbl).trans f4, (hbW.cell hbl).trans f5, (hbW.cell hbl).trans f6, (hbW.cell hbl).trans f7, ?_⟩
    obtain ⟨a', cap', g, g1, g2, g3, g4⟩ := f8.out
    refine ⟨a', cap', g, g1, g2, fun j hj => ?_, g4⟩
    obtain ⟨b', o', x1, x2, x3⟩ := g3 j hj
    exact ⟨b', o', x1, x2, (hbW.cell (by show b' < _; omega)).trans x3⟩
  · have := h.size
    rw [List.map_append, St.sizes_append]
    simp only [List.map_cons, List.map_nil, St.sizes]; omega
  · rw [List.map_append]; exact h.ok.append ho
  · rw [List.length_append, List.length_singleton]; omega
theorem SmI.done {w wr : World} {hi n : Nat} {most : Int} {ed : Nat} {ls : List Ac} {a1 a2 : Option Addr} {n1 q1 n2 q2 : Nat} {ps : List Item} (h : SmI w wr hi n most ed ls (.slice a2 n2 q2) ps (.slice a1 n1 q1)) : MadeS w hi n most ed (.returned (.tuple #[.slice a1 n1 q1, .slice a2 n2 q2])) wr :=
  ⟨ps.map (·.s), a1, n1, q1, ls, a2, n2, q2, rfl, h.own.sts (fun k hk => ⟨hk.1, hk.2.1⟩) (fun k hk => h.own.row.lt k hk), h.acts, h.size, h.ok, by rw [List.length_map]; exact h.most, h.kept⟩
theorem SmI.rel {w w4 : World} {hi n m k : Nat} {most : Int} {ed : Nat} {rest : List Ac} {ar ad : Option Addr} {qr cp : Nat} {ps : List Item} {p : Item} (h : SmI w w4 hi n most ed rest (.slice ar m qr) (ps ++ [p]) (.slice ad k cp)) (h1 : rest.length = m) (h2 : k = ps.length + 1) :
    ∃ (ls : List Ac) (a1 : Option Addr) (q1 : Nat) (ps' : List Item) (a2 : Option Addr) (q2 : Nat), Value.slice ar m qr = .slice a1 ls.length q1 ∧ Value.slice ad k cp = .slice a2 ps'.length q2 ∧ Hid (SmI w w4 hi n most ed ls (.slice a1 ls.length q1) ps' (.slice a2 ps'.length q2)) := by
  subst h1 h2
  have : (ps ++ [p]).length = ps.length + 1 := by simp
  refine ⟨rest, ar, qr, ps ++ [p], ad, cp, rfl, by rw [this], ?_⟩
  rw [this]; exact h
end Go.Proofs.Ytnfkjmafhaecgaa
namespace Go.Proofs.Ytnfkjmafhaecgaa
open Go.RowKit
attribute [local go_sem] run_store_complex
theorem DsD.row {w : World} {D : Nat → Prop} {g : Nat} (l : List Dc) (hD : D g) (hf : ∀ j, w.frozen? ⟨g, j, none⟩ = false) (hn : l.length ≤ 1000) (hc : ∀ i (_ : i < l.length) j v, l[i].cells[j]? = some v → w.cell? ⟨g, i * 4 + j, none⟩ = some v) :
    DsD w D l (.slice (some ⟨g, 0, none⟩) l.length l.length) := by
  refine ⟨some ⟨g, 0, none⟩, l.length, rfl, ⟨Nat.le_refl _, by unfold maxLen; omega, fun h => by cases h⟩, fun i hi => ⟨g, 0, rfl, hD, hf, fun j v hv => ?_⟩⟩
  rw [Nat.zero_add]
  exact hc i hi j v (by simpa [List.getD, hi] using hv)
theorem alloc_cell (w : World) (cs : Array Value) (e k : Nat) : (w.alloc (.cells cs e)).cell? ⟨w.heap.size, k, none⟩ = cs.toList[k]? := by simp
def d8 (a b : Int) (n : Int) : List Dc := [⟨a, ⟨#[120]⟩, 0, 0, 0⟩, ⟨b, ⟨#[121]⟩, 0, 0, 0⟩, ⟨2, ⟨#[122]⟩, 0, 0, 0⟩, ⟨3, ⟨#[97]⟩, 0, 0, 0⟩, ⟨4, ⟨#[116]⟩, 0, 0, 0⟩, ⟨5, ⟨#[109]⟩, 0, 0, 0⟩, ⟨6, ⟨#[99]⟩, n, 0, 0⟩, ⟨6, ⟨#[100]⟩, 0, 0, 0⟩]
def c8 (a b : Int) (n : Int) : List Value := [.int .i64 a, .string ⟨#[120]⟩, .int .i64 0, .complex .f64 0 0, .int .i64 b, .string ⟨#[121]⟩, .int .i64 0, .complex .f64 0 0, .int .i64 2, .string ⟨#[122]⟩, .int .i64 0, .complex .f64 0 0, .int .i64 3, .string ⟨#[97]⟩, .int .i64 0, .complex .f64 0 0, .int .i64 4, .string ⟨#[116]⟩, .int .i64 0, .complex .f64 0 0, .int .i64 5, .string ⟨#[109]⟩, .int .i64 0, .complex .f64 0 0, .int .i64 6, .string ⟨#[99]⟩, .int .i64 n, .complex .f64 0 0, .int .i64 6, .string ⟨#[100]⟩, .int .i64 0, .complex .f64 0 0]
theorem c8_item (a b n : Int) (i : Nat) (hi : i < (d8 a b n).length) (j : Nat) (v : Value) (h : (d8 a b n)[i].cells[j]? = some v) : (c8 a b n)[i * 4 + j]? = some v := by
  have hj : j < 4 := (List.getElem?_eq_some_iff.1 h).1
  match j, hj with
  | 0, _ =>
    match i, hi with
    | 0, _ | 1, _ | 2, _ | 3, _ | 4, _ | 5, _ | 6, _ | 7, _ => exact h
  | 1, _ =>
    match i, hi with
    | 0, _ | 1, _ | 2, _ | 3, _ | 4, _ | 5, _ | 6, _ | 7, _ => exact h
  | 2, _ =>
    match i, hi with
    | 0, _ | 1, _ | 2, _ | 3, _ | 4, _ | 5, _ | 6, _ | 7, _ => exact h
  | 3, _ =>
    match i, hi with
    | 0, _ | 1, _ | 2, _ | 3, _ | 4, _ | 5, _ | 6, _ | 7, _ => exact h
/-- The cells of a row of declarations. -/
structure C8 (w : World) (g : Nat) (a b n : Int) : Prop where
  cell : ∀ k v, (c8 a b n)[k]? = some v → w.cell? ⟨g, k, none⟩ = some v
  fz : ∀ j, w.frozen? ⟨g, j, none⟩ = false
theorem C8.set0 {w : World} {g : Nat} {a b n : Int} (h : C8 w g a b n) (x : Int) : C8 (w.setCell ⟨g, 0, none⟩ (.int .i64 x)) g x b n := by
  refine ⟨fun k v hv => ?_, fun j => by rw [World.frozen?_setCell]; exact h.fz j⟩
  match k, hv with
  | 0, hv => simp [c8] at hv; subst hv; exact World.cell?_setCell_same _ _ _ (h.cell 0 _ rfl)
  | k + 1, hv => rw [World.cell?_setCell_other _ _ _ _ (by simp)]; exact h.cell (k + 1) v hv
theorem C8.set4 {w : World} {g : Nat} {a b n : Int} (h : C8 w g a b n) (x : Int) : C8 (w.setCell ⟨g, 4, none⟩ (.int .i64 x)) g a x n := by
  refine ⟨fun k v hv => ?_, fun j => by rw [World.frozen?_setCell]; exact h.fz j⟩
  match k, hv with
  | 4, hv => simp [c8] at hv; subst hv; exact World.cell?_setCell_same _ _ _ (h.cell 4 _ rfl)
  | 0, hv | 1, hv | 2, hv | 3, hv => rw [World.cell?_setCell_other _ _ _ _ (by simp)]; exact h.cell _ v hv
  | k + 5, hv => rw [World.cell?_setCell_other _ _ _ _ (by simp)]; exact h.cell (k + 5) v hv
/-- What Decls leaves. -/
def MadeD (w : World) (r : Ending) (w' : World) : Prop :=
  ∃ (d : List Dc) (a : Option Addr) (n q : Nat), r = .returned (.slice a n q) ∧ Hid (DsIn w' w.heap.size w'.heap.size d (.slice a n q) ∧ (d.length = 8 ∧ ∀ x ∈ d, Ps.GdD x) ∧ Kept w w')
theorem d8_good (a b n : Nat) (ha : 1 ≤ a ∧ a ≤ 5) (hb : 1 ≤ b ∧ b ≤ 5) (hn : n ≤ 3) : ∀ x ∈ d8 a b n, Ps.GdD x := by
  intro x hx
  simp only [d8, List.mem_cons, List.not_mem_nil, or_false] at hx
  rcases hx with rfl | rfl | rfl | rfl | rfl | rfl | rfl | rfl
  · exact .plain a [120] 0 0 ha.1 ha.2 (by decide) rfl
  · exact .plain b [121] 0 0 hb.1 hb.2 (by decide) rfl
  · exact .plain 2 [122] 0 0 (by decide) (by decide) (by decide) rfl
  · exact .plain 3 [97] 0 0 (by decide) (by decide) (by decide) rfl
  · exact .plain 4 [116] 0 0 (by decide) (by decide) (by decide) rfl
  · exact .plain 5 [109] 0 0 (by decide) (by decide) (by decide) rfl
  · exact .chan n [99] 0 0 hn (by decide) rfl
  · exact .chan 0 [100] 0 0 (by decide) (by decide) rfl
theorem MadeD.of {w w' : World} (a b n : Nat) (ha : 1 ≤ a ∧ a ≤ 5) (hb : 1 ≤ b ∧ b ≤ 5) (hn : n ≤ 3) (hz : w.heap.size < w'.heap.size) (k : Kept w w') (hc : C8 w' w.heap.size a b n) : MadeD w (.returned (.slice (some ⟨w.heap.size, 0, none⟩) 8 8)) w' :=
  ⟨d8 a b n, some ⟨w.heap.size, 0, none⟩, 8, 8, rfl, DsD.row (d8 a b n) ⟨Nat.le_refl _, hz⟩ hc.fz (by simp [d8]) (fun i hi j v hv => hc.cell _ v (c8_item a b n i hi j v hv)), ⟨rfl, d8_good a b n ha hb hn⟩, k⟩
set_option maxRecDepth 100000 in
set_option maxHeartbeats 4000000 in
theorem decls_any (how : Int) (w : World) (h1 : -9223372036854775808 ≤ how) (h2 : how ≤ 9223372036854775807) : Calls Try.prog 27 #[.int .i64 how] w fun r w' => MadeD w r w' := by
  obtain ⟨n, hn, -, hpn⟩ := pick_nat how 3 (by omega) (by omega)
  obtain ⟨p, hp, -, hpp⟩ := pick_nat (how.tdiv 3) 7 (by omega) (by omega)
  have PN : Hid (∀ w, Calls Try.prog 16 #[.int .i64 how, .int .i64 3] w fun e w' => e = .returned (.int .i64 (n : Int)) ∧ w' = w) := hpn
  have PP : Hid (∀ w, Calls Try.prog 16 #[.int .i64 (how.tdiv 3), .int .i64 7] w fun e w' => e = .returned (.int .i64 (p : Int)) ∧ w' = w) := hpp
  have hn3 : n ≤ 3 := by omega
  clear hpn hpp hn
  obtain ⟨W1, hW1⟩ : ∃ W1, w.alloc (.cells #[.int .i64 1, .string ⟨#[120]⟩, .int .i64 0, .complex .f64 0 0, .int .i64 1, .string ⟨#[121]⟩, .int .i64 0, .complex .f64 0 0, .int .i64 2, .string ⟨#[122]⟩, .int .i64 0, .complex .f64 0 0, .int .i64 3, .string ⟨#[97]⟩, .int .i64 0, .complex .f64 0 0, .int .i64 4, .string ⟨#[116]⟩, .int .i64 0, .complex .f64 0 0, .int .i64 5, .string ⟨#[109]⟩, .int .i64 0, .complex .f64 0 0, .int .i64 6, .string ⟨#[99]⟩, .int .i64 (n : Int), .complex .f64 0 0, .int .i64 6, .string ⟨#[100]⟩, .int .i64 0, .complex .f64 0 0] 77) = W1 := ⟨_, rfl⟩
  have HC : Hid (C8 W1 w.heap.size 1 1 n ∧ Kept w W1 ∧ W1.heap.size = w.heap.size + 1) := by
    rw [← hW1]
    refine ⟨⟨fun k v hv => ?_, fun j => by simp⟩, (Kept.refl _).al _, by simp⟩
    exact (alloc_cell w _ _ k).trans hv
  have c0 : W1.cell? ⟨w.heap.size, 0, none⟩ = some (.int .i64 1) := HC.out.1.cell 0 _ rfl
  have c4 : W1.cell? ⟨w.heap.size, 4, none⟩ = some (.int .i64 1) := HC.out.1.cell 4 _ rfl
  have cf : ∀ j, W1.frozen? ⟨w.heap.size, j, none⟩ = false := HC.out.1.fz
  have hz : W1.heap.size = w.heap.size + 1 := HC.out.2.2
  have HZ : Hid _ := hz
  have hzl : w.heap.size < W1.heap.size := by omega
  clear hz
  by_cases h4 : p = 4
  · subst h4
    go_enter Try.func27, Try.ntmps27
    go_wp2_with fail
    refine (PN.out _).mono ?_
    rintro e w' ⟨rfl, rfl⟩
    go_wp2_with fail
    refine (PP.out _).mono ?_
    rintro e w' ⟨rfl, rfl⟩
    clear PN PP hW1
    go_wp2_with fail
    go_ret
    exact MadeD.of 2 1 n (by decide) (by decide) hn3 (by have := hzl; simpa [World.setCell] using this) (Below.setCell HC.out.2.1 (Nat.le_refl _) _) (HC.out.1.set0 2)
  have g4 : ((p : Int) == 4) = false := by rw [beq_eq_false_iff_ne]; omega
  by_cases h5 : p = 5
  · subst h5
    go_enter Try.func27, Try.ntmps27
    go_wp2_with fail
    refine (PN.out _).mono ?_
    rintro e w' ⟨rfl, rfl⟩
    go_wp2_with fail
    refine (PP.out _).mono ?_
    rintro e w' ⟨rfl, rfl⟩
    clear PN PP hW1
    go_wp2_with fail
    go_ret
    exact MadeD.of 1 2 n (by decide) (by decide) hn3 (by have := hzl; simpa [World.setCell] using this) (Below.setCell HC.out.2.1 (Nat.le_refl _) _) (HC.out.1.set4 2)
  have g5 : ((p : Int) == 5) = false := by rw [beq_eq_false_iff_ne]; omega
  by_cases h6 : p = 6
  · subst h6
    go_enter Try.func27, Try.ntmps27
    go_wp2_with fail
    refine (PN.out _).mono ?_
    rintro e w' ⟨rfl, rfl⟩
    go_wp2_with fail
    refine (PP.out _).mono ?_
    rintro e w' ⟨rfl, rfl⟩
    clear PN PP hW1
    go_wp2_with fail
    go_ret
    exact MadeD.of 3 1 n (by decide) (by decide) hn3 (by have := hzl; simpa [World.setCell] using this) (Below.setCell HC.out.2.1 (Nat.le_refl _) _) (HC.out.1.set0 3)
  · have g6 : ((p : Int) == 6) = false := by rw [beq_eq_false_iff_ne]; omega
    go_enter Try.func27, Try.ntmps27
    go_wp2_with fail
    refine (PN.out _).mono ?_
    rintro e w' ⟨rfl, rfl⟩
    go_wp2_with fail
    refine (PP.out _).mono ?_
    rintro e w' ⟨rfl, rfl⟩
    clear PN PP hW1
    go_wp2_with fail
    go_ret
    exact MadeD.of 1 1 n (by decide) (by decide) hn3 hzl HC.out.2.1 HC.out.1
end Go.Proofs.Ytnfkjmafhaecgaa
