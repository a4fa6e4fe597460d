/- HdA -/
import Derived.Test.YtnfkjmafhaecgaaRows
import Derived.Test.YtnfkjmafhaecgaaYPlA
import Derived.WalkKit
import Derived.WalkSpells
import Derived.WalkLawsBesides
import Derived.Test.YtnfkjmafhaecgaaYKpA
import Derived.Deep.RegionWith
import Derived.Deep.RegionHeld3
import Derived.Test.YtnfkjmafhaecgaaYPaB
import Derived.Test.YtnfkjmafhaecgaaYPlB
import Derived.Test.YtnfkjmafhaecgaaYBs

namespace Go.Proofs.Ytnfkjmafhaecgaa
open Go.RowKit
attribute [local go_sem] run_store_complex
set_option maxHeartbeats 400000 in
theorem pick_emod (n m : Int) (w : World) (hm : 0 < m) (hm2 : m ≤ 4611686018427387904) :
    Calls Try.prog 16 #[.int .i64 n, .int .i64 m] w fun e w' => e = .returned (.int .i64 (n % m)) ∧ w' = w := by
  have e1 := tmod_pos n m hm
  obtain ⟨b1, b2⟩ := tmod_lt n m hm
  have H : Hid (n % m = if n.tmod m < 0 then n.tmod m + m else n.tmod m) := e1
  clear e1
  have hz : (m == 0) = false := by simp; omega
  go_enter Try.func16, Try.ntmps16
  go_wp2
  all_goals
    go_ret
    refine ⟨ret_int ?_, rfl⟩
    rw [H.out]
    first | rw [if_pos (by omega)] | rw [if_neg (by omega)]
/-- Pick's answer as a number of its own. -/
theorem pick_nat (n : Int) (m : Nat) (hm : 0 < m) (hm2 : m ≤ 1000) : ∃ k : Nat, k < m ∧ n % (m : Int) = k ∧ ∀ w, Calls Try.prog 16 #[.int .i64 n, .int .i64 (m : Int)] w fun e w' => e = .returned (.int .i64 (k : Int)) ∧ w' = w := by
  have h2 := Int.emod_nonneg n (by omega : (m : Int) ≠ 0)
  have h3 := Int.emod_lt_of_pos n (by omega : (0 : Int) < m)
  obtain ⟨k, hk⟩ := Int.eq_ofNat_of_zero_le h2
  refine ⟨k, by omega, hk, fun w => ?_⟩
  have := pick_emod n m w (by omega) (by omega)
  rwa [hk] at this
/-! ### Slices that are only read -/
/-- Numbers lie in memory, as the slice v says, in blocks below hi. -/
structure IntsR (w : World) (hi : Nat) (l : List Int) (v : Value) : Prop where
  out : ∃ (a : Option Addr) (cap : Nat), v = .slice a l.length cap ∧ l.length ≤ cap ∧ cap ≤ 9223372036854775807 ∧ (∀ i (_ : i < l.length), ∃ b o, a = some ⟨b, o, none⟩ ∧ b < hi ∧ w.cell? ⟨b, o + i, none⟩ = some (.int .i64 l[i])) ∧ ∀ x ∈ l, -9223372036854775808 ≤ x ∧ x ≤ 9223372036854775807
theorem IntsR.kept {w w' : World} {hi : Nat} {l : List Int} {v : Value} (h : IntsR w hi l v) (k : Kept w w') : IntsR w' hi l v := by
  obtain ⟨a, cap, e, h1, h2, h3, h4⟩ := h.out
  refine ⟨a, cap, e, h1, h2, fun i hi => ?_, h4⟩
  obtain ⟨b, o, e1, e2, e3⟩ := h3 i hi
  exact ⟨b, o, e1, e2, k.cellS e3⟩
theorem IntsR.mono {w : World} {hi hi' : Nat} {l : List Int} {v : Value} (h : IntsR w hi l v) (k : hi ≤ hi') : IntsR w hi' l v := by
  obtain ⟨a, cap, e, h1, h2, h3, h4⟩ := h.out
  refine ⟨a, cap, e, h1, h2, fun i hi => ?_, h4⟩
  obtain ⟨b, o, e1, e2, e3⟩ := h3 i hi
  exact ⟨b, o, e1, by omega, e3⟩
/-- Where a cut begins. -/
def cutAt (a : Option Addr) (l cap sz : Nat) : Option Addr := if cap = l then a else a.map (·.add (l * sz))
theorem cutAt_some {b o l cap sz : Nat} (h : l < cap) : cutAt (some ⟨b, o, none⟩) l cap sz = some ⟨b, o + l * sz, none⟩ := by
  unfold cutAt; rw [if_neg (by omega)]; simp [Addr.add_mid]
theorem run_cut_l {t e : TypeId} {sz : Nat} (hu : Try.prog.underlying t = some (.slice e)) (he : Try.prog.elem t = e) (hs : ∀ w, (sizeOf e).run Try.prog w = .ok sz w) (a : Option Addr) (n cap l : Nat) (h1 : l ≤ n) (w : World) :
    (Instr.sliceAt t (.slice a n cap) (some (.int .i64 (l : Int))) none none).run Try.prog w = .ok (.slice (cutAt a l cap sz) (n - l) (cap - l)) w := by
  have hu' : Try.prog.underlying t = some (.slice (Try.prog.elem t)) := by rw [he]; exact hu
  rw [run_sliceAt_slice _ _ _ _ _ _ hu', run_slice_l _ _ _ _ _ hu' _ _ (by omega) (by omega), he, hs]
  simp [sliced, cutAt]
theorem run_cut_h {t e : TypeId} {sz : Nat} (hu : Try.prog.underlying t = some (.slice e)) (he : Try.prog.elem t = e) (hs : ∀ w, (sizeOf e).run Try.prog w = .ok sz w) (a : Option Addr) (n cap h : Nat) (h1 : h ≤ cap) (w : World) :
    (Instr.sliceAt t (.slice a n cap) none (some (.int .i64 (h : Int))) none).run Try.prog w = .ok (.slice (cutAt a 0 cap sz) h cap) w := by
  have hu' : Try.prog.underlying t = some (.slice (Try.prog.elem t)) := by rw [he]; exact hu
  rw [run_sliceAt_slice _ _ _ _ _ _ hu', run_slice_h _ _ _ _ _ hu' _ _ (by omega) (by omega), he, hs]
  simp [sliced, cutAt]
theorem run_cut_lh {t e : TypeId} {sz : Nat} (hu : Try.prog.underlying t = some (.slice e)) (he : Try.prog.elem t = e) (hs : ∀ w, (sizeOf e).run Try.prog w = .ok sz w) (a : Option Addr) (n cap l h : Nat) (h1 : l ≤ h) (h2 : h ≤ cap) (w : World) :
    (Instr.sliceAt t (.slice a n cap) (some (.int .i64 (l : Int))) (some (.int .i64 (h : Int))) none).run Try.prog w = .ok (.slice (cutAt a l cap sz) (h - l) (cap - l)) w := by
  have hu' : Try.prog.underlying t = some (.slice (Try.prog.elem t)) := by rw [he]; exact hu
  rw [run_sliceAt_slice _ _ _ _ _ _ hu', run_slice_lh _ _ _ _ _ hu' _ _ _ _ (by omega) (by omega) (by omega), he, hs]
  simp [sliced, cutAt]
theorem IntsR.cut {w : World} {hi : Nat} {l : List Int} {a : Option Addr} {n cap : Nat} (h : IntsR w hi l (.slice a n cap)) (i j : Nat) (hij : i ≤ j) (hj : j ≤ l.length) : IntsR w hi ((l.take j).drop i) (.slice (cutAt a i cap 1) (j - i) (cap - i)) := by
  obtain ⟨a, cap, e, h1, h2, h3, h4⟩ := h.out
  cases e
  have hlen : ((l.take j).drop i).length = j - i := by rw [List.length_drop, List.length_take]; omega
  refine ⟨cutAt a i cap 1, cap - i, by rw [hlen], by rw [hlen]; omega, by omega, fun k hk => ?_, fun x hx => h4 x (List.mem_of_mem_take (List.mem_of_mem_drop hx))⟩
  rw [hlen] at hk
  obtain ⟨b, o, rfl, e2, e3⟩ := h3 (i + k) (by omega)
  refine ⟨b, o + i * 1, cutAt_some (by omega), e2, ?_⟩
  rw [show o + i * 1 + k = o + (i + k) by omega, e3]
  simp [List.getElem_drop, List.getElem_take]
end Go.Proofs.Ytnfkjmafhaecgaa
namespace Go.Proofs.Ytnfkjmafhaecgaa
open Go.RowKit
namespace Px
/-- A short expression: its text and its depth are bounded by its parts. -/
structure Sx (e : Ex) : Prop where
  wf : Wf e
  len : (T e 4).length ≤ 6 * e.size
  deep : D e 4 ≤ e.size
  one : ∀ m ∈ e.names, m.size ≤ 1
theorem Sx.num (n : Nat) (h : n ≤ 9) : Sx (numE n) := by
  refine ⟨.num n (by omega), ?_, ?_, fun m hm => by rw [Ex.names_eq] at hm; simp [numE, Ex.kind, Ex.of, Ex.namesL] at hm⟩
  · have e : T (numE n) 4 = Lib.itoa n := by show tpw _ (tb (numE n)) 4 = _; rw [tb_num]; rfl
    rw [e]
    have h1 : ∀ n : Nat, n ≤ 9 → (Lib.itoa n).length ≤ 6 := by
      intro n hn
      match n, hn with
      | 0, _ | 1, _ | 2, _ | 3, _ | 4, _ | 5, _ | 6, _ | 7, _ | 8, _ | 9, _ => decide +kernel
    have h2 := h1 n h
    have h3 := Ex.size_pos (numE n)
    omega
  · have e : D (numE n) 4 = 0 := by show dpw _ (dp (numE n)) 4 = _; rw [dp_num]; rfl
    rw [e]; omega
theorem Sx.name (t : List UInt8) (h : isNm t = true) (hl : t.length = 1) : Sx (nameE t) := by
  refine ⟨.name t h, ?_, ?_, fun m hm => by rw [Ex.names_eq] at hm; simp [nameE, Ex.kind, Ex.of, Ex.namesL, Ex.name] at hm; rw [hm]; simp [ba, ByteArray.size]; omega⟩
  · have e : T (nameE t) 4 = t := by show tpw _ (tb (nameE t)) 4 = _; rw [tb_name]; rfl
    have h3 := Ex.size_pos (nameE t)
    rw [e]; omega
  · have e : D (nameE t) 4 = 0 := by show dpw _ (dp (nameE t)) 4 = _; rw [dp_name]; rfl
    rw [e]; omega
theorem Sx.minus {y : Ex} (h : Sx y) : Sx (minusE y) := by
  have hz : (minusE y).size = 1 + y.size := by unfold minusE; rw [Ex.size_eq]; show 1 + Ex.sizes [y] = _; simp [Ex.sizes]
  refine ⟨.minus y h.wf, ?_, ?_, fun m hm => by rw [Ex.names_eq] at hm; simp [minusE, Ex.kind, Ex.of, Ex.namesL] at hm; exact h.one m hm⟩
  · have e : T (minusE y) 4 = 45 :: T y 4 := by show tpw _ (tb (minusE y)) 4 = _; rw [tb_minus]; rfl
    have := h.len
    rw [e, hz, List.length_cons]; omega
  · have e : D (minusE y) 4 = 1 + D y 4 := by show dpw _ (dp (minusE y)) 4 = _; rw [dp_minus]; rfl
    have := h.deep
    rw [e, hz]; omega
theorem Sx.bin (k : Nat) {y z : Ex} (h4 : 4 ≤ k) (h10 : k ≤ 10) (hy : Sx y) (hz : Sx z) : Sx (binE k y z) := by
  have hs : (binE k y z).size = 1 + (y.size + z.size) := by unfold binE; rw [Ex.size_eq]; show 1 + Ex.sizes [y, z] = _; simp [Ex.sizes]
  obtain ⟨r1, r2⟩ := rnk_bin k h4 h10
  have a1 := (T_low y (l := max (rnk k) 2) (l' := 4) (by omega))
  have a2 := (T_low z (l := rnk k + 1) (l' := 4) (by omega))
  have b1 := hy.len
  have b2 := hz.len
  have c1 := hy.deep
  have c2 := hz.deep
  have hsg : ∀ k : Nat, 4 ≤ k → k ≤ 10 → (sgn (k : Int)).length ≤ 2 := seven (by decide) (by decide) (by decide) (by decide) (by decide) (by decide) (by decide)
  have hg := hsg k h4 h10
  have tl : (tb (binE k y z)).length ≤ 6 * y.size + 6 * z.size + 4 := by
    rw [tb_bin k y z h4]
    simp only [List.length_append, List.length_cons]
    omega
  have dl : dp (binE k y z) ≤ y.size + z.size := by rw [dp_bin]; omega
  have hk2 : ¬ ((k : Int) = 2) := by omega
  refine ⟨.bin k y z h4 h10 hy.wf hz.wf, ?_, ?_, fun m hm => by rw [Ex.names_eq] at hm; simp [binE, Ex.kind, Ex.of, Ex.namesL, hk2] at hm; exact hm.elim (hy.one m) (hz.one m)⟩
  · show (tpw _ (tb (binE k y z)) 4).length ≤ _
    rw [hs]; unfold tpw; split
    · simp only [List.length_cons, List.length_append, List.length_nil]; omega
    · omega
  · show dpw _ (dp (binE k y z)) 4 ≤ _
    rw [hs]; unfold dpw; split <;> omega
theorem Sx.ge {e : Ex} (h : Sx e) (hs : e.size ≤ 7) : Ps.GE e := by
  have a := T_low e (l := 1) (l' := 4) (by omega)
  have b := h.len
  have c := h.deep
  exact ⟨h.wf, by omega, by omega, h.one⟩
end Px
attribute [local go_sem] run_store_complex
/-! The walk's own rules for the cuts here: one way, whatever the capacity. -/
section
variable (w : World) (a : Option Addr) (n cap : Nat)
set_option maxRecDepth 100000 in
theorem cut_i1 (h1 : (1 : Int) ≤ n) : (Instr.sliceAt 22 (.slice a n cap) (some (.int .i64 1)) none none).run Try.prog w = .ok (.slice (cutAt a 1 cap 1) (n - 1) (cap - 1)) w :=
  run_cut_l Try.underlying22 rfl Try.sizeOf3 a n cap 1 (by omega) w
set_option maxRecDepth 100000 in
theorem cut_im (m : Int) (h0 : 0 ≤ m) (h1 : m ≤ n) : (Instr.sliceAt 22 (.slice a n cap) (some (.int .i64 m)) none none).run Try.prog w = .ok (.slice (cutAt a m.toNat cap 1) (n - m.toNat) (cap - m.toNat)) w := by
  obtain ⟨k, rfl⟩ := Int.eq_ofNat_of_zero_le h0
  exact run_cut_l Try.underlying22 rfl Try.sizeOf3 a n cap k (by omega) w
set_option maxRecDepth 100000 in
theorem cut_i1m (m : Int) (h0 : 1 ≤ m) (h1 : m ≤ cap) : (Instr.sliceAt 22 (.slice a n cap) (some (.int .i64 1)) (some (.int .i64 m)) none).run Try.prog w = .ok (.slice (cutAt a 1 cap 1) (m.toNat - 1) (cap - 1)) w := by
  obtain ⟨k, rfl⟩ := Int.eq_ofNat_of_zero_le (by omega : 0 ≤ m)
  exact run_cut_lh Try.underlying22 rfl Try.sizeOf3 a n cap 1 k (by omega) (by omega) w
set_option maxRecDepth 100000 in
theorem cut_i3 (h1 : (3 : Int) ≤ cap) : (Instr.sliceAt 22 (.slice a n cap) none (some (.int .i64 3)) none).run Try.prog w = .ok (.slice (cutAt a 0 cap 1) 3 cap) w :=
  run_cut_h Try.underlying22 rfl Try.sizeOf3 a n cap 3 (by omega) w
set_option maxRecDepth 100000 in
theorem cut_a16 (h1 : (16 : Int) ≤ cap) : (Instr.sliceAt 23 (.slice a n cap) none (some (.int .i64 16)) none).run Try.prog w = .ok (.slice (cutAt a 0 cap 5) 16 cap) w :=
  run_cut_h Try.underlying23 rfl Try.sizeOf79 a n cap 16 (by omega) w
end
attribute [local go_sem ↓] cut_i1 cut_im cut_i1m
end Go.Proofs.Ytnfkjmafhaecgaa
namespace Go.Proofs.Ytnfkjmafhaecgaa
open Go.RowKit
attribute [local go_sem] run_store_complex
attribute [local go_sem ↓] cut_i3 cut_a16
/-- A raw statement. -/
structure Ac where
  what : Int
  a : Int
  b : Int
  n : Int
  e : List Int
/-- Its numbers are within their kind. -/
def Ac.inR (x : Ac) : Prop := (-9223372036854775808 ≤ x.what ∧ x.what ≤ 9223372036854775807) ∧ (-9223372036854775808 ≤ x.a ∧ x.a ≤ 9223372036854775807) ∧ (-9223372036854775808 ≤ x.b ∧ x.b ≤ 9223372036854775807) ∧ (-9223372036854775808 ≤ x.n ∧ x.n ≤ 9223372036854775807)
/-- Raw statements lie in memory, as the slice v says, in blocks below hi. -/
structure ActsR (w : World) (hi : Nat) (l : List Ac) (v : Value) : Prop where
  out : ∃ (a : Option Addr) (cap : Nat), v = .slice a l.length cap ∧ l.length ≤ cap ∧ cap ≤ 9223372036854775807 ∧ (∀ i (_ : i < l.length), ∃ b o a1 n1 q1, a = some ⟨b, o, none⟩ ∧ b < hi ∧ w.cell? ⟨b, o + i * 5, none⟩ = some (.int .i64 l[i].what) ∧ w.cell? ⟨b, o + i * 5 + 1, none⟩ = some (.int .i64 l[i].a) ∧ w.cell? ⟨b, o + i * 5 + 2, none⟩ = some (.int .i64 l[i].b) ∧ w.cell? ⟨b, o + i * 5 + 3, none⟩ = some (.int .i64 l[i].n) ∧ w.cell? ⟨b, o + i * 5 + 4, none⟩ = some (.slice a1 n1 q1) ∧ IntsR w hi l[i].e (.slice a1 n1 q1)) ∧ ∀ x ∈ l, x.inR
theorem ActsR.kept {w w' : World} {hi : Nat} {l : List Ac} {v : Value} (h : ActsR w hi l v) (k : Kept w w') : ActsR w' hi l v := by
  obtain ⟨a, cap, e, h1, h2, h3, h4⟩ := h.out
  refine ⟨a, cap, e, h1, h2, fun i hi => ?_, h4⟩
  obtain ⟨b, o, a1, n1, q1, e1, e2, e3, e4, e5, e6, e7, e8⟩ := h3 i hi
  exact ⟨b, o, a1, n1, q1, e1, e2, k.cellS e3, k.cellS e4, k.cellS e5, k.cellS e6, k.cellS e7, e8.kept k⟩
theorem ActsR.cut {w : World} {hi : Nat} {l : List Ac} {a : Option Addr} {n cap : Nat} (h : ActsR w hi l (.slice a n cap)) (i j : Nat) (hij : i ≤ j) (hj : j ≤ l.length) : ActsR w hi ((l.take j).drop i) (.slice (cutAt a i cap 5) (j - i) (cap - i)) := by
  obtain ⟨a, cap, e, h1, h2, h3, h4⟩ := h.out
  cases e
  have hlen : ((l.take j).drop i).length = j - i := by rw [List.length_drop, List.length_take]; omega
  refine ⟨cutAt a i cap 5, cap - i, by rw [hlen], by rw [hlen]; omega, by omega, fun k hk => ?_, fun x hx => h4 x (List.mem_of_mem_take (List.mem_of_mem_drop hx))⟩
  rw [hlen] at hk
  obtain ⟨b, o, a1, n1, q1, rfl, e2, e3, e4, e5, e6, e7, e8⟩ := h3 (i + k) (by omega)
  have hg : ((l.take j).drop i)[k]'(by rw [hlen]; exact hk) = l[i + k]'(by omega) := by simp [List.getElem_drop, List.getElem_take]
  rw [hg]
  have ho : o + i * 5 + k * 5 = o + (i + k) * 5 := by omega
  refine ⟨b, o + i * 5, a1, n1, q1, cutAt_some (by omega), e2, ?_⟩
  rw [ho]
  exact ⟨e3, e4, e5, e6, e7, e8⟩
end Go.Proofs.Ytnfkjmafhaecgaa
namespace Go.Proofs.Ytnfkjmafhaecgaa
open Go.RowKit
/-- How deep blocks may still be within one another. -/
def Ed (deep : Int) : Nat := (3 - deep).toNat
theorem Ed_succ {deep : Int} (h : deep < 3) : Ed deep = Ed (deep + 1) + 1 := by unfold Ed; omega
/-- Statements that may be shown. -/
def OKs (e : Nat) (l : List St) : Prop := ∀ s ∈ l, Ps.Gd e s
theorem OKs.nil (e : Nat) : OKs e [] := fun _ h => by cases h
theorem OKs.append {e : Nat} {l m : List St} (h : OKs e l) (k : OKs e m) : OKs e (l ++ m) := fun x hx => (List.mem_append.1 hx).elim (h x) (k x)
theorem OKs.one {e : Nat} {s : St} (h : Ps.Gd e s) : OKs e [s] := fun x hx => by
  obtain rfl : x = s := by simpa using hx
  exact h
/-- A name. -/
def Nam (s : ByteArray) : Prop := ∃ t, (Px.isNm t = true ∧ t.length = 1) ∧ s = Px.ba t
theorem Nam.two {s a b : ByteArray} (h : s = a ∨ s = b) (ha : Nam a) (hb : Nam b) : Nam s := by rcases h with rfl | rfl <;> assumption
theorem OKs.assign {e : Nat} {s : ByteArray} {x : Ex} (h : Nam s) (hx : x.size ≤ 7 ∧ Px.Sx x) : OKs e [.mk 1 s ⟨#[]⟩ 0 x [] [] 0 0] := by
  obtain ⟨t, ht, rfl⟩ := h
  exact OKs.one (.assign e t x 0 0 ht.1 (hx.2.ge hx.1) ht.2)
theorem OKs.word {e : Nat} {k : Int} {s : ByteArray} (hk : k = 2 ∨ k = 3 ∨ k = 9 ∨ k = 10) (h : Nam s) : OKs e [.mk k s ⟨#[]⟩ 0 (.mk 0 0 ⟨#[]⟩ []) [] [] 0 0] := by
  obtain ⟨t, ht, rfl⟩ := h
  exact OKs.one (.word e k t 0 0 hk ht.1 ht.2)
theorem OKs.send {e : Nat} {s : ByteArray} {x : Ex} (h : Nam s) (hx : x.size ≤ 7 ∧ Px.Sx x) : OKs e [.mk 4 s ⟨#[]⟩ 0 x [] [] 0 0] := by
  obtain ⟨t, ht, rfl⟩ := h
  exact OKs.one (.send e t x 0 0 ht.1 (hx.2.ge hx.1) ht.2)
theorem OKs.recv {e : Nat} {s u : ByteArray} (h : Nam s) (h2 : Nam u) : OKs e [.mk 5 s u 0 (.mk 0 0 ⟨#[]⟩ []) [] [] 0 0] := by
  obtain ⟨t, ht, rfl⟩ := h
  obtain ⟨t2, ht2, rfl⟩ := h2
  exact OKs.one (.recv e t t2 0 0 ht.1 ht2.1 ht.2 ht2.2)
theorem OKs.print {e : Nat} {x : Ex} (hx : x.size ≤ 7 ∧ Px.Sx x) : OKs e [.mk 6 ⟨#[]⟩ ⟨#[]⟩ 0 x [] [] 0 0] := OKs.one (.print e x 0 0 (hx.2.ge hx.1))
theorem OKs.cond {deep : Int} (hd : deep < 3) {x : Ex} (hx : x.size ≤ 7 ∧ Px.Sx x) {b c : List St} (hb : OKs (Ed (deep + 1)) b) (hc : OKs (Ed (deep + 1)) c) : OKs (Ed deep) [.mk 7 ⟨#[]⟩ ⟨#[]⟩ 0 x b c 0 0] := by
  rw [Ed_succ hd]
  exact OKs.one (.cond _ x b c 0 0 (hx.2.ge hx.1) hb hc)
theorem OKs.rep {deep : Int} (hd : deep < 3) {n : Nat} (hn : n ≤ 9) {b : List St} (hb : OKs (Ed (deep + 1)) b) : OKs (Ed deep) [.mk 8 ⟨#[]⟩ ⟨#[]⟩ (n : Int) (.mk 0 0 ⟨#[]⟩ []) b [] 0 0] := by
  rw [Ed_succ hd]
  exact OKs.one (.rep _ n b 0 0 hn hb)
/-- What stmts leaves: some statements, and the rest of the acts. -/
def MadeS (w : World) (hi n : Nat) (most : Int) (ed : Nat) (r : Ending) (w' : World) : Prop :=
  ∃ (ss : List St) (a1 : Option Addr) (n1 q1 : Nat) (rest : List Ac) (a2 : Option Addr) (n2 q2 : Nat), r = .returned (.tuple #[.slice a1 n1 q1, .slice a2 n2 q2]) ∧
    Hid (StsIn w' w.heap.size w'.heap.size ss (.slice a1 n1 q1) ∧ ActsR w' hi rest (.slice a2 n2 q2) ∧ St.sizes ss + rest.length ≤ n ∧ OKs ed ss ∧ (ss.length : Int) ≤ max 0 most ∧ Kept w w')
/-- Where stmts stands before a round. -/
structure SmI (w wr : World) (hi n : Nat) (most : Int) (ed : Nat) (ls : List Ac) (lv : Value) (ps : List Item) (out : Value) : Prop where
  acts : ActsR wr hi ls lv
  own : OwnK wr w.heap.size (Far w.heap.size wr out) ps out
  kept : Kept w wr
  size : St.sizes (ps.map (·.s)) + ls.length ≤ n
  ok : OKs ed (ps.map (·.s))
  most : (ps.length : Int) ≤ max 0 most
theorem ActsR.below {w w' : World} {hi : Nat} {l : List Ac} {v : Value} (h : ActsR w hi l v) (k : Below hi w w') : ActsR w' hi l v := by
  obtain ⟨a, cap, e, e1, e2, e3, e4⟩ := h.out
  refine ⟨a, cap, e, e1, e2, fun i hi' => ?_, e4⟩
  obtain ⟨b, o, a1, n1, q1, f1, f2, f3, f4, f5, f6, f7, f8⟩ := e3 i hi'
  refine ⟨b, o, a1, n1, q1, f1, f2, (k.cell f2).trans f3, (k.cell f2).trans f4, (k.cell f2).trans f5, (k.cell f2).trans f6, (k.cell f2).trans f7, ?_⟩
  obtain ⟨a', cap', g, g1, g2, g3, g4⟩ := f8.out
  refine ⟨a', cap', g, g1, g2, fun j hj => ?_, g4⟩
  obtain ⟨b', o', x1, x2, x3⟩ := g3 j hj
  exact ⟨b', o', x1, x2, (k.cell (by exact x2)).trans x3⟩
theorem ActsR.len {w : World} {hi : Nat} {l : List Ac} {a : Option Addr} {n q : Nat} (h : ActsR w hi l (.slice a n q)) : l.length = n := by
  obtain ⟨a, cap, e, _⟩ := h.out
  cases e; rfl
/-- Behind the append of what was made. -/
theorem SmI.next {w wr W w4 : World} {hi n : Nat} {most : Int} {ed : Nat} {ls rest : List Ac} {lv rv : Value} {ps : List Item} {out out' : Value} {p : Item} (h : SmI w wr hi n most ed ls lv ps out) (k : Kept wr W) (hp : p.InD W (Rng wr.heap.size W.heap.size))
    (hG : Grew W w.heap.size 46 11 out ps.length (itCells ps) 1 p.cells out' w4) (hr : ActsR W hi rest rv) (hhi : hi ≤ w.heap.size) (hs : St.size p.s + rest.length ≤ ls.length) (ho : OKs ed [p.s]) (hm : (ps.length : Int) < most) :
    SmI w w4 hi n most ed rest rv (ps ++ [p]) out' := by
  obtain ⟨h1, h2⟩ := ab_one h.own k hp hG
  have hb : Below w.heap.size wr w4 := h2.below h.own.le h.own.base_le
  have hbW : Below w.heap.size W w4 := hG.grow.below (Nat.le_trans h.own.le k.size) h.own.base_le
  refine ⟨?_, h1, Below.trans h.kept hb, ?_, ?_, ?_⟩
  · obtain ⟨a, cap, e, e1, e2, e3, e4⟩ := hr.out
    refine ⟨a, cap, e, e1, e2, fun i hi' => ?_, e4⟩
    obtain ⟨b, o, a1, n1, q1, f1, f2, f3, f4, f5, f6, f7, f8⟩ := e3 i hi'
    have hbl : b < w.heap.size := by omega
    refine ⟨b, o, a1, n1, q1, f1, f2, (hbW.cell hbl).trans f3, (hbW.cell hbl).trans f4, (hbW.cell hbl).trans f5, (hbW.cell hbl).trans f6, (hbW.cell hbl).trans f7, ?_⟩
    obtain ⟨a', cap', g, g1, g2, g3, g4⟩ := f8.out
    refine ⟨a', cap', g, g1, g2, fun j hj => ?_, g4⟩
    obtain ⟨b', o', x1, x2, x3⟩ := g3 j hj
    exact ⟨b', o', x1, x2, (hbW.cell (by show b' < _; omega)).trans x3⟩
  · have := h.size
    rw [List.map_append, St.sizes_append]
    simp only [List.map_cons, List.map_nil, St.sizes]; omega
  · rw [List.map_append]; exact h.ok.append ho
  · rw [List.length_append, List.length_singleton]; omega
theorem SmI.done {w wr : World} {hi n : Nat} {most : Int} {ed : Nat} {ls : List Ac} {a1 a2 : Option Addr} {n1 q1 n2 q2 : Nat} {ps : List Item} (h : SmI w wr hi n most ed ls (.slice a2 n2 q2) ps (.slice a1 n1 q1)) : MadeS w hi n most ed (.returned (.tuple #[.slice a1 n1 q1, .slice a2 n2 q2])) wr :=
  ⟨ps.map (·.s), a1, n1, q1, ls, a2, n2, q2, rfl, h.own.sts (fun k hk => ⟨hk.1, hk.2.1⟩) (fun k hk => h.own.row.lt k hk), h.acts, h.size, h.ok, by rw [List.length_map]; exact h.most, h.kept⟩
theorem SmI.rel {w w4 : World} {hi n m k : Nat} {most : Int} {ed : Nat} {rest : List Ac} {ar ad : Option Addr} {qr cp : Nat} {ps : List Item} {p : Item} (h : SmI w w4 hi n most ed rest (.slice ar m qr) (ps ++ [p]) (.slice ad k cp)) (h1 : rest.length = m) (h2 : k = ps.length + 1) :
    ∃ (ls : List Ac) (a1 : Option Addr) (q1 : Nat) (ps' : List Item) (a2 : Option Addr) (q2 : Nat), Value.slice ar m qr = .slice a1 ls.length q1 ∧ Value.slice ad k cp = .slice a2 ps'.length q2 ∧ Hid (SmI w w4 hi n most ed ls (.slice a1 ls.length q1) ps' (.slice a2 ps'.length q2)) := by
  subst h1 h2
  have : (ps ++ [p]).length = ps.length + 1 := by simp
  refine ⟨rest, ar, qr, ps ++ [p], ad, cp, rfl, by rw [this], ?_⟩
  rw [this]; exact h
end Go.Proofs.Ytnfkjmafhaecgaa
namespace Go.Proofs.Ytnfkjmafhaecgaa
open Go.RowKit
attribute [local go_sem] run_store_complex
theorem DsD.row {w : World} {D : Nat → Prop} {g : Nat} (l : List Dc) (hD : D g) (hf : ∀ j, w.frozen? ⟨g, j, none⟩ = false) (hn : l.length ≤ 1000) (hc : ∀ i (_ : i < l.length) j v, l[i].cells[j]? = some v → w.cell? ⟨g, i * 4 + j, none⟩ = some v) :
    DsD w D l (.slice (some ⟨g, 0, none⟩) l.length l.length) := by
  refine ⟨some ⟨g, 0, none⟩, l.length, rfl, ⟨Nat.le_refl _, by unfold maxLen; omega, fun h => by cases h⟩, fun i hi => ⟨g, 0, rfl, hD, hf, fun j v hv => ?_⟩⟩
  rw [Nat.zero_add]
  exact hc i hi j v (by simpa [List.getD, hi] using hv)
def d8 (a b : Int) (n : Int) : List Dc := [⟨a, ⟨#[120]⟩, 0, 0, 0⟩, ⟨b, ⟨#[121]⟩, 0, 0, 0⟩, ⟨2, ⟨#[122]⟩, 0, 0, 0⟩, ⟨3, ⟨#[97]⟩, 0, 0, 0⟩, ⟨4, ⟨#[116]⟩, 0, 0, 0⟩, ⟨5, ⟨#[109]⟩, 0, 0, 0⟩, ⟨6, ⟨#[99]⟩, n, 0, 0⟩, ⟨6, ⟨#[100]⟩, 0, 0, 0⟩]
def c8 (a b : Int) (n : Int) : List Value := [.int .i64 a, .string ⟨#[120]⟩, .int .i64 0, .complex .f64 0 0, .int .i64 b, .string ⟨#[121]⟩, .int .i64 0, .complex .f64 0 0, .int .i64 2, .string ⟨#[122]⟩, .int .i64 0, .complex .f64 0 0, .int .i64 3, .string ⟨#[97]⟩, .int .i64 0, .complex .f64 0 0, .int .i64 4, .string ⟨#[116]⟩, .int .i64 0, .complex .f64 0 0, .int .i64 5, .string ⟨#[109]⟩, .int .i64 0, .complex .f64 0 0, .int .i64 6, .string ⟨#[99]⟩, .int .i64 n, .complex .f64 0 0, .int .i64 6, .string ⟨#[100]⟩, .int .i64 0, .complex .f64 0 0]
theorem c8_item (a b n : Int) (i : Nat) (hi : i < (d8 a b n).length) (j : Nat) (v : Value) (h : (d8 a b n)[i].cells[j]? = some v) : (c8 a b n)[i * 4 + j]? = some v := by
  have hj : j < 4 := (List.getElem?_eq_some_iff.1 h).1
  match j, hj with
  | 0, _ =>
    match i, hi with
    | 0, _ | 1, _ | 2, _ | 3, _ | 4, _ | 5, _ | 6, _ | 7, _ => exact h
  | 1, _ =>
    match i, hi with
    | 0, _ | 1, _ | 2, _ | 3, _ | 4, _ | 5, _ | 6, _ | 7, _ => exact h
  | 2, _ =>
    match i, hi with
    | 0, _ | 1, _ | 2, _ | 3, _ | 4, _ | 5, _ | 6, _ | 7, _ => exact h
  | 3, _ =>
    match i, hi with
    | 0, _ | 1, _ | 2, _ | 3, _ | 4, _ | 5, _ | 6, _ | 7, _ => exact h
/-- The cells of a row of declarations. -/
structure C8 (w : World) (g : Nat) (a b n : Int) : Prop where
  cell : ∀ k v, (c8 a b n)[k]? = some v → w.cell? ⟨g, k, none⟩ = some v
  fz : ∀ j, w.frozen? ⟨g, j, none⟩ = false
/-- What Decls leaves. -/
def MadeD (w : World) (r : Ending) (w' : World) : Prop :=
  ∃ (d : List Dc) (a : Option Addr) (n q : Nat), r = .returned (.slice a n q) ∧ Hid (DsIn w' w.heap.size w'.heap.size d (.slice a n q) ∧ (d.length = 8 ∧ ∀ x ∈ d, Ps.GdD x) ∧ Kept w w')
theorem d8_good (a b n : Nat) (ha : 1 ≤ a ∧ a ≤ 5) (hb : 1 ≤ b ∧ b ≤ 5) (hn : n ≤ 3) : ∀ x ∈ d8 a b n, Ps.GdD x := by
  intro x hx
  simp only [d8, List.mem_cons, List.not_mem_nil, or_false] at hx
  rcases hx with rfl | rfl | rfl | rfl | rfl | rfl | rfl | rfl
  · exact .plain a [120] 0 0 ha.1 ha.2 (by decide) rfl
  · exact .plain b [121] 0 0 hb.1 hb.2 (by decide) rfl
  · exact .plain 2 [122] 0 0 (by decide) (by decide) (by decide) rfl
  · exact .plain 3 [97] 0 0 (by decide) (by decide) (by decide) rfl
  · exact .plain 4 [116] 0 0 (by decide) (by decide) (by decide) rfl
  · exact .plain 5 [109] 0 0 (by decide) (by decide) (by decide) rfl
  · exact .chan n [99] 0 0 hn (by decide) rfl
  · exact .chan 0 [100] 0 0 (by decide) (by decide) rfl
theorem MadeD.of {w w' : World} (a b n : Nat) (ha : 1 ≤ a ∧ a ≤ 5) (hb : 1 ≤ b ∧ b ≤ 5) (hn : n ≤ 3) (hz : w.heap.size < w'.heap.size) (k : Kept w w') (hc : C8 w' w.heap.size a b n) : MadeD w (.returned (.slice (some ⟨w.heap.size, 0, none⟩) 8 8)) w' :=
  ⟨d8 a b n, some ⟨w.heap.size, 0, none⟩, 8, 8, rfl, DsD.row (d8 a b n) ⟨Nat.le_refl _, hz⟩ hc.fz (by simp [d8]) (fun i hi j v hv => hc.cell _ v (c8_item a b n i hi j v hv)), ⟨rfl, d8_good a b n ha hb hn⟩, k⟩
end Go.Proofs.Ytnfkjmafhaecgaa
