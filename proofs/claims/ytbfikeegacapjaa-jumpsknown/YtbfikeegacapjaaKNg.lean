/- Ng -/
import Derived.Test.YtbfikeegacapjaaKNf
import Derived.Maps.OwnOps
import Derived.Maps.Views
import Derived.Maps.OwnSet
import Derived.Deep.LoopGhost
import Derived.StringKeys

namespace Go.Proofs.Ytbfikeegacapjaa
open Go.RowKit Go.Maps Go.WideMaps
attribute [local go_sem] run_store_complex
theorem lawS : Keyed Try.prog 9 := string_keyed Try.underlying9
theorem zeroI (w : World) : (zeroValue 3).run Try.prog w = .ok (.int .i64 0) w := by kernel_rfl
theorem at_intQ {a b : Int} (h : (DataW.lit (.int .i64 a) : DataW Unit) = .lit (.int .i64 b)) : a = b := by cases h; rfl
set_option maxRecDepth 100000 in
theorem plain_inv {v : Value} {c : Int} {ps : List MemPlace} (h : (plainElem Try.prog 3 v : Option (DataW Unit × List MemPlace)) = some (.lit (.int .i64 c), ps)) : v = .int .i64 c := by
  unfold plainElem at h
  rw [Try.underlying3] at h
  cases v with
  | int q a =>
    simp only at h
    split at h
    · rename_i hc
      simp only [Option.some.injEq, Prod.mk.injEq] at h
      obtain ⟨h1, -⟩ := h
      rw [hc.1, at_intQ h1]
    · cases h
  | _ => simp at h
theorem kind_app (d : List Dc) (y : Dc) (hn : Nf.isIn d y.name = false) (x : ByteArray) : Nf.kind (d ++ [y]) x = if x = y.name then y.kind else Nf.kind d x := by
  induction d with
  | nil => simp only [List.nil_append, Nf.kind]; by_cases h : x = y.name
           · rw [if_pos h.symm, if_pos h]
           · rw [if_neg (fun e => h e.symm), if_neg h]
  | cons z d ih =>
    have h1 : Nf.isIn d y.name = false := by unfold Nf.isIn at hn ⊢; simp at hn ⊢; exact hn.2
    have h2 : z.name ≠ y.name := by unfold Nf.isIn at hn; simp at hn; exact hn.1
    rw [List.cons_append, Nf.kind, Nf.kind, ih h1]
    by_cases hz : z.name = x
    · subst hz; rw [if_pos rfl, if_pos rfl, if_neg h2]
    · rw [if_neg hz, if_neg hz]
theorem isIn_app (d : List Dc) (y : Dc) (x : ByteArray) : Nf.isIn (d ++ [y]) x = (Nf.isIn d x || decide (y.name = x)) := by
  unfold Nf.isIn; simp
theorem lit_ne {x y : ByteArray} (h : x ≠ y) : (Lit.string x.data.toList) ≠ .string y.data.toList := by
  intro e
  injection e with e
  apply h
  have := Array.toList_inj.1 e
  cases x; cases y; simp at this; rw [this]
theorem wf64 {n : Int} (h : -9223372036854775808 ≤ n ∧ n ≤ 9223372036854775807) : (Lit.int .i64 n).wf = true := by
  simp [Lit.wf, IntKind.min, IntKind.max, IntKind.signed, IntKind.bits]
  omega
/-- The map of kinds: of each name declared so far its kind. -/
structure KM (w : World) (B : Nat) (d : List Dc) : Prop where
  out : ∃ (n : Nat) (D : DataW Unit), w.ownsMap Try.prog 9 (plainElem Try.prog 3) B n D ∧ n ≤ d.length ∧ (∀ x : ByteArray, D.atKey (.string x.data.toList) (.lit (.int .i64 0)) = .lit (.int .i64 (Nf.kind d x))) ∧ (∀ x : ByteArray, Maps.has D (.string x.data.toList) = Nf.isIn d x)
theorem KM.lt {w : World} {B : Nat} {d : List Dc} (h : KM w B d) : B < w.heap.size := by
  obtain ⟨n, D, ho, -⟩ := h.out
  exact ho.lt
theorem KM.same {w w' : World} {B : Nat} {d : List Dc} (h : KM w B d) (e : w'.heap[B]? = w.heap[B]?) : KM w' B d := by
  obtain ⟨n, D, ho, r⟩ := h.out
  obtain ⟨es, clock, hb, Ft, hs, hD⟩ := ho
  exact ⟨n, D, ⟨es, clock, e.trans hb, Ft, hs, hD⟩, r⟩
theorem KM.kept {w w' : World} {B : Nat} {d : List Dc} (h : KM w B d) (k : Kept w w') : KM w' B d := h.same (k.block B h.lt)
theorem KM.look {w : World} {B : Nat} {d : List Dc} (h : KM w B d) (x : ByteArray) (hx : x.size ≤ maxLen) :
    (Instr.lookup 69 (.map (some B)) (.string x) false).run Try.prog w = .ok (.int .i64 (Nf.kind d x)) w := by
  obtain ⟨n, D, ho, -, ha, -⟩ := h.out
  obtain ⟨c, hrun, hat, hwc⟩ := ho.lookup_int lawS Try.underlying69 Try.underlying3 (zeroI w) (keyOf_string_mk Try.underlying9 hx)
  rw [ha x] at hat
  rw [hrun, at_intQ hat]
theorem KM.look_ok {w : World} {B : Nat} {d : List Dc} (h : KM w B d) (x : ByteArray) (hx : x.size ≤ maxLen) :
    (Instr.lookup 69 (.map (some B)) (.string x) true).run Try.prog w = .ok (.tuple #[.int .i64 (Nf.kind d x), .bool (Nf.isIn d x)]) w := by
  have h1 := h.look x hx
  obtain ⟨n, D, ho, -, ha, hh⟩ := h.out
  have hz : (plainElem Try.prog 3 (.int .i64 0) : Option (DataW Unit × List MemPlace)) = some (.lit (.int .i64 0), []) := by kernel_rfl
  obtain ⟨v, ps, hrun, hv⟩ := ho.look_ok lawS Try.underlying69 (zeroI w) hz (keyOf_string_mk Try.underlying9 hx)
  rw [ha x] at hv
  rw [hrun, hh x]
  rw [plain_inv hv]
theorem KM.put {w : World} {B : Nat} {d : List Dc} (h : KM w B d) (y : Dc) (hy : y.name.size ≤ maxLen) (hn : Nf.isIn d y.name = false) (hl : d.length < maxLen) (hw : -9223372036854775808 ≤ y.kind ∧ y.kind ≤ 9223372036854775807) :
    ∃ w', (Instr.mapUpdate 69 (.map (some B)) (.string y.name) (.int .i64 y.kind)).run Try.prog w = .ok () w' ∧ KM w' B (d ++ [y]) ∧ w.mapTurned w' B := by
  obtain ⟨n, D, ho, hnl, ha, hh⟩ := h.out
  have hv : (plainElem Try.prog 3 (.int .i64 y.kind) : Option (DataW Unit × List MemPlace)) = some (.lit (.int .i64 y.kind), []) := by
    exact plainElem_int Try.underlying3 (wf64 hw)
  obtain ⟨w', hrun, ho', ht⟩ := ho.store lawS Try.underlying69 (by omega) (keyOf_string_mk Try.underlying9 hy) hv
  refine ⟨w', hrun, ⟨n + 1, _, ho', by simp; omega, fun x => ?_, fun x => ?_⟩, ht⟩
  · rw [kind_app d y hn x]
    by_cases hx : x = y.name
    · subst hx
      rw [atKey_put_same ho.isMap (by trivial), if_pos rfl]
    · rw [atKey_put_other (lit_ne hx), ha, if_neg hx]
  · rw [isIn_app]
    by_cases hx : x = y.name
    · subst hx
      rw [has_put_same ho.isMap (by trivial)]; simp
    · rw [has_put_other (lit_ne hx), hh, decide_eq_false (fun e => hx e.symm), Bool.or_false]
end Go.Proofs.Ytbfikeegacapjaa
