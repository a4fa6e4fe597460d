/- Sd Se -/
import Derived.Test.YtnfkjmafhaecgaaTKpA
import Derived.Test.YtnfkjmafhaecgaaTBs
import Derived.BigQuiet
import Derived.Deep.QuietTactic
import Derived.Deep.RegionHeld3
import Derived.Test.YtnfkjmafhaecgaaTPo
import Derived.Test.YtnfkjmafhaecgaaTWD
import Derived.Test.YtnfkjmafhaecgaaTSf

namespace Go.Proofs.Ytnfkjmafhaecgaa
open Go.RowKit
attribute [local go_sem] run_store_complex
def okAt (x y : Nat) : Prop := (FloatKind.f64.format.order x x == some Ordering.eq) = true ∧ (FloatKind.f64.format.order y y == some Ordering.eq) = true
inductive OkS : St → Prop
  | mk (x : St) (h : okAt x.re x.im) (hb : ∀ y ∈ x.body, OkS y) (hc : ∀ y ∈ x.els, OkS y) : OkS x
end Go.Proofs.Ytnfkjmafhaecgaa

namespace Go.Proofs.Ytnfkjmafhaecgaa
open Go.RowKit
namespace Pp
theorem bind_inv {α β : Type} {p : R α} {f : α → R β} {l m : List Lx.Core} {x : β} (h : bind p f l = (some x, m)) : ∃ y m1, p l = (some y, m1) ∧ f y m1 = (some x, m) := by
  unfold bind at h
  cases hp : p l with
  | mk o m1 =>
    rw [hp] at h
    cases o with
    | none => simp at h
    | some y => exact ⟨y, m1, rfl, h⟩
theorem ret_inv {α : Type} {x y : α} {l m : List Lx.Core} (h : ret x l = (some y, m)) : x = y := by
  unfold ret at h
  simp only [Prod.mk.injEq, Option.some.injEq] at h
  exact h.1
def OkB (blk : R (List St)) : Prop := ∀ l b m, blk l = (some b, m) → ∀ y ∈ b, OkS y
theorem other_ok {blk : R (List St)} (h : OkB blk) : OkB (other blk) := by
  intro l b m hb
  unfold other at hb
  split at hb
  · exact h _ _ _ hb
  · simp only [Prod.mk.injEq, Option.some.injEq] at hb
    rw [← hb.1]; intro y hy; cases hy
theorem stmt_ok {pl : Pl} (hpl : ∀ n, okAt (pl n).1 (pl n).2) {blk : R (List St)} (hb : OkB blk) {l m : List Lx.Core} {x : St} (h : stmt pl blk l = (some x, m)) : OkS x := by
  have leaf : ∀ (k : Int) (a b : ByteArray) (n : Int) (e : Ex) (y : St), (.mk k a b n e [] [] (pl l.length).1 (pl l.length).2 : St) = y → OkS y := fun k a b n e y hy => by
    rw [← hy]; exact .mk _ (hpl _) (fun _ h => by cases h) (fun _ h => by cases h)
  unfold stmt at h
  split at h
  · unfold assign at h
    obtain ⟨_, _, -, h⟩ := bind_inv h
    obtain ⟨_, _, -, h⟩ := bind_inv h
    obtain ⟨_, _, -, h⟩ := bind_inv h
    exact leaf _ _ _ _ _ _ (ret_inv h)
  · unfold behind at h
    split at h
    · obtain ⟨_, _, -, h⟩ := bind_inv h
      obtain ⟨_, _, -, h⟩ := bind_inv h
      exact leaf _ _ _ _ _ _ (ret_inv h)
    · split at h
      · obtain ⟨_, _, -, h⟩ := bind_inv h
        obtain ⟨_, _, -, h⟩ := bind_inv h
        exact leaf _ _ _ _ _ _ (ret_inv h)
      · split at h
        · obtain ⟨_, _, -, h⟩ := bind_inv h
          exact leaf _ _ _ _ _ _ (ret_inv h)
        · split at h
          · obtain ⟨_, _, -, h⟩ := bind_inv h
            obtain ⟨b, _, h1, h⟩ := bind_inv h
            obtain ⟨c, _, h2, h⟩ := bind_inv h
            rw [← ret_inv h]
            exact .mk _ (hpl _) (hb _ _ _ h1) (other_ok hb _ _ _ h2)
          · split at h
            · obtain ⟨_, _, -, h⟩ := bind_inv h
              obtain ⟨b, _, h1, h⟩ := bind_inv h
              rw [← ret_inv h]
              exact .mk _ (hpl _) (hb _ _ _ h1) (fun _ h => by cases h)
            · obtain ⟨_, _, -, h⟩ := bind_inv h
              exact leaf _ _ _ _ _ _ (ret_inv h)
theorem stmts_ok {sp : R St} (hs : ∀ l x m, sp l = (some x, m) → OkS x) : ∀ f acc l b m, (∀ y ∈ acc, OkS y) → stmts sp f acc l = (some b, m) → ∀ y ∈ b, OkS y
  | 0, _, _, _, _, _, h => by rw [stmts] at h; cases h
  | f + 1, acc, l, b, m, ha, h => by
    rw [stmts] at h
    split at h
    · simp only [Prod.mk.injEq, Option.some.injEq] at h
      rw [← h.1]; exact ha
    · cases hp : sp l with
      | mk o m1 =>
        rw [hp] at h
        cases o with
        | none => simp at h
        | some x =>
          refine stmts_ok hs f (acc ++ [x]) m1 b m (fun y hy => ?_) h
          rcases List.mem_append.1 hy with hy | hy
          · exact ha y hy
          · rw [List.mem_singleton.1 hy]; exact hs _ _ _ hp
theorem block_ok {pl : Pl} (hpl : ∀ n, okAt (pl n).1 (pl n).2) : ∀ e, OkB (block pl e)
  | 0 => fun l b m h => by rw [block] at h; cases h
  | e + 1 => fun l b m h => by
    rw [block] at h
    split at h
    · exact stmts_ok (fun l x m h => stmt_ok hpl (block_ok hpl e) h) _ _ _ _ _ (fun y hy => by cases hy) h
    · cases h
theorem threads_ok {pl : Pl} (hpl : ∀ n, okAt (pl n).1 (pl n).2) : ∀ f acc l t m, (∀ b ∈ acc, ∀ y ∈ b, OkS y) → threads pl f acc l = (some t, m) → ∀ b ∈ t, ∀ y ∈ b, OkS y
  | 0, acc, l, t, m, ha, h => by
    rw [threads] at h
    simp only [Prod.mk.injEq, Option.some.injEq] at h
    rw [← h.1]; exact ha
  | f + 1, acc, l, t, m, ha, h => by
    rw [threads] at h
    split at h
    · cases hp : block pl 8 l.tail with
      | mk o m1 =>
        rw [hp] at h
        cases o with
        | none => simp at h
        | some x =>
          refine threads_ok hpl f (acc ++ [x]) m1 t m (fun b hb => ?_) h
          rcases List.mem_append.1 hb with hb | hb
          · exact ha b hb
          · rw [List.mem_singleton.1 hb]; exact block_ok hpl 8 _ _ _ hp
    · simp only [Prod.mk.injEq, Option.some.injEq] at h
      rw [← h.1]; exact ha
theorem decl_ok {pl : Pl} (hpl : ∀ n, okAt (pl n).1 (pl n).2) {l m : List Lx.Core} {x : Dc} (h : decl pl l = (some x, m)) : okAt x.re x.im := by
  unfold decl at h
  split at h
  · obtain ⟨_, _, -, h⟩ := bind_inv h
    obtain ⟨_, _, -, h⟩ := bind_inv h
    rw [← ret_inv h]; exact hpl _
  · obtain ⟨_, _, -, h⟩ := bind_inv h
    rw [← ret_inv h]; exact hpl _
theorem decls_ok {pl : Pl} (hpl : ∀ n, okAt (pl n).1 (pl n).2) : ∀ f acc l t m, (∀ b ∈ acc, okAt b.re b.im) → decls pl f acc l = (some t, m) → ∀ b ∈ t, okAt b.re b.im
  | 0, acc, l, t, m, ha, h => by
    rw [decls] at h
    simp only [Prod.mk.injEq, Option.some.injEq] at h
    rw [← h.1]; exact ha
  | f + 1, acc, l, t, m, ha, h => by
    rw [decls] at h
    split at h
    · simp only [Prod.mk.injEq, Option.some.injEq] at h
      rw [← h.1]; exact ha
    · cases hp : decl pl l with
      | mk o m1 =>
        rw [hp] at h
        cases o with
        | none => simp at h
        | some x =>
          refine decls_ok hpl f (acc ++ [x]) m1 t m (fun b hb => ?_) h
          rcases List.mem_append.1 hb with hb | hb
          · exact ha b hb
          · rw [List.mem_singleton.1 hb]; exact decl_ok hpl hp
theorem prog_ok {pl : Pl} (hpl : ∀ n, okAt (pl n).1 (pl n).2) {l m : List Lx.Core} {d : List Dc} {t : List (List St)} (h : prog pl l = (some (d, t), m)) : (∀ x ∈ d, okAt x.re x.im) ∧ ∀ b ∈ t, ∀ y ∈ b, OkS y := by
  unfold prog at h
  obtain ⟨d', m1, h1, h⟩ := bind_inv h
  obtain ⟨t', m2, h2, h⟩ := bind_inv h
  unfold ended at h
  split at h
  · simp only [Prod.mk.injEq, Option.some.injEq] at h
    obtain ⟨⟨rfl, rfl⟩, -⟩ := h
    exact ⟨decls_ok hpl _ _ _ _ _ (fun b hb => by cases hb) h1, threads_ok hpl _ _ _ _ _ (fun b hb => by cases hb) h2⟩
  · cases h
theorem out_ok {s : ByteArray} (hs : s.size ≤ 1125899906842624) {d : List Dc} {t : List (List St)} {q : Nat} (h : out s = (some (d, t), q)) : (∀ x ∈ d, okAt x.re x.im) ∧ ∀ b ∈ t, ∀ y ∈ b, OkS y := by
  unfold out at h
  split at h
  · cases h
  · rename_i ts hts
    simp only [Prod.mk.injEq] at h
    have hl : s.data.toList.length = s.size := Array.length_toList
    have hat : ∀ n, (ts.getD n ⟨0, 0, [], 0⟩).at' ≤ s.size := fun n => by
      rw [List.getD_eq_getElem?_getD]
      rcases Nat.lt_or_ge n ts.length with hn | hn
      · rw [List.getElem?_eq_getElem hn]
        have := (Lx.toks_sort _ _ hts _ (List.getElem_mem hn)).2
        show ts[n].at' ≤ _
        omega
      · rw [List.getElem?_eq_none hn]; exact Nat.zero_le _
    refine prog_ok (pl := plOf s ts) (fun n => ⟨ord_line s _ hs (hat _), ord_col s _ hs (hat _)⟩) (m := (prog (plOf s ts) (ts.map Lx.Tk.core)).2) (l := ts.map Lx.Tk.core) ?_
    rw [← h.1]
end Pp
end Go.Proofs.Ytnfkjmafhaecgaa
