/- Js -/
import Derived.Test.YtnfkjmafhaecgaaYNp
import Derived.Test.YtnfkjmafhaecgaaYJp

namespace Go.Proofs.Ytnfkjmafhaecgaa
open Go.RowKit
namespace Pp
open Lx (Core)
open Px (hd isNm ba e0)
def cst : List Core → Nat
  | [] => 0
  | t :: l => 1 + t.2.1.length + cst l
theorem cst_suf {m l : List Core} (h : m <:+ l) : cst m ≤ cst l := by
  obtain ⟨a, rfl⟩ := h
  induction a with
  | nil => exact Nat.le_refl _
  | cons t a ih => rw [List.cons_append, cst]; omega
theorem len_cst (l : List Core) : l.length ≤ cst l := by
  induction l with
  | nil => exact Nat.le_refl _
  | cons t l ih => rw [cst, List.length_cons]; omega
theorem name_inv {l m : List Core} {a : List UInt8} (h : name l = (some a, m)) : m <:+ l ∧ m.length + 1 ≤ l.length ∧ a.length ≤ cst l := by
  unfold name at h
  split at h
  · rename_i hn
    simp only [Prod.mk.injEq, Option.some.injEq] at h
    obtain ⟨rfl, rfl⟩ := h
    cases l with
    | nil => exact absurd rfl (isNm_ne hn)
    | cons t l => exact ⟨List.tail_suffix _, by simp, by rw [cst]; show t.2.1.length ≤ _; omega⟩
  · cases h
theorem skip_inv {t : List UInt8} {l m : List Core} {u : Unit} (h : skip t l = (some u, m)) : m <:+ l := by
  unfold skip at h
  split at h
  · simp only [Prod.mk.injEq] at h; rw [← h.2]; exact List.tail_suffix _
  · cases h
theorem number_inv {k n : Nat} {l m : List Core} (h : number k l = (some n, m)) : m <:+ l := by
  unfold number at h
  split at h
  · simp only [Prod.mk.injEq] at h; rw [← h.2]; exact List.tail_suffix _
  · cases h
theorem read_inv {l m : List Core} {e : Ex} (h : Px.read l = (some e, m)) : m <:+ l := by
  have := Px.read_suf l; rwa [h] at this
theorem ret_inv2 {α : Type} {x y : α} {l m : List Core} (h : ret x l = (some y, m)) : x = y ∧ l = m := by
  unfold ret at h
  simp only [Prod.mk.injEq, Option.some.injEq] at h
  exact h
/-- What is known of statements that were read. -/
structure Sz (l : List Core) (b : List St) (m : List Core) : Prop where
  suf : m <:+ l
  len : St.sizes b + m.length ≤ l.length
  nm : ∀ s ∈ St.flats b, s.name.size ≤ cst l
def SzB (blk : R (List St)) : Prop := ∀ l b m, blk l = (some b, m) → Sz l b m
theorem e0_size : e0.size = 0 := by decide +kernel
theorem ba_size (a : List UInt8) : (ba a).size = a.length := by simp [ba, ByteArray.size]
theorem sz_leaf {l m : List Core} {x : St} (hs : m <:+ l) (hl : m.length + 1 ≤ l.length) (hb : x.body = []) (he : x.els = []) (hn : x.name.size ≤ cst l) : Sz l [x] m := by
  refine ⟨hs, ?_, fun s h => ?_⟩
  · simp only [St.sizes, St.size_eq, hb, he]; omega
  · simp only [St.flats, St.flat_eq, hb, he, List.append_nil, List.mem_singleton] at h
    rw [h]; exact hn
theorem suf_len {m l : List Core} (h : m <:+ l) : m.length ≤ l.length := h.length_le
theorem stmt_sz {pl : Pl} {blk : R (List St)} (hb : SzB blk) {l m : List Core} {x : St} (h : stmt pl blk l = (some x, m)) : Sz l [x] m := by
  unfold stmt at h
  split at h
  · unfold assign at h
    obtain ⟨a, m1, h1, h⟩ := bind_inv h
    obtain ⟨_, m2, h2, h⟩ := bind_inv h
    obtain ⟨e, m3, h3, h⟩ := bind_inv h
    obtain ⟨rfl, rfl⟩ := ret_inv2 h
    obtain ⟨a1, a2, a3⟩ := name_inv h1
    have b1 := skip_inv h2
    have c1 := read_inv h3
    have l2 := suf_len b1
    have l3 := suf_len c1
    exact sz_leaf (c1.trans (b1.trans a1)) (by omega) rfl rfl (by show (ba a).size ≤ _; rw [ba_size]; exact a3)
  · rename_i hk
    cases l with
    | nil => exact absurd rfl hk
    | cons t l =>
      have hc : cst l ≤ cst (t :: l) := cst_suf (List.suffix_cons _ _)
      have ht : l <:+ t :: l := List.suffix_cons _ _
      have hln : l.length + 1 = (t :: l).length := rfl
      have hz : e0.size ≤ cst (t :: l) := by rw [e0_size]; exact Nat.zero_le _
      simp only [List.tail_cons] at h
      generalize sk (hd (t :: l)).2.1 = k at h
      generalize pl (t :: l).length = p at h
      unfold behind at h
      split at h
      · obtain ⟨a, m1, h1, h⟩ := bind_inv h
        obtain ⟨e, m2, h2, h⟩ := bind_inv h
        obtain ⟨rfl, rfl⟩ := ret_inv2 h
        obtain ⟨a1, a2, a3⟩ := name_inv h1
        have b1 := read_inv h2
        have l2 := suf_len b1
        exact sz_leaf (b1.trans (a1.trans ht)) (by omega) rfl rfl (by show (ba a).size ≤ _; rw [ba_size]; omega)
      · split at h
        · obtain ⟨a, m1, h1, h⟩ := bind_inv h
          obtain ⟨b, m2, h2, h⟩ := bind_inv h
          obtain ⟨rfl, rfl⟩ := ret_inv2 h
          obtain ⟨a1, a2, a3⟩ := name_inv h1
          obtain ⟨b1, b2, b3⟩ := name_inv h2
          exact sz_leaf (b1.trans (a1.trans ht)) (by omega) rfl rfl (by show (ba a).size ≤ _; rw [ba_size]; omega)
        · split at h
          · obtain ⟨e, m1, h1, h⟩ := bind_inv h
            obtain ⟨rfl, rfl⟩ := ret_inv2 h
            have a1 := read_inv h1
            have l1 := suf_len a1
            exact sz_leaf (a1.trans ht) (by omega) rfl rfl hz
          · split at h
            · obtain ⟨e, m1, h1, h⟩ := bind_inv h
              obtain ⟨b, m2, h2, h⟩ := bind_inv h
              obtain ⟨c, m3, h3, h⟩ := bind_inv h
              obtain ⟨rfl, rfl⟩ := ret_inv2 h
              have a1 := read_inv h1
              have l1 := suf_len a1
              have B := hb _ _ _ h2
              have C : m3 <:+ m2 ∧ St.sizes c + m3.length ≤ m2.length ∧ ∀ s ∈ St.flats c, s.name.size ≤ cst m2 := by
                unfold other at h3
                split at h3
                · have C := hb _ _ _ h3
                  have q1 : m2.tail <:+ m2 := List.tail_suffix _
                  have q2 := suf_len q1
                  exact ⟨C.suf.trans q1, by have := C.len; omega, fun s hs => Nat.le_trans (C.nm s hs) (cst_suf q1)⟩
                · simp only [Prod.mk.injEq, Option.some.injEq] at h3
                  obtain ⟨rfl, rfl⟩ := h3
                  exact ⟨List.suffix_refl _, by simp [St.sizes], fun s hs => by simp [St.flats] at hs⟩
              refine ⟨C.1.trans (B.suf.trans (a1.trans ht)), ?_, fun s hs => ?_⟩
              · have q1 := B.len
                have q2 := C.2.1
                simp only [St.sizes, St.size_eq, St.body, St.els]
                omega
              · simp only [St.flats, St.flat_eq, St.body, St.els, List.append_nil] at hs
                rcases List.mem_cons.1 hs with rfl | hs
                · exact hz
                · rcases List.mem_append.1 hs with hs | hs
                  · exact Nat.le_trans (B.nm s hs) (cst_suf (a1.trans ht))
                  · exact Nat.le_trans (C.2.2 s hs) (cst_suf (B.suf.trans (a1.trans ht)))
            · split at h
              · obtain ⟨n, m1, h1, h⟩ := bind_inv h
                obtain ⟨b, m2, h2, h⟩ := bind_inv h
                obtain ⟨rfl, rfl⟩ := ret_inv2 h
                have a1 := number_inv h1
                have l1 := suf_len a1
                have B := hb _ _ _ h2
                refine ⟨B.suf.trans (a1.trans ht), ?_, fun s hs => ?_⟩
                · have q1 := B.len
                  simp only [St.sizes, St.size_eq, St.body, St.els]
                  omega
                · simp only [St.flats, St.flat_eq, St.body, St.els, List.append_nil] at hs
                  rcases List.mem_cons.1 hs with rfl | hs
                  · exact hz
                  · exact Nat.le_trans (B.nm s hs) (cst_suf (a1.trans ht))
              · obtain ⟨a, m1, h1, h⟩ := bind_inv h
                obtain ⟨rfl, rfl⟩ := ret_inv2 h
                obtain ⟨a1, a2, a3⟩ := name_inv h1
                exact sz_leaf (a1.trans ht) (by omega) rfl rfl (by show (ba a).size ≤ _; rw [ba_size]; omega)
theorem stmts_sz {sp : R St} (hs : ∀ l x m, sp l = (some x, m) → Sz l [x] m) : ∀ f acc l b m, stmts sp f acc l = (some b, m) → ∃ c, b = acc ++ c ∧ Sz l c m
  | 0, _, _, _, _, h => by rw [stmts] at h; cases h
  | f + 1, acc, l, b, m, h => by
    rw [stmts] at h
    split at h
    · simp only [Prod.mk.injEq, Option.some.injEq] at h
      obtain ⟨rfl, rfl⟩ := h
      exact ⟨[], by simp, List.tail_suffix _, by simp [St.sizes], fun s hs => by simp [St.flats] at hs⟩
    · cases hp : sp l with
      | mk o m1 =>
        rw [hp] at h
        cases o with
        | none => simp at h
        | some x =>
          obtain ⟨c, hc, C⟩ := stmts_sz hs f (acc ++ [x]) m1 b m h
          have X := hs _ _ _ hp
          refine ⟨x :: c, by rw [hc]; simp, C.suf.trans X.suf, ?_, fun s h2 => ?_⟩
          · have q1 := X.len
            have q2 := C.len
            simp only [St.sizes] at *
            omega
          · rw [St.flats] at h2
            rcases List.mem_append.1 h2 with h2 | h2
            · exact X.nm s (by simp only [St.flats, List.append_nil]; exact h2)
            · exact Nat.le_trans (C.nm s h2) (cst_suf X.suf)
theorem block_sz (pl : Pl) : ∀ e, SzB (block pl e)
  | 0, l, b, m, h => by rw [block] at h; cases h
  | e + 1, l, b, m, h => by
    rw [block] at h
    split at h
    · obtain ⟨c, hc, C⟩ := stmts_sz (fun l x m hx => stmt_sz (block_sz pl e) hx) _ _ _ _ _ h
      rw [List.nil_append] at hc
      subst hc
      have q1 : l.tail <:+ l := List.tail_suffix _
      have q2 := suf_len q1
      exact ⟨C.suf.trans q1, by have := C.len; omega, fun s hs => Nat.le_trans (C.nm s hs) (cst_suf q1)⟩
    · cases h
theorem threads_sz (pl : Pl) : ∀ f acc l t m, threads pl f acc l = (some t, m) → ∃ u, t = acc ++ u ∧ m <:+ l ∧ Jf.tsz u + m.length ≤ l.length ∧ ∀ s ∈ flatTs u, s.name.size ≤ cst l
  | 0, acc, l, t, m, h => by
    rw [threads] at h
    simp only [Prod.mk.injEq, Option.some.injEq] at h
    obtain ⟨rfl, rfl⟩ := h
    exact ⟨[], by simp, List.suffix_refl _, by simp [Jf.tsz], fun s hs => by simp [flatTs] at hs⟩
  | f + 1, acc, l, t, m, h => by
    rw [threads] at h
    split at h
    · cases hp : block pl 8 l.tail with
      | mk o m1 =>
        rw [hp] at h
        cases o with
        | none => simp at h
        | some b =>
          obtain ⟨u, hu, h1, h2, h3⟩ := threads_sz pl f (acc ++ [b]) m1 t m h
          have B := block_sz pl 8 _ _ _ hp
          have q1 : l.tail <:+ l := List.tail_suffix _
          have q2 := suf_len q1
          refine ⟨b :: u, by rw [hu]; simp, h1.trans (B.suf.trans q1), ?_, fun s hs => ?_⟩
          · have := B.len
            simp only [Jf.tsz]
            omega
          · rw [flatTs] at hs
            rcases List.mem_append.1 hs with hs | hs
            · exact Nat.le_trans (B.nm s hs) (cst_suf q1)
            · exact Nat.le_trans (h3 s hs) (cst_suf (B.suf.trans q1))
    · simp only [Prod.mk.injEq, Option.some.injEq] at h
      obtain ⟨rfl, rfl⟩ := h
      exact ⟨[], by simp, List.suffix_refl _, by simp [Jf.tsz], fun s hs => by simp [flatTs] at hs⟩
theorem decls_suf (pl : Pl) : ∀ f acc l d m, decls pl f acc l = (some d, m) → m <:+ l
  | 0, acc, l, d, m, h => by
    rw [decls] at h
    simp only [Prod.mk.injEq] at h
    rw [← h.2]; exact List.suffix_refl _
  | f + 1, acc, l, d, m, h => by
    rw [decls] at h
    split at h
    · simp only [Prod.mk.injEq] at h
      rw [← h.2]; exact List.suffix_refl _
    · cases hp : decl pl l with
      | mk o m1 =>
        rw [hp] at h
        cases o with
        | none => simp at h
        | some x =>
          have := decls_suf pl f _ _ _ _ h
          refine this.trans ?_
          unfold decl at hp
          split at hp
          · obtain ⟨a, m2, h1, hp⟩ := bind_inv hp
            obtain ⟨b, m3, h2, hp⟩ := bind_inv hp
            obtain ⟨-, rfl⟩ := ret_inv2 hp
            exact (number_inv h2).trans ((name_inv h1).1.trans (List.tail_suffix _))
          · obtain ⟨a, m2, h1, hp⟩ := bind_inv hp
            obtain ⟨-, rfl⟩ := ret_inv2 hp
            exact (name_inv h1).1.trans (List.tail_suffix _)
theorem prog_sz {pl : Pl} {l m : List Core} {d : List Dc} {t : List (List St)} (h : prog pl l = (some (d, t), m)) : Jf.tsz t ≤ l.length ∧ ∀ s ∈ flatTs t, s.name.size ≤ cst l := by
  unfold prog at h
  obtain ⟨d', m1, h1, h⟩ := bind_inv h
  obtain ⟨t', m2, h2, h⟩ := bind_inv h
  unfold ended at h
  split at h
  · simp only [Prod.mk.injEq, Option.some.injEq] at h
    obtain ⟨⟨rfl, rfl⟩, -⟩ := h
    obtain ⟨u, hu, a1, a2, a3⟩ := threads_sz pl 4 [] m1 t' m2 h2
    rw [List.nil_append] at hu
    subst hu
    have q := decls_suf pl 24 [] l d' m1 h1
    have q2 := suf_len q
    exact ⟨by omega, fun s hs => Nat.le_trans (a3 s hs) (cst_suf q)⟩
  · cases h
theorem run_cst (f : Nat) : ∀ (p : Nat) (l : List UInt8) (ts : List Lx.Tk), Lx.run f p l = .good ts → cst (ts.map Lx.Tk.core) ≤ 2 * l.length + 1 := by
  induction f with
  | zero => intro p l ts h; cases h
  | succ f ih =>
    intro p l ts h
    cases l with
    | nil => simp [Lx.run] at h; subst h; simp [cst, Lx.Tk.core]
    | cons c r =>
      rw [Lx.run_cons] at h
      split at h
      · have := ih _ _ _ h; simp; omega
      · split at h
        · have := ih _ _ _ h
          rw [List.length_drop] at this
          simp; omega
        · cases ho : Lx.one (c :: r) with
          | none => rw [ho] at h; cases h
          | some x =>
            obtain ⟨k, len, n⟩ := x
            have hl := Lx.one_len ho
            rw [ho] at h
            simp only [] at h
            cases hr : Lx.run f (p + len) ((c :: r).drop len) with
            | bad q => rw [hr] at h; cases h
            | good us =>
              rw [hr] at h
              simp only [Lx.Out.pre, Lx.Out.good.injEq] at h
              subst h
              have := ih _ _ _ hr
              rw [List.length_drop] at this
              rw [List.map_append, List.map_singleton, List.singleton_append, cst]
              have h2 : ((Lx.Tk.core ⟨k, p, (c :: r).take len, n⟩).2.1).length ≤ len := by
                show ((c :: r).take len).length ≤ len
                rw [List.length_take]; omega
              omega
/-- What was read is small. -/
theorem out_small {s : ByteArray} {d : List Dc} {t : List (List St)} {q : Nat} (h : Pp.out s = (some (d, t), q)) : Jf.tsz t ≤ 20000 ∧ ∀ x ∈ flatTs t, x.name.size ≤ 20000 := by
  unfold Pp.out at h
  split at h
  · cases h
  · rename_i ts hts
    have hc : cst (ts.map Lx.Tk.core) ≤ 12001 := by
      unfold Lx.toks at hts
      split at hts
      · cases hts
      · have := run_cst _ _ _ _ hts
        omega
    simp only [Prod.mk.injEq] at h
    cases hp : Pp.prog (plOf s ts) (ts.map Lx.Tk.core) with
    | mk o m =>
      rw [hp] at h
      have h0 : o = some (d, t) := h.1
      subst h0
      obtain ⟨a, b⟩ := prog_sz hp
      have := len_cst (ts.map Lx.Tk.core)
      exact ⟨by omega, fun x hx => by have := b x hx; omega⟩
end Pp
end Go.Proofs.Ytnfkjmafhaecgaa
