/- Sa -/
import Derived.Test.YtnfkjmafhaecgaaYRz
import Derived.Test.YtnfkjmafhaecgaaYPaC
import Derived.Test.YtnfkjmafhaecgaaYWD

namespace Go.Proofs.Ytnfkjmafhaecgaa
open Go.RowKit
attribute [local go_sem] run_store_complex
theorem BoxS.but {R : Nat} {w w' : World} {B : Nat} {cs : List Value} (h : BoxS w B cs) (b : But R w w') (hn : B ≠ R) : BoxS w' B cs := h.off (b.block B h.lt hn) b.size
/-- A statement's values. -/
structure Sv where
  k : Int
  nm : ByteArray
  ot : ByteArray
  n : Int
  ek : Int
  en : Int
  es : ByteArray
  ea : Option Addr
  el : Nat
  eq : Nat
  ba : Option Addr
  bl : Nat
  bq : Nat
  ca : Option Addr
  cl : Nat
  cq : Nat
  X : Nat
  Y : Nat
def Sv.cells (v : Sv) : List Value := [.int .i64 v.k, .string v.nm, .string v.ot, .int .i64 v.n, .int .i64 v.ek, .int .i64 v.en, .string v.es, .slice v.ea v.el v.eq, .slice v.ba v.bl v.bq, .slice v.ca v.cl v.cq, .complex .f64 v.X v.Y]
/-- They are those of the statement x. -/
structure Sv.Is (v : Sv) (x : St) (w : World) (D : Nat → Prop) : Prop where
  k : v.k = x.kind
  nm : v.nm = x.name
  ot : v.ot = x.other
  n : v.n = x.n
  ek : v.ek = x.e.kind
  en : v.en = x.e.n
  es : v.es = x.e.name
  X : v.X = x.re
  Y : v.Y = x.im
  e : ExsD w D x.e.of (.slice v.ea v.el v.eq)
  b : StsD w D x.body (.slice v.ba v.bl v.bq)
  c : StsD w D x.els (.slice v.ca v.cl v.cq)
/-- What stmt leaves. -/
def RedS (R g cap : Nat) (ts : List Lx.Tk) (bad : Nat) (w : World) (o : Option St) (m : List Lx.Core) (e : Ending) (w' : World) : Prop :=
  ∃ v : Sv, e = .returned (.agg v.cells.toArray) ∧ Hid (But R w w' ∧ (∀ x, o = some x → v.Is x w' (Rng w.heap.size w'.heap.size) ∧ Rq w' R g cap ts (ts.length - m.length) false bad) ∧
    (o = none → ∃ a', a' < ts.length ∧ Rq w' R g cap ts a' true (ts.length - m.length)))
/-- What block leaves. -/
def RedB (R g cap : Nat) (ts : List Lx.Tk) (bad : Nat) (w : World) (o : Option (List St)) (m : List Lx.Core) (e : Ending) (w' : World) : Prop :=
  ∃ (a : Option Addr) (l q : Nat), e = .returned (.slice a l q) ∧ Hid (But R w w' ∧ (∀ x, o = some x → StsIn w' w.heap.size w'.heap.size x (.slice a l q) ∧ Rq w' R g cap ts (ts.length - m.length) false bad) ∧
    (o = none → ∃ a', a' < ts.length ∧ Rq w' R g cap ts a' true (ts.length - m.length)))
/-- What is known of a text's tokens. -/
structure TkOk (s : ByteArray) (ts : List Lx.Tk) : Prop where
  fit : FitT ts
  kd : ∀ t ∈ ts, t.kind = kindOf t.text
  at' : ∀ t ∈ ts, t.at' ≤ s.size
  sz : s.size ≤ 1125899906842624
/-- What block promises, in this depth. -/
structure QB (deep : Int) (blk : Pp.Pl → Pp.R (List St)) : Prop where
  kp : ∀ pl, Pp.Keeps (blk pl)
  yes : ∀ (R g cap : Nat) (s : ByteArray) (ts : List Lx.Tk) (a bad : Nat) (w : World), Rq w R g cap ts a false bad → Pp.Alive (left ts a) → TkOk s ts → ∀ o m, blk (plOf s ts) (left ts a) = (o, m) →
    Calls Try.prog 54 #[.pointer (some ⟨R, 0, none⟩), .string s, .int .i64 deep] w fun e w' => RedB R g cap ts bad w o m e w'
  no : ∀ (R g cap : Nat) (s : ByteArray) (ts : List Lx.Tk) (a bad : Nat) (w : World), Rq w R g cap ts a true bad → a < ts.length →
    Calls Try.prog 54 #[.pointer (some ⟨R, 0, none⟩), .string s, .int .i64 deep] w fun e w' => e = .returned (.slice none 0 0) ∧ Hid (But R w w' ∧ Rq w' R g cap ts a true bad)
/-- A new statement's block. -/
abbrev sz (w : World) : World := w.alloc (.cells #[.int .i64 0, .string ⟨#[]⟩, .string ⟨#[]⟩, .int .i64 0, .int .i64 0, .int .i64 0, .string ⟨#[]⟩, .slice none 0 0, .slice none 0 0, .slice none 0 0, .complex .f64 0 0] 46)
def sv0 (X Y : Nat) : Sv := ⟨0, ⟨#[]⟩, ⟨#[]⟩, 0, 0, 0, ⟨#[]⟩, none, 0, 0, none, 0, 0, none, 0, 0, X, Y⟩
theorem box_of {w : World} {b : Nat} {cs : Array Value} {ty : Nat} (h : w.heap[b]? = some (.cells cs ty (0, 0))) : BoxS w b cs.toList := by
  have hlt : b < w.heap.size := by
    rcases Nat.lt_or_ge b w.heap.size with h1 | h1
    · exact h1
    · rw [Array.getElem?_eq_none h1] at h; cases h
  refine ⟨fun j v hv => ?_, fun j => frozen_of_row w b j _ _ h, hlt⟩
  rw [Nat.zero_add, cell_of_row w b _ _ _ (0, 0) h]
  simpa using hv
theorem esizeS : (Try.prog.info? 46).map (·.size) = some 11 := by kernel_rfl
theorem hd_name {l : List Lx.Core} (h : isNmT (Px.hd l) = true) : Px.isNm (Px.hd l).2.1 = true := by unfold isNmT at h; simp at h; exact h.2
theorem name_yes {α : Type} {l : List Lx.Core} {f : List UInt8 → α} {o : Option α} {m : List Lx.Core} (h : isNmT (Px.hd l) = true) (hp : Pp.bind Pp.name (fun a => Pp.ret (f a)) l = (o, m)) : o = some (f (Px.hd l).2.1) ∧ m = l.tail := by
  rw [Pp.bind_some (show Pp.name l = (some (Px.hd l).2.1, l.tail) by unfold Pp.name; rw [if_pos (hd_name h)])] at hp
  simp only [Pp.ret, Prod.mk.injEq] at hp
  exact ⟨hp.1.symm, hp.2.symm⟩
theorem name_no {α : Type} {l : List Lx.Core} {f : List UInt8 → α} {o : Option α} {m : List Lx.Core} (h : Px.isNm (Px.hd l).2.1 = false) (hp : Pp.bind Pp.name (fun a => Pp.ret (f a)) l = (o, m)) : o = none ∧ m = l := by
  rw [Pp.bind_none (show Pp.name l = (none, l) by unfold Pp.name; rw [h]; rfl)] at hp
  simp only [Prod.mk.injEq] at hp
  exact ⟨hp.1.symm, hp.2.symm⟩
/-- A name is a word. -/
theorem nm_no {ts : List Lx.Tk} {s : ByteArray} (hok : TkOk s ts) {b : Nat} (hb : b < ts.length) (h : isNmT (Px.hd (left ts b)) = false) : Px.isNm (Px.hd (left ts b)).2.1 = false := by
  rw [hd_in ts b hb] at h ⊢
  cases hn : Px.isNm ts[b].text with
  | false => rfl
  | true =>
    have hw := Ps.nm_word hn
    have hk := hok.kd _ (List.getElem_mem hb)
    have h1 : ts[b].kind = 1 := by
      rw [hk]
      cases htx : ts[b].text with
      | nil => rw [htx] at hw; cases hw
      | cons c r =>
        rw [htx] at hw
        unfold Lx.isWord at hw
        unfold kindOf
        simp at hw
        simp [hw.1]
    unfold isNmT at h
    rw [h1] at h
    simp [hn] at h
theorem Rz_yes {w' : World} {R g cap : Nat} {ts : List Lx.Tk} {a bad : Nat} (h : Rz w' R g cap ts a bad false true) : Rq w' R g cap ts (a + 1) false bad := h
theorem Rz_no {w' : World} {R g cap : Nat} {ts : List Lx.Tk} {a bad : Nat} (h : Rz w' R g cap ts a bad false false) : Rq w' R g cap ts a true a := h
/-- The end of stmt. -/
theorem reds_end {tmps : Array Value} {w wr : World} {R g cap : Nat} {ts : List Lx.Tk} {bad : Nat} {o : Option St} {m : List Lx.Core} (v : Sv) (hp : tmps.getD 6 undef = .pointer (some ⟨w.heap.size, 0, none⟩)) (hz : BoxS wr w.heap.size (sv0 0 0).cells) (hB : But R w wr) (hRw : R < w.heap.size) (hgw : g < w.heap.size)
    (H1 : ∀ x, o = some x → v.Is x wr (fun j => w.heap.size < j ∧ j < wr.heap.size) ∧ Rq wr R g cap ts (ts.length - m.length) false bad)
    (H2 : o = none → ∃ a', a' < ts.length ∧ Rq wr R g cap ts a' true (ts.length - m.length)) :
    bodyPost Try.prog Try.f62 (fun e w' => RedS R g cap ts bad w o m e w') .ret { tmps := tmps, defers := [] } (wr.setCells w.heap.size 0 v.cells) := by
  have hr := World.rangeAt_setCells_same wr w.heap.size 0 v.cells (hz.there 0 11 (by decide))
  have hs := size_setCells w.heap.size v.cells 0 wr
  have up : ∀ a fl b, Rq wr R g cap ts a fl b → Rq (wr.setCells w.heap.size 0 v.cells) R g cap ts a fl b := fun a fl b h => h.sets (by omega) (by omega) _ _
  have st : StaysD (fun j => w.heap.size < j ∧ j < wr.heap.size) wr (wr.setCells w.heap.size 0 v.cells) := fun j hj => heap_setCells _ _ _ _ j (by have := hj.1; omega)
  refine bodyPost_ret (results_cell_mid (P := Try.prog) Try.results62 _ _ w.heap.size 0 v.cells _ hp hr Try.underlying46 rfl esizeS) rfl ⟨v, rfl, hB.sets (Nat.le_refl _) _ _, fun x hx => ?_, fun hx => ?_⟩
  · obtain ⟨h1, h2⟩ := H1 x hx
    have mo : ∀ j, (fun j => w.heap.size < j ∧ j < wr.heap.size) j → Rng w.heap.size (wr.setCells w.heap.size 0 v.cells).heap.size j := fun j hj => ⟨by have := hj.1; omega, by have := hj.2; omega⟩
    exact ⟨⟨h1.k, h1.nm, h1.ot, h1.n, h1.ek, h1.en, h1.es, h1.X, h1.Y, (h1.e.stays st).mono mo, (h1.b.stays st).mono mo, (h1.c.stays st).mono mo⟩, up _ _ _ h2⟩
  · obtain ⟨a', h1, h2⟩ := H2 hx
    exact ⟨a', h1, up _ _ _ h2⟩
theorem sk_kind {t : List UInt8} (h : Pp.sk t ≠ 1) : kindOf t = 1 := by
  unfold Pp.sk at h
  repeat' split at h
  all_goals first
    | (rename_i h'; rw [h']; decide)
    | exact absurd rfl h
theorem BoxS.setv {w : World} {B : Nat} {cs : List Value} (h : BoxS w B cs) (j : Nat) (vs cs' : List Value) (hl : j + vs.length ≤ cs.length) (he : cs.take j ++ vs ++ cs.drop (j + vs.length) = cs') : BoxS (w.setCells B j vs) B cs' := he ▸ h.set j vs hl
theorem BoxS.apart {w : World} {B C : Nat} {cs : List Value} (h : BoxS w B cs) (hn : B ≠ C) (j : Nat) (vs : List Value) : BoxS (w.setCells C j vs) B cs := h.off (heap_setCells _ _ _ _ _ hn) (by rw [size_setCells]; exact Nat.le_refl _)
theorem StsD.nil' (w : World) (D : Nat → Prop) : StsD w D [] (.slice none 0 0) :=
  .mk [] none 0 (fun _ => undef) (fun _ => undef) (fun _ => undef) ⟨Nat.le_refl _, by unfold maxLen; omega, fun _ => rfl⟩ (fun i hi => by simp at hi) (fun i hi => by simp at hi) (fun i hi => by simp at hi) fun i hi => by simp at hi
abbrev Dk (B : Nat) (w : World) : Nat → Prop := fun k => B < k ∧ k < w.heap.size
theorem ex_new {w Wd : World} {B : Nat} {l : List Ex} {v : Value} (h : ExsIn w Wd.heap.size w.heap.size l v) (hB : B < Wd.heap.size) : ExsD w (Dk B w) l v := h.mono fun k hk => ⟨by have := hk.1; omega, hk.2⟩
theorem ex_but {R B : Nat} {w w' : World} {l : List Ex} {v : Value} (h : ExsD w (Dk B w) l v) (b : But R w w') (hR : R < B) : ExsD w' (Dk B w') l v := (h.stays fun k hk => b.block k hk.2 (by have := hk.1; omega)).mono fun k hk => ⟨hk.1, Nat.lt_of_lt_of_le hk.2 b.size⟩
theorem ex_set {B : Nat} {w : World} {l : List Ex} {v : Value} (h : ExsD w (Dk B w) l v) (j : Nat) (vs : List Value) : ExsD (w.setCells B j vs) (Dk B (w.setCells B j vs)) l v := (h.stays fun k hk => heap_setCells _ _ _ _ k (by have := hk.1; omega)).mono fun k hk => ⟨hk.1, by rw [size_setCells]; exact hk.2⟩
theorem ex_fin {B lo : Nat} {w : World} {l : List Ex} {v : Value} (h : ExsD w (Dk B w) l v) (hl : lo ≤ B) : ExsD w (fun k => lo < k ∧ k < w.heap.size) l v := h.mono fun k hk => ⟨by have := hk.1; omega, hk.2⟩
theorem ss_new {w Wd : World} {B : Nat} {l : List St} {v : Value} (h : StsIn w Wd.heap.size w.heap.size l v) (hB : B < Wd.heap.size) : StsD w (Dk B w) l v := h.mono fun k hk => ⟨by have := hk.1; omega, hk.2⟩
theorem ss_but {R B : Nat} {w w' : World} {l : List St} {v : Value} (h : StsD w (Dk B w) l v) (b : But R w w') (hR : R < B) : StsD w' (Dk B w') l v := (h.stays fun k hk => b.block k hk.2 (by have := hk.1; omega)).mono fun k hk => ⟨hk.1, Nat.lt_of_lt_of_le hk.2 b.size⟩
theorem ss_set {B : Nat} {w : World} {l : List St} {v : Value} (h : StsD w (Dk B w) l v) (j : Nat) (vs : List Value) : StsD (w.setCells B j vs) (Dk B (w.setCells B j vs)) l v := (h.stays fun k hk => heap_setCells _ _ _ _ k (by have := hk.1; omega)).mono fun k hk => ⟨hk.1, by rw [size_setCells]; exact hk.2⟩
theorem ss_fin {B lo : Nat} {w : World} {l : List St} {v : Value} (h : StsD w (Dk B w) l v) (hl : lo ≤ B) : StsD w (fun k => lo < k ∧ k < w.heap.size) l v := h.mono fun k hk => ⟨by have := hk.1; omega, hk.2⟩
theorem bind_name_yes {α : Type} {l : List Lx.Core} {f : List UInt8 → Pp.R α} (h : isNmT (Px.hd l) = true) : Pp.bind Pp.name f l = f (Px.hd l).2.1 l.tail :=
  Pp.bind_some (show Pp.name l = (some (Px.hd l).2.1, l.tail) by unfold Pp.name; rw [if_pos (hd_name h)])
theorem bind_name_no {α : Type} {l : List Lx.Core} {f : List UInt8 → Pp.R α} (h : Px.isNm (Px.hd l).2.1 = false) : Pp.bind Pp.name f l = (none, l) :=
  Pp.bind_none (show Pp.name l = (none, l) by unfold Pp.name; rw [h]; rfl)
theorem bind_no_yes {α : Type} {l : List Lx.Core} {most : Nat} {f : Nat → Pp.R α} (h : isNo most (Px.hd l) = true) : Pp.bind (Pp.number most) f l = f (Px.hd l).2.2 l.tail := by
  unfold isNo at h
  simp at h
  exact Pp.bind_some (show Pp.number most l = (some (Px.hd l).2.2, l.tail) by unfold Pp.number; rw [if_pos h])
theorem bind_no_no {α : Type} {l : List Lx.Core} {most : Nat} {f : Nat → Pp.R α} (h : isNo most (Px.hd l) = false) : Pp.bind (Pp.number most) f l = (none, l) := by
  have h' : ¬ ((Px.hd l).1 = 2 ∧ (Px.hd l).2.2 ≤ most) := by unfold isNo at h; simp at h; exact fun c => absurd c.2 (by have := h c.1; omega)
  exact Pp.bind_none (show Pp.number most l = (none, l) by unfold Pp.number; rw [if_neg h'])
/-- A sign is told by its text. -/
theorem sg_text {ts : List Lx.Tk} {s : ByteArray} (hok : TkOk s ts) {b : Nat} (hb : b < ts.length) {x : List UInt8} (hx : kindOf x = 3) : Px.isSg x (Px.hd (left ts b)) = decide ((Px.hd (left ts b)).2.1 = x) := by
  rw [hd_in ts b hb]
  have hk := hok.kd _ (List.getElem_mem hb)
  unfold Px.isSg
  show (ts[b].kind == 3 && ts[b].text == x) = decide (ts[b].text = x)
  by_cases h : ts[b].text = x
  · rw [hk, h, hx]; simp
  · simp [h]
theorem wd_text {ts : List Lx.Tk} {s : ByteArray} (hok : TkOk s ts) {b : Nat} (hb : b < ts.length) {x : List UInt8} (hx : kindOf x = 1) : isWd x (Px.hd (left ts b)) = decide ((Px.hd (left ts b)).2.1 = x) := by
  rw [hd_in ts b hb]
  have hk := hok.kd _ (List.getElem_mem hb)
  unfold isWd
  show (ts[b].kind == 1 && ts[b].text == x) = decide (ts[b].text = x)
  by_cases h : ts[b].text = x
  · rw [hk, h, hx]; simp
  · simp [h]
theorem bind_skip_yes {α : Type} {l : List Lx.Core} {t : List UInt8} {f : Unit → Pp.R α} (h : (Px.hd l).2.1 = t) : Pp.bind (Pp.skip t) f l = f () l.tail :=
  Pp.bind_some (show Pp.skip t l = (some (), l.tail) by unfold Pp.skip; rw [if_pos h])
theorem bind_skip_no {α : Type} {l : List Lx.Core} {t : List UInt8} {f : Unit → Pp.R α} (h : ¬ (Px.hd l).2.1 = t) : Pp.bind (Pp.skip t) f l = (none, l) :=
  Pp.bind_none (show Pp.skip t l = (none, l) by unfold Pp.skip; rw [if_neg h])
theorem alive_next {ts : List Lx.Tk} {b : Nat} (h : Pp.Alive (left ts b)) (hn : (Px.hd (left ts b)).1 ≠ 4) : Pp.Alive (left ts (b + 1)) := by
  have := h.tail (.inl hn)
  rwa [left_tail] at this
theorem nmt_kind {t : Lx.Core} (h : isNmT t = true) : t.1 ≠ 4 := by unfold isNmT at h; simp at h; omega
theorem no_kind {t : Lx.Core} {most : Nat} (h : isNo most t = true) : t.1 ≠ 4 := by unfold isNo at h; simp at h; omega
theorem sg_kind {t : Lx.Core} {x : List UInt8} (h : Px.isSg x t = true) : t.1 ≠ 4 := by rw [Px.isSg_kind h]; decide
theorem bind_other_yes {α : Type} {l : List Lx.Core} {blk : Pp.R (List St)} {f : List St → Pp.R α} (h : (Px.hd l).2.1 = Pp.tElse) : Pp.bind (Pp.other blk) f l = Pp.bind blk f l.tail := by
  unfold Pp.bind Pp.other
  rw [if_pos h]
theorem bind_other_no {α : Type} {l : List Lx.Core} {blk : Pp.R (List St)} {f : List St → Pp.R α} (h : ¬ (Px.hd l).2.1 = Pp.tElse) : Pp.bind (Pp.other blk) f l = f [] l :=
  Pp.bind_some (show Pp.other blk l = (some [], l) by unfold Pp.other; rw [if_neg h])
theorem wd_kind {t : Lx.Core} {x : List UInt8} (h : isWd x t = true) : t.1 ≠ 4 := by unfold isWd at h; simp at h; omega
set_option maxRecDepth 100000 in
set_option maxHeartbeats 8000000 in
theorem rstmt_off (deep : Int) (blk : Pp.Pl → Pp.R (List St)) {R g cap : Nat} {s : ByteArray} {ts : List Lx.Tk} {a bad : Nat} {w : World} (h : Rq w R g cap ts a false bad) (hal : Pp.Alive (left ts a)) (hok : TkOk s ts) (o : Option St) (m : List Lx.Core) (hno : ¬ (Px.hd (left ts a)).1 = 1) (hp : Pp.stmt (plOf s ts) (blk (plOf s ts)) (left ts a) = (o, m)) :
    Calls Try.prog 62 #[.pointer (some ⟨R, 0, none⟩), .string s, .int .i64 deep] w fun e w' => RedS R g cap ts bad w o m e w' := by
  have ha := alive_lt hal
  have HR : Hid (Rq w R g cap ts a false bad) := h
  have hRw := h.rlt
  have hgw := h.lt
  have c0 := h.c0
  have c1 := h.c1
  have z1 := h.z 1
  have hf := h.few
  have hwr : IntKind.i64.wrap ((a : Int) + 1) = (a : Int) + 1 := by rw [IntKind.wrap_i64]; omega
  have hhd := hd_in ts a ha
  have hmem := List.getElem_mem ha
  have hw1 : ts[a].kind = 1 → Lx.isWord ts[a].text = true := hok.fit _ hmem
  have hkd : Hid (ts[a].kind = kindOf ts[a].text) := hok.kd _ hmem
  have HPL : Hid (∀ W, Calls Try.prog 50 #[.string s, .int .i64 (ts[a].at' : Int)] W fun e w' => e = .returned (.complex .f64 (lineW s ts[a].at') (colW s ts[a].at')) ∧ w' = W) := fun W => place_in s _ hok.sz (hok.at' _ hmem) W
  have hpl : plOf s ts (left ts a).length = (lineW s ts[a].at', colW s ts[a].at') := plOf_at s ts a ha
  obtain ⟨t0, t1, t2, t3⟩ := h.tok a ha
  have hai : (a : Int) < (ts.length : Int) := by omega
  have HA : Hid (a < ts.length) := ha
  have HAL : Hid (Pp.Alive (left ts a)) := hal
  have HOK : Hid (TkOk s ts) := hok
  have HHD : Hid _ := hhd
  have HPP : Hid _ := hpl
  unfold Pp.stmt at hp
  rw [hpl, hhd] at hp
  generalize lineW s ts[a].at' = X at *
  generalize colW s ts[a].at' = Y at *
  generalize ts[a].kind = kd at *
  generalize ts[a].text = tx at *
  generalize ts[a].n = nn at *
  generalize ts[a].at' = aa at *
  obtain ⟨N, hN⟩ : ∃ N, ts.length = N := ⟨_, rfl⟩
  have HN : Hid (ts.length = N) := hN
  rw [hN] at c0 hf hai
  clear h hal hok ha hN hmem hpl
  go_enter Try.func62, Try.ntmps62
  go_wp2_with fail
  go_region
  obtain ⟨W1, hW1⟩ : ∃ W1, ((sz w).alloc (.cells #[.int .i64 (kd : Int), .string (Px.ba tx), .int .i64 (nn : Int), .int .i64 (aa : Int)] 99)).drew = W1 := ⟨_, rfl⟩
  have hkw : Kept w (sz w) := (Kept.refl _).al _
  have hk1 : Kept (sz w) W1 := by rw [← hW1]; exact ((Kept.refl _).al _).dr
  have KW1 : Hid (Kept w W1) := hkw.then hk1
  have hbz : BoxS W1 w.heap.size (sv0 0 0).cells := (box_of (heap_alloc_new w _)).kept hk1
  have hbt : BoxS W1 (w.heap.size + 1) [.int .i64 (kd : Int), .string (Px.ba tx), .int .i64 (nn : Int), .int .i64 (aa : Int)] := by
    have h1 : BoxS ((sz w).alloc (.cells #[.int .i64 (kd : Int), .string (Px.ba tx), .int .i64 (nn : Int), .int .i64 (aa : Int)] 99)) (sz w).heap.size [.int .i64 (kd : Int), .string (Px.ba tx), .int .i64 (nn : Int), .int .i64 (aa : Int)] := box_of (heap_alloc_new (sz w) _)
    rw [show (sz w).heap.size = w.heap.size + 1 by simp] at h1
    rw [← hW1]
    exact h1.kept (Kept.refl _).dr
  have u3 : W1.cell? ⟨w.heap.size + 1, 3, none⟩ = some (.int .i64 (aa : Int)) := hbt.cell 3 rfl
  have hlt1 : w.heap.size + 1 < W1.heap.size := hbt.lt
  rw [hW1]
  clear hW1 hk1 hkw c0 t0 t1 t2 t3
  go_wp2_with fail
  refine (HPL.out _).mono ?_
  rintro e W1 ⟨rfl, rfl⟩
  obtain ⟨B8, hB8⟩ : ∃ B, W1.heap.size = B := ⟨_, rfl⟩
  obtain ⟨W2, hW2⟩ : ∃ W, W1.alloc (.cells #[.int .i64 0, .string ⟨#[]⟩, .string ⟨#[]⟩, .int .i64 0, .int .i64 0, .int .i64 0, .string ⟨#[]⟩, .slice none 0 0, .slice none 0 0, .slice none 0 0, .complex .f64 X Y] 46) = W := ⟨_, rfl⟩
  have hk2 : Kept W1 W2 := by rw [← hW2]; exact (Kept.refl _).al _
  have KW2 : Hid (Kept w W2) := KW1.out.then hk2
  have HQ2 : Hid (Rq W2 R g cap ts a false bad) := HR.out.kept KW2.out
  have hx : BoxS W2 B8 (⟨0, ⟨#[]⟩, ⟨#[]⟩, 0, 0, 0, ⟨#[]⟩, none, 0, 0, none, 0, 0, none, 0, 0, X, Y⟩ : Sv).cells := by rw [← hW2, ← hB8]; exact box_of (heap_alloc_new W1 _)
  have HXW2 : Hid (BoxS W2 B8 (⟨0, ⟨#[]⟩, ⟨#[]⟩, 0, 0, 0, ⟨#[]⟩, none, 0, 0, none, 0, 0, none, 0, 0, X, Y⟩ : Sv).cells) := hx
  have hzz : BoxS W2 w.heap.size (sv0 0 0).cells := hbz.kept hk2
  have HZW2 : Hid (BoxS W2 w.heap.size (sv0 0 0).cells) := hzz
  have x0 : W2.cell? ⟨B8, 0, none⟩ = some (.int .i64 (0)) := hx.cell 0 rfl
  have x1 : W2.cell? ⟨B8, 1, none⟩ = some (.string (⟨#[]⟩)) := hx.cell 1 rfl
  have x2 : W2.cell? ⟨B8, 2, none⟩ = some (.string (⟨#[]⟩)) := hx.cell 2 rfl
  have x3 : W2.cell? ⟨B8, 3, none⟩ = some (.int .i64 (0)) := hx.cell 3 rfl
  have x4 : W2.cell? ⟨B8, 4, none⟩ = some (.int .i64 (0)) := hx.cell 4 rfl
  have x5 : W2.cell? ⟨B8, 5, none⟩ = some (.int .i64 (0)) := hx.cell 5 rfl
  have x6 : W2.cell? ⟨B8, 6, none⟩ = some (.string (⟨#[]⟩)) := hx.cell 6 rfl
  have x7 : W2.cell? ⟨B8, 7, none⟩ = some (.slice none 0 0) := hx.cell 7 rfl
  have x8 : W2.cell? ⟨B8, 8, none⟩ = some (.slice none 0 0) := hx.cell 8 rfl
  have x9 : W2.cell? ⟨B8, 9, none⟩ = some (.slice none 0 0) := hx.cell 9 rfl
  have x10 : W2.cell? ⟨B8, 10, none⟩ = some (.complex .f64 X Y) := hx.cell 10 rfl
  have r0 : W2.cell? ⟨w.heap.size, 0, none⟩ = some (.int .i64 (0)) := hzz.cell 0 rfl
  have r1 : W2.cell? ⟨w.heap.size, 1, none⟩ = some (.string (⟨#[]⟩)) := hzz.cell 1 rfl
  have r2 : W2.cell? ⟨w.heap.size, 2, none⟩ = some (.string (⟨#[]⟩)) := hzz.cell 2 rfl
  have r3 : W2.cell? ⟨w.heap.size, 3, none⟩ = some (.int .i64 (0)) := hzz.cell 3 rfl
  have r4 : W2.cell? ⟨w.heap.size, 4, none⟩ = some (.int .i64 (0)) := hzz.cell 4 rfl
  have r5 : W2.cell? ⟨w.heap.size, 5, none⟩ = some (.int .i64 (0)) := hzz.cell 5 rfl
  have r6 : W2.cell? ⟨w.heap.size, 6, none⟩ = some (.string (⟨#[]⟩)) := hzz.cell 6 rfl
  have r7 : W2.cell? ⟨w.heap.size, 7, none⟩ = some (.slice none 0 0) := hzz.cell 7 rfl
  have r8 : W2.cell? ⟨w.heap.size, 8, none⟩ = some (.slice none 0 0) := hzz.cell 8 rfl
  have r9 : W2.cell? ⟨w.heap.size, 9, none⟩ = some (.slice none 0 0) := hzz.cell 9 rfl
  have r10 : W2.cell? ⟨w.heap.size, 10, none⟩ = some (.complex .f64 0 0) := hzz.cell 10 rfl
  have xf : ∀ j, W2.frozen? ⟨B8, j, none⟩ = false := hx.fz
  have rf : ∀ j, W2.frozen? ⟨w.heap.size, j, none⟩ = false := hzz.fz
  have xl : B8 < W2.heap.size := hx.lt
  have rl : w.heap.size < W2.heap.size := hzz.lt
  clear hx hzz
  have htk : BoxS W2 (w.heap.size + 1) [.int .i64 (kd : Int), .string (Px.ba tx), .int .i64 (nn : Int), .int .i64 (aa : Int)] := hbt.kept hk2
  have HTW2 : Hid (BoxS W2 (w.heap.size + 1) [.int .i64 (kd : Int), .string (Px.ba tx), .int .i64 (nn : Int), .int .i64 (aa : Int)]) := htk
  have u0 : W2.cell? ⟨w.heap.size + 1, 0, none⟩ = some (.int .i64 (kd : Int)) := htk.cell 0 rfl
  have u1 : W2.cell? ⟨w.heap.size + 1, 1, none⟩ = some (.string (Px.ba tx)) := htk.cell 1 rfl
  clear htk
  have hR2 := HQ2.out.rlt
  replace c1 := HQ2.out.c1
  replace z1 := HQ2.out.z 1
  have hBR : B8 ≠ R := by omega
  have hBg : B8 ≠ g := by omega
  have hBw : w.heap.size + 1 < B8 := by omega
  have hrR : w.heap.size ≠ R := by omega
  have htR : w.heap.size + 1 ≠ R := by omega
  have hrB : w.heap.size ≠ B8 := by omega
  have htB : w.heap.size + 1 ≠ B8 := by omega
  have HGW : Hid (g < w.heap.size) := hgw
  have LF : Hid (ts.length - (left ts a).length = a) := by show _ = _; rw [left_len]; have := HA.out; omega
  clear hbz hbt u3 hk2 hgw hlt1
  have h1 : ¬ kd = 1 := by rw [hhd] at hno; exact hno
  have h1' : ((kd : Int) != 1) = true := by simp; omega
  have FL : Hid (Calls Try.prog 49 #[.pointer (some ⟨R, 0, none⟩)] W2 fun e w' => (∃ v, e = .returned v) ∧ But R W2 w' ∧ Rq w' R g cap ts a true a) := fail_any HQ2.out
  have hO : o = none ∧ m = left ts a := by
    have hn : Px.isNm tx = false := by
      cases hnm : Px.isNm tx with
      | false => rfl
      | true =>
        have hw := Ps.nm_word hnm
        exfalso
        apply h1
        rw [hkd.out]
        cases tx with
        | nil => cases hw
        | cons c r =>
          unfold Lx.isWord at hw
          unfold kindOf
          simp at hw
          simp [hw.1]
    have hsk : Pp.sk tx = 1 := by
      rcases Nat.decEq (Pp.sk tx) 1 with h | h
      · exact absurd ((hkd.out).trans (sk_kind h)) h1
      · exact h
    simp only [hsk, if_true] at hp
    unfold Pp.assign at hp
    rw [Pp.bind_none (m := left ts a) (by unfold Pp.name; rw [hhd, hn]; rfl)] at hp
    simp only [Prod.mk.injEq] at hp
    exact ⟨hp.1.symm, hp.2.symm⟩
  obtain ⟨rfl, rfl⟩ := hO
  clear hp hhd hw1 hkd
  go_wp2_with fail
  refine Calls.mono FL.out ?_
  rintro e w3 ⟨⟨v, rfl⟩, hb, hq⟩
  have HB3 : Hid (But R W2 w3) := hb
  have HQ3 : Hid (Rq w3 R g cap ts a true a) := hq
  clear hb hq
  have hx : BoxS w3 B8 (⟨0, ⟨#[]⟩, ⟨#[]⟩, 0, 0, 0, ⟨#[]⟩, none, 0, 0, none, 0, 0, none, 0, 0, X, Y⟩ : Sv).cells := HXW2.out.but HB3.out hBR
  have HXw3 : Hid (BoxS w3 B8 (⟨0, ⟨#[]⟩, ⟨#[]⟩, 0, 0, 0, ⟨#[]⟩, none, 0, 0, none, 0, 0, none, 0, 0, X, Y⟩ : Sv).cells) := hx
  have hzz : BoxS w3 w.heap.size (sv0 0 0).cells := HZW2.out.but HB3.out hrR
  have HZw3 : Hid (BoxS w3 w.heap.size (sv0 0 0).cells) := hzz
  replace x0 : w3.cell? ⟨B8, 0, none⟩ = some (.int .i64 (0)) := hx.cell 0 rfl
  replace x1 : w3.cell? ⟨B8, 1, none⟩ = some (.string (⟨#[]⟩)) := hx.cell 1 rfl
  replace x2 : w3.cell? ⟨B8, 2, none⟩ = some (.string (⟨#[]⟩)) := hx.cell 2 rfl
  replace x3 : w3.cell? ⟨B8, 3, none⟩ = some (.int .i64 (0)) := hx.cell 3 rfl
  replace x4 : w3.cell? ⟨B8, 4, none⟩ = some (.int .i64 (0)) := hx.cell 4 rfl
  replace x5 : w3.cell? ⟨B8, 5, none⟩ = some (.int .i64 (0)) := hx.cell 5 rfl
  replace x6 : w3.cell? ⟨B8, 6, none⟩ = some (.string (⟨#[]⟩)) := hx.cell 6 rfl
  replace x7 : w3.cell? ⟨B8, 7, none⟩ = some (.slice none 0 0) := hx.cell 7 rfl
  replace x8 : w3.cell? ⟨B8, 8, none⟩ = some (.slice none 0 0) := hx.cell 8 rfl
  replace x9 : w3.cell? ⟨B8, 9, none⟩ = some (.slice none 0 0) := hx.cell 9 rfl
  replace x10 : w3.cell? ⟨B8, 10, none⟩ = some (.complex .f64 X Y) := hx.cell 10 rfl
  replace r0 : w3.cell? ⟨w.heap.size, 0, none⟩ = some (.int .i64 (0)) := hzz.cell 0 rfl
  replace r1 : w3.cell? ⟨w.heap.size, 1, none⟩ = some (.string (⟨#[]⟩)) := hzz.cell 1 rfl
  replace r2 : w3.cell? ⟨w.heap.size, 2, none⟩ = some (.string (⟨#[]⟩)) := hzz.cell 2 rfl
  replace r3 : w3.cell? ⟨w.heap.size, 3, none⟩ = some (.int .i64 (0)) := hzz.cell 3 rfl
  replace r4 : w3.cell? ⟨w.heap.size, 4, none⟩ = some (.int .i64 (0)) := hzz.cell 4 rfl
  replace r5 : w3.cell? ⟨w.heap.size, 5, none⟩ = some (.int .i64 (0)) := hzz.cell 5 rfl
  replace r6 : w3.cell? ⟨w.heap.size, 6, none⟩ = some (.string (⟨#[]⟩)) := hzz.cell 6 rfl
  replace r7 : w3.cell? ⟨w.heap.size, 7, none⟩ = some (.slice none 0 0) := hzz.cell 7 rfl
  replace r8 : w3.cell? ⟨w.heap.size, 8, none⟩ = some (.slice none 0 0) := hzz.cell 8 rfl
  replace r9 : w3.cell? ⟨w.heap.size, 9, none⟩ = some (.slice none 0 0) := hzz.cell 9 rfl
  replace r10 : w3.cell? ⟨w.heap.size, 10, none⟩ = some (.complex .f64 0 0) := hzz.cell 10 rfl
  replace xf : ∀ j, w3.frozen? ⟨B8, j, none⟩ = false := hx.fz
  replace rf : ∀ j, w3.frozen? ⟨w.heap.size, j, none⟩ = false := hzz.fz
  replace xl : B8 < w3.heap.size := hx.lt
  replace rl : w.heap.size < w3.heap.size := hzz.lt
  clear hx hzz
  go_wp2_with fail
  exact reds_end (sv0 X Y) rfl HZw3.out ((But.of KW2.out).then HB3.out) hRw HGW.out (fun x hx => by cases hx) (fun _ => ⟨a, HA.out, by rw [LF.out]; exact HQ3.out⟩)
end Go.Proofs.Ytnfkjmafhaecgaa
