/- Ru -/
import Derived.Test.YtnfkjmafhaecgaaYKr
import Derived.Test.YtnfkjmafhaecgaaYRdA
import Derived.Test.YtnfkjmafhaecgaaYPlB
import Derived.Deep.QuietTactic
import Derived.BigQuiet

namespace Go.Proofs.Ytnfkjmafhaecgaa
open Go.RowKit
/-- Where the reference's reader stands: its tokens, its place, whether it failed, and where. -/
structure Rq (w : World) (R g cap : Nat) (ts : List Lx.Tk) (a : Nat) (fl : Bool) (bad : Nat) : Prop where
  c0 : w.cell? ⟨R, 0, none⟩ = some (.slice (some ⟨g, 0, none⟩) ts.length cap)
  c1 : w.cell? ⟨R, 1, none⟩ = some (.int .i64 (a : Int))
  c2 : w.cell? ⟨R, 2, none⟩ = some (.bool fl)
  c3 : w.cell? ⟨R, 3, none⟩ = some (.int .i64 (bad : Int))
  z : ∀ j, w.frozen? ⟨R, j, none⟩ = false
  row : ∀ i (h : i < ts.length), w.rangeAt g (i * 4) (rCells ts[i])
  ne : g ≠ R
  lt : g < w.heap.size
  few : ts.length ≤ 6001
  le : a ≤ ts.length
theorem Rq.rlt {w : World} {R g cap : Nat} {ts : List Lx.Tk} {a bad : Nat} {fl : Bool} (h : Rq w R g cap ts a fl bad) : R < w.heap.size := block_lt_of_cell h.c0
theorem Rq.kept {w w' : World} {R g cap : Nat} {ts : List Lx.Tk} {a bad : Nat} {fl : Bool} (h : Rq w R g cap ts a fl bad) (k : Kept w w') : Rq w' R g cap ts a fl bad :=
  ⟨k.cellS h.c0, k.cellS h.c1, k.cellS h.c2, k.cellS h.c3, fun j => (k.frozen (p := ⟨R, j, none⟩) h.rlt).trans (h.z j), fun i hi j v hv => k.cellS (h.row i hi j v hv), h.ne, Nat.lt_of_lt_of_le h.lt k.size, h.few, h.le⟩
/-- Another block is written. -/
theorem Rq.off {w w' : World} {R g cap : Nat} {ts : List Lx.Tk} {a bad : Nat} {fl : Bool} (h : Rq w R g cap ts a fl bad) (hR : w'.heap[R]? = w.heap[R]?) (hg : w'.heap[g]? = w.heap[g]?) (hs : w.heap.size ≤ w'.heap.size) : Rq w' R g cap ts a fl bad := by
  have c : ∀ j, w'.cell? ⟨R, j, none⟩ = w.cell? ⟨R, j, none⟩ := fun j => World.cell?_of_block (w := w) (a := ⟨R, j, none⟩) hR
  exact ⟨(c 0).trans h.c0, (c 1).trans h.c1, (c 2).trans h.c2, (c 3).trans h.c3, fun j => by rw [World.frozen?_of_block (w := w) (a := ⟨R, j, none⟩) hR]; exact h.z j, fun i hi j v hv => by rw [World.cell?_of_block (w := w) (a := ⟨g, i * 4 + j, none⟩) hg]; exact h.row i hi j v hv, h.ne, Nat.lt_of_lt_of_le h.lt hs, h.few, h.le⟩
theorem Rq.sets {w : World} {R g cap : Nat} {ts : List Lx.Tk} {a bad : Nat} {fl : Bool} (h : Rq w R g cap ts a fl bad) {B : Nat} (hR : B ≠ R) (hg : B ≠ g) (o : Nat) (cs : List Value) : Rq (w.setCells B o cs) R g cap ts a fl bad :=
  h.off (heap_setCells _ _ _ _ _ (Ne.symm hR)) (heap_setCells _ _ _ _ _ (Ne.symm hg)) (by rw [size_setCells]; exact Nat.le_refl _)
theorem Rq.at' {w : World} {R g cap : Nat} {ts : List Lx.Tk} {a bad : Nat} {fl : Bool} (h : Rq w R g cap ts a fl bad) (b : Nat) (hb : b ≤ ts.length) : Rq (w.setCell ⟨R, 1, none⟩ (.int .i64 (b : Int))) R g cap ts b fl bad := by
  have o : ∀ b j v, (⟨b, j, none⟩ : Addr) ≠ ⟨R, 1, none⟩ → w.cell? ⟨b, j, none⟩ = some v → (w.setCell ⟨R, 1, none⟩ (.int .i64 (b : Int))).cell? ⟨b, j, none⟩ = some v := fun b j v hn hc => (World.cell?_setCell_other _ _ _ _ (Ne.symm hn)).trans hc
  refine ⟨?_, World.cell?_setCell_same _ _ _ h.c1, ?_, ?_, fun j => by rw [World.frozen?_setCell]; exact h.z j, fun i hi j v hv => ?_, h.ne, by rw [setCell_size]; exact h.lt, h.few, hb⟩
  · exact (World.cell?_setCell_other _ _ _ _ (addr_ne' (by decide))).trans h.c0
  · exact (World.cell?_setCell_other _ _ _ _ (addr_ne' (by decide))).trans h.c2
  · exact (World.cell?_setCell_other _ _ _ _ (addr_ne' (by decide))).trans h.c3
  · exact (World.cell?_setCell_other _ _ _ _ (addr_nb (Ne.symm h.ne))).trans (h.row i hi j v hv)
theorem Rq.failed {w : World} {R g cap : Nat} {ts : List Lx.Tk} {a bad : Nat} {fl : Bool} (h : Rq w R g cap ts a fl bad) (b : Nat) : Rq ((w.setCell ⟨R, 2, none⟩ (.bool true)).setCell ⟨R, 3, none⟩ (.int .i64 (b : Int))) R g cap ts a true b := by
  have s2 : (w.setCell ⟨R, 2, none⟩ (.bool true)).cell? ⟨R, 3, none⟩ = some (.int .i64 (bad : Int)) := (World.cell?_setCell_other _ _ _ _ (addr_ne' (by decide))).trans h.c3
  refine ⟨?_, ?_, ?_, World.cell?_setCell_same _ _ _ s2, fun j => by rw [World.frozen?_setCell, World.frozen?_setCell]; exact h.z j, fun i hi j v hv => ?_, h.ne, by rw [setCell_size, setCell_size]; exact h.lt, h.few, h.le⟩
  · exact (World.cell?_setCell_other _ _ _ _ (addr_ne' (by decide))).trans ((World.cell?_setCell_other _ _ _ _ (addr_ne' (by decide))).trans h.c0)
  · exact (World.cell?_setCell_other _ _ _ _ (addr_ne' (by decide))).trans ((World.cell?_setCell_other _ _ _ _ (addr_ne' (by decide))).trans h.c1)
  · exact (World.cell?_setCell_other _ _ _ _ (addr_ne' (by decide))).trans (World.cell?_setCell_same _ _ _ h.c2)
  · exact (World.cell?_setCell_other _ _ _ _ (addr_nb (Ne.symm h.ne))).trans ((World.cell?_setCell_other _ _ _ _ (addr_nb (Ne.symm h.ne))).trans (h.row i hi j v hv))
/-- The token that stands there. -/
theorem Rq.tok {w : World} {R g cap : Nat} {ts : List Lx.Tk} {a bad : Nat} {fl : Bool} (h : Rq w R g cap ts a fl bad) (i : Nat) (hi : i < ts.length) :
    w.cell? ⟨g, i * 4, none⟩ = some (.int .i64 (ts[i].kind : Int)) ∧ w.cell? ⟨g, i * 4 + 1, none⟩ = some (.string (Px.ba ts[i].text)) ∧ w.cell? ⟨g, i * 4 + 2, none⟩ = some (.int .i64 (ts[i].n : Int)) ∧ w.cell? ⟨g, i * 4 + 3, none⟩ = some (.int .i64 (ts[i].at' : Int)) :=
  ⟨h.row i hi 0 _ rfl, h.row i hi 1 _ rfl, h.row i hi 2 _ rfl, h.row i hi 3 _ rfl⟩
/-- Where it failed first. -/
def badOf (fl : Bool) (bad x : Nat) : Nat := if fl = true then bad else x
set_option maxRecDepth 100000 in
set_option maxHeartbeats 1000000 in
theorem failAt_any {w : World} {R g cap : Nat} {ts : List Lx.Tk} {a bad : Nat} {fl : Bool} (h : Rq w R g cap ts a fl bad) (x : Nat) :
    Calls Try.prog 57 #[.pointer (some ⟨R, 0, none⟩), .int .i64 (x : Int)] w fun e w' => (∃ v, e = .returned v) ∧ But R w w' ∧ Rq w' R g cap ts a true (badOf fl bad x) := by
  have c2 := h.c2
  have c3 := h.c3
  have z2 := h.z 2
  have z3 := h.z 3
  have hR := h.rlt
  have HH : Hid _ := h
  clear h
  cases fl with
  | true =>
    go_enter Try.func57, Try.ntmps57
    go_wp2_with fail
    refine bodyPost_end (v := .tuple #[]) (by simp [results, Try.results57, go_sem]) rfl ?_
    exact ⟨⟨_, rfl⟩, But.refl _ _, HH.out⟩
  | false =>
    go_enter Try.func57, Try.ntmps57
    go_wp2_with fail
    refine bodyPost_end (v := .tuple #[]) (by simp [results, Try.results57, go_sem]) rfl ?_
    exact ⟨⟨_, rfl⟩, ((But.refl _ _).set _ _).set _ _, HH.out.failed x⟩
set_option maxRecDepth 100000 in
set_option maxHeartbeats 1000000 in
theorem fail_any {w : World} {R g cap : Nat} {ts : List Lx.Tk} {a bad : Nat} {fl : Bool} (h : Rq w R g cap ts a fl bad) :
    Calls Try.prog 49 #[.pointer (some ⟨R, 0, none⟩)] w fun e w' => (∃ v, e = .returned v) ∧ But R w w' ∧ Rq w' R g cap ts a true (badOf fl bad a) := by
  have c1 := h.c1
  have hR := h.rlt
  have HC : Hid _ := failAt_any h a
  clear h
  go_enter Try.func49, Try.ntmps49
  go_wp2_with fail
  refine Calls.mono HC.out ?_
  rintro e w1 ⟨⟨v, rfl⟩, hb, hq⟩
  have H1 : Hid _ := hb
  have H2 : Hid _ := hq
  clear hb hq
  go_wp2_with fail
  refine bodyPost_end (v := .tuple #[]) (by simp [results, Try.results49, go_sem]) rfl ?_
  exact ⟨⟨_, rfl⟩, H1.out, H2.out⟩
/-- What kind a token is, by its text. -/
def kindOf : List UInt8 → Nat
  | [] => 4
  | c :: _ => if Lx.lower c then 1 else if Lx.digit c then 2 else 3
set_option maxRecDepth 100000 in
set_option maxHeartbeats 1000000 in
theorem rsign_any {w : World} {R g cap : Nat} {ts : List Lx.Tk} {a bad : Nat} {fl : Bool} (h : Rq w R g cap ts a fl bad) (ha : a < ts.length) (x : ByteArray) :
    Calls Try.prog 61 #[.pointer (some ⟨R, 0, none⟩), .string x] w fun e w' => e = .returned (.bool (!fl && Px.isSg x.data.toList (Px.hd (left ts a)))) ∧ Kept w w' := by
  have c0 := h.c0
  have c1 := h.c1
  have c2 := h.c2
  have hR := h.rlt
  have hg := h.lt
  have hf := h.few
  rw [hd_in ts a ha]
  obtain ⟨t0, t1, -, -⟩ := h.tok a ha
  have hai : (a : Int) < (ts.length : Int) := by omega
  generalize ts[a].kind = kd at *
  generalize ts[a].text = tx at *
  generalize ts[a].n = nn at *
  generalize ts.length = N at *
  clear h
  cases fl with
  | true =>
    go_enter Try.func61, Try.ntmps61
    go_wp2_with fail
    go_quiet (fail)
    go_wp2_with fail
    go_ret
    exact ⟨rfl, (Kept.refl _).drN _⟩
  | false =>
    by_cases h3 : kd = 3
    · subst h3
      have HQ : Hid (((Px.ba tx).toList == x.toList) = (!false && Px.isSg x.data.toList (3, tx, nn))) := by
        show _ = _
        rw [show (Px.ba tx).toList = (⟨tx.toArray⟩ : ByteArray).toList from rfl, eq_text]; simp [Px.isSg]
      generalize (!false && Px.isSg x.data.toList (3, tx, nn)) = rb at *
      generalize Px.ba tx = TX at *
      have hq := HQ.out
      cases rb with
      | true =>
        go_enter Try.func61, Try.ntmps61
        go_wp2_with fail
        go_quiet (fail)
        go_wp2_with fail
        go_ret
        exact ⟨rfl, (Kept.refl _).drN _⟩
      | false =>
        go_enter Try.func61, Try.ntmps61
        go_wp2_with fail
        go_quiet (fail)
        go_wp2_with fail
        go_ret
        exact ⟨rfl, (Kept.refl _).drN _⟩
    · have h3' : ((kd : Int) == 3) = false := ne_int (by omega)
      have HF : Hid ((!false && Px.isSg x.data.toList (kd, tx, nn)) = false) := by show _ = _; simp [Px.isSg, h3]
      rw [HF.out]
      go_enter Try.func61, Try.ntmps61
      go_wp2_with fail
      go_quiet (fail)
      go_wp2_with fail
      go_ret
      exact ⟨rfl, (Kept.refl _).drN _⟩
/-- Is the token that word? -/
def isWd (x : List UInt8) (t : Lx.Core) : Bool := (t.1 == 1) && (t.2.1 == x)
set_option maxRecDepth 100000 in
set_option maxHeartbeats 1000000 in
theorem rword_any {w : World} {R g cap : Nat} {ts : List Lx.Tk} {a bad : Nat} {fl : Bool} (h : Rq w R g cap ts a fl bad) (ha : a < ts.length) (x : ByteArray) :
    Calls Try.prog 53 #[.pointer (some ⟨R, 0, none⟩), .string x] w fun e w' => e = .returned (.bool (!fl && isWd x.data.toList (Px.hd (left ts a)))) ∧ Kept w w' := by
  have c0 := h.c0
  have c1 := h.c1
  have c2 := h.c2
  have hR := h.rlt
  have hg := h.lt
  have hf := h.few
  rw [hd_in ts a ha]
  obtain ⟨t0, t1, -, -⟩ := h.tok a ha
  have hai : (a : Int) < (ts.length : Int) := by omega
  generalize ts[a].kind = kd at *
  generalize ts[a].text = tx at *
  generalize ts[a].n = nn at *
  generalize ts.length = N at *
  clear h
  cases fl with
  | true =>
    go_enter Try.func53, Try.ntmps53
    go_wp2_with fail
    go_quiet (fail)
    go_wp2_with fail
    go_ret
    exact ⟨rfl, (Kept.refl _).drN _⟩
  | false =>
    by_cases h3 : kd = 1
    · subst h3
      have HQ : Hid (((Px.ba tx).toList == x.toList) = (!false && isWd x.data.toList (1, tx, nn))) := by
        show _ = _
        rw [show (Px.ba tx).toList = (⟨tx.toArray⟩ : ByteArray).toList from rfl, eq_text]; simp [isWd]
      generalize (!false && isWd x.data.toList (1, tx, nn)) = rb at *
      generalize Px.ba tx = TX at *
      have hq := HQ.out
      cases rb with
      | true =>
        go_enter Try.func53, Try.ntmps53
        go_wp2_with fail
        go_quiet (fail)
        go_wp2_with fail
        go_ret
        exact ⟨rfl, (Kept.refl _).drN _⟩
      | false =>
        go_enter Try.func53, Try.ntmps53
        go_wp2_with fail
        go_quiet (fail)
        go_wp2_with fail
        go_ret
        exact ⟨rfl, (Kept.refl _).drN _⟩
    · have h3' : ((kd : Int) == 1) = false := ne_int (by omega)
      have HF : Hid ((!false && isWd x.data.toList (kd, tx, nn)) = false) := by show _ = _; simp [isWd, h3]
      rw [HF.out]
      go_enter Try.func53, Try.ntmps53
      go_wp2_with fail
      go_quiet (fail)
      go_wp2_with fail
      go_ret
      exact ⟨rfl, (Kept.refl _).drN _⟩
/-- What a step leaves: the next token, or that it failed here. -/
def Rz (w' : World) (R g cap : Nat) (ts : List Lx.Tk) (a bad : Nat) (fl ok : Bool) : Prop := Rq w' R g cap ts (if ok = true then a + 1 else a) (fl || !ok) (if fl = true ∨ ok = true then bad else a)
set_option maxRecDepth 100000 in
set_option maxHeartbeats 1000000 in
theorem rmust_any {w : World} {R g cap : Nat} {ts : List Lx.Tk} {a bad : Nat} {fl : Bool} (h : Rq w R g cap ts a fl bad) (ha : a < ts.length) (x : ByteArray) (ok : Bool) (hok : (!fl && Px.isSg x.data.toList (Px.hd (left ts a))) = ok) :
    Calls Try.prog 60 #[.pointer (some ⟨R, 0, none⟩), .string x] w fun e w' => (∃ v, e = .returned v) ∧ But R w w' ∧ Rz w' R g cap ts a bad fl ok := by
  have HS : Hid _ := rsign_any h ha x
  rw [hok] at HS
  have hR := h.rlt
  have HF : Hid (∀ W, Kept w W → Calls Try.prog 49 #[.pointer (some ⟨R, 0, none⟩)] W fun e w' => (∃ v, e = .returned v) ∧ But R W w' ∧ Rq w' R g cap ts a true (badOf fl bad a)) := fun W hW => fail_any (h.kept hW)
  have HH : Hid (Rq w R g cap ts a fl bad) := h
  have hf := h.few
  have hwr : IntKind.i64.wrap ((a : Int) + 1) = (a : Int) + 1 := by rw [IntKind.wrap_i64]; omega
  clear h
  cases ok with
  | false =>
    clear hok
    go_enter Try.func60, Try.ntmps60
    go_wp2_with fail
    refine Calls.mono HS.out ?_
    rintro e w1 ⟨rfl, k1⟩
    have K1 : Hid (Kept w w1) := k1
    clear k1
    go_wp2_with fail
    refine (HF.out _ K1.out).mono ?_
    rintro e w2 ⟨⟨v, rfl⟩, hb, hq⟩
    have H1 : Hid (But R w w2) := (But.of K1.out).then hb
    have H2 : Hid _ := hq
    clear hb hq
    go_wp2_with fail
    refine bodyPost_ret (v := .tuple #[]) (by simp [results, Try.results60, go_sem]) rfl ?_
    refine ⟨⟨_, rfl⟩, H1.out, ?_⟩
    have h2 := H2.out
    unfold Rz
    cases fl <;> exact h2
  | true =>
    have hfl : fl = false := by cases fl <;> simp at hok ⊢
    subst hfl
    clear hok
    go_enter Try.func60, Try.ntmps60
    go_wp2_with fail
    refine Calls.mono HS.out ?_
    rintro e w1 ⟨rfl, k1⟩
    have h1 := HH.out.kept k1
    have H1 : Hid _ := h1
    have K1 : Hid (Kept w w1) := k1
    have c1 := h1.c1
    have z1 := h1.z 1
    have hR1 := h1.rlt
    clear k1 h1
    go_wp2_with fail
    refine bodyPost_end (v := .tuple #[]) (by simp [results, Try.results60, go_sem]) rfl ?_
    exact ⟨⟨_, rfl⟩, (But.of K1.out).set _ _, H1.out.at' (a + 1) (by omega)⟩
/-- Is the token a name? -/
def isNmT (t : Lx.Core) : Bool := (t.1 == 1) && Px.isNm t.2.1
/-- Is the token a number of at most so much? -/
def isNo (most : Nat) (t : Lx.Core) : Bool := (t.1 == 2) && decide (t.2.2 ≤ most)
theorem isNm_kw (t : List UInt8) : Px.isNm t = (Lx.isWord t && !kw (Px.ba t)) := by
  have h1 : (Px.ba t).toList = t := by rw [toList_data]; rfl
  have h2 : kws = Px.kws := by decide +kernel
  unfold Px.isNm kw
  rw [h1, h2]
set_option maxRecDepth 100000 in
set_option maxHeartbeats 2000000 in
theorem rname_any {w : World} {R g cap : Nat} {ts : List Lx.Tk} {a bad : Nat} {fl : Bool} (h : Rq w R g cap ts a fl bad) (ha : a < ts.length) (hfit : ts[a].kind = 1 → Lx.isWord ts[a].text = true) (ok : Bool) (hok : (!fl && isNmT (Px.hd (left ts a))) = ok) :
    Calls Try.prog 51 #[.pointer (some ⟨R, 0, none⟩)] w fun e w' => (∃ v, e = .returned (.string v) ∧ (ok = true → v = Px.ba (Px.hd (left ts a)).2.1)) ∧ But R w w' ∧ Rz w' R g cap ts a bad fl ok := by
  have c0 := h.c0
  have c1 := h.c1
  have c2 := h.c2
  have hR := h.rlt
  have hg := h.lt
  have hf := h.few
  have HF : Hid (∀ W, Kept w W → Calls Try.prog 49 #[.pointer (some ⟨R, 0, none⟩)] W fun e w' => (∃ v, e = .returned v) ∧ But R W w' ∧ Rq w' R g cap ts a true (badOf fl bad a)) := fun W hW => fail_any (h.kept hW)
  have HH : Hid (Rq w R g cap ts a fl bad) := h
  have hwr : IntKind.i64.wrap ((a : Int) + 1) = (a : Int) + 1 := by rw [IntKind.wrap_i64]; omega
  rw [hd_in ts a ha] at hok ⊢
  obtain ⟨t0, t1, -, -⟩ := h.tok a ha
  have hai : (a : Int) < (ts.length : Int) := by omega
  have HN : Hid (a + 1 ≤ ts.length) := ha
  generalize ts[a].kind = kd at *
  generalize ts[a].text = tx at *
  generalize ts[a].n = nn at *
  have hN : ts.length ≤ 6001 := hf
  generalize hNN : ts.length = N at *
  have HNN : Hid (ts.length = N) := hNN
  clear h hNN
  cases fl with
  | true =>
    obtain rfl : ok = false := by simpa using hok.symm
    clear hok
    go_enter Try.func51, Try.ntmps51
    go_wp2_with fail
    go_quiet (fail)
    go_wp2_with fail
    refine (HF.out _ ((Kept.refl _).drN _)).mono ?_
    rintro e w2 ⟨⟨v, rfl⟩, hb, hq⟩
    have H1 : Hid (But R w w2) := (But.of ((Kept.refl _).drN _)).then hb
    have H2 : Hid _ := hq
    clear hb hq
    go_wp2_with fail
    go_ret
    exact ⟨⟨_, rfl, fun h => by cases h⟩, H1.out, H2.out⟩
  | false =>
    by_cases h1 : kd = 1
    · subst h1
      have hw := hfit rfl
      cases hkw : kw (Px.ba tx) with
      | true =>
        have HKW : Hid (∀ W, Calls Try.prog 59 #[.string (Px.ba tx)] W fun e w' => e = .returned (.bool true) ∧ w' = W) := fun W => refKeyword_any _ _ hkw W
        obtain rfl : ok = false := by rw [← hok]; simp [isNmT, isNm_kw, hkw]
        clear hok hw hkw hfit
        generalize Px.ba tx = TX at *
        go_enter Try.func51, Try.ntmps51
        go_wp2_with fail
        go_quiet ((go_at_call 59; exact Calls.quiet_of_same (HKW.out _)))
        go_wp2_with fail
        refine (HF.out _ ((Kept.refl _).drN _)).mono ?_
        rintro e w2 ⟨⟨v, rfl⟩, hb, hq⟩
        have H1 : Hid (But R w w2) := (But.of ((Kept.refl _).drN _)).then hb
        have H2 : Hid _ := hq
        clear hb hq
        go_wp2_with fail
        go_ret
        exact ⟨⟨_, rfl, fun h => by cases h⟩, H1.out, H2.out⟩
      | false =>
        have HKW : Hid (∀ W, Calls Try.prog 59 #[.string (Px.ba tx)] W fun e w' => e = .returned (.bool false) ∧ w' = W) := fun W => refKeyword_any _ _ hkw W
        obtain rfl : ok = true := by rw [← hok]; simp [isNmT, isNm_kw, hkw, hw]
        clear hok hw hkw hfit
        obtain ⟨TX, hTX⟩ : ∃ TX, Px.ba tx = TX := ⟨_, rfl⟩
        have HTX : Hid (TX = Px.ba tx) := hTX.symm
        rw [hTX] at t1 HKW
        clear hTX
        have hwr2 : IntKind.i64.wrap ((a : Int) + 1 - 1) = (a : Int) := by rw [IntKind.wrap_i64]; omega
        have z1 := HH.out.z 1
        go_enter Try.func51, Try.ntmps51
        go_wp2_with fail
        go_quiet ((go_at_call 59; exact Calls.quiet_of_same (HKW.out _)))
        go_wp2_with fail
        have hq2 := (HH.out.kept ((Kept.refl w).drN nq)).at' (a + 1) (by rw [HNN.out]; exact HN.out)
        have hbt : But R w ((w.drewN nq).setCell ⟨R, 1, none⟩ (.int .i64 ((a : Int) + 1))) := (But.of ((Kept.refl w).drN nq)).set _ _
        rw [show ((a + 1 : Nat) : Int) = (a : Int) + 1 by omega] at hq2
        have e0 : ((w.drewN nq).setCell ⟨R, 1, none⟩ (.int .i64 ((a : Int) + 1))).cell? ⟨R, 0, none⟩ = some (.slice (some ⟨g, 0, none⟩) N cap) := (World.cell?_setCell_other _ _ _ _ (addr_ne' (by decide))).trans (((Kept.refl w).drN nq).cellS c0)
        have e1 : ((w.drewN nq).setCell ⟨R, 1, none⟩ (.int .i64 ((a : Int) + 1))).cell? ⟨R, 1, none⟩ = some (.int .i64 ((a : Int) + 1)) := World.cell?_setCell_same _ _ _ (((Kept.refl w).drN nq).cellS c1)
        have e2 : ((w.drewN nq).setCell ⟨R, 1, none⟩ (.int .i64 ((a : Int) + 1))).cell? ⟨g, a * 4 + 1, none⟩ = some (.string TX) := (World.cell?_setCell_other _ _ _ _ (addr_nb (Ne.symm HH.out.ne))).trans (((Kept.refl w).drN nq).cellS t1)
        have HQ2 : Hid (Rq ((w.drewN nq).setCell ⟨R, 1, none⟩ (.int .i64 ((a : Int) + 1))) R g cap ts (a + 1) false bad ∧ But R w ((w.drewN nq).setCell ⟨R, 1, none⟩ (.int .i64 ((a : Int) + 1)))) := ⟨hq2, hbt⟩
        have hR2 : R < ((w.drewN nq).setCell ⟨R, 1, none⟩ (.int .i64 ((a : Int) + 1))).heap.size := hq2.rlt
        have hg2 : g < ((w.drewN nq).setCell ⟨R, 1, none⟩ (.int .i64 ((a : Int) + 1))).heap.size := hq2.lt
        generalize (w.drewN nq).setCell ⟨R, 1, none⟩ (.int .i64 ((a : Int) + 1)) = W2 at *
        clear hq2 hbt c0 c1 c2 t0 t1 HF HH z1 hR hg
        go_quiet (fail)
        go_wp2_with fail
        go_ret
        exact ⟨⟨_, rfl, fun _ => HTX.out⟩, HQ2.out.2.then (But.of ((Kept.refl _).drN _)), HQ2.out.1.kept ((Kept.refl _).drN _)⟩
    · have h1' : ((kd : Int) != 1) = true := by simp; omega
      obtain rfl : ok = false := by rw [← hok]; simp [isNmT, h1]
      clear hok h1
      go_enter Try.func51, Try.ntmps51
      go_wp2_with fail
      go_quiet (fail)
      go_wp2_with fail
      refine (HF.out _ ((Kept.refl _).drN _)).mono ?_
      rintro e w2 ⟨⟨v, rfl⟩, hb, hq⟩
      have H1 : Hid (But R w w2) := (But.of ((Kept.refl _).drN _)).then hb
      have H2 : Hid _ := hq
      clear hb hq
      go_wp2_with fail
      go_ret
      exact ⟨⟨_, rfl, fun h => by cases h⟩, H1.out, H2.out⟩
set_option maxRecDepth 100000 in
set_option maxHeartbeats 2000000 in
theorem rnumber_any {w : World} {R g cap : Nat} {ts : List Lx.Tk} {a bad : Nat} {fl : Bool} (h : Rq w R g cap ts a fl bad) (ha : a < ts.length) (most : Nat) (ok : Bool) (hok : (!fl && isNo most (Px.hd (left ts a))) = ok) :
    Calls Try.prog 52 #[.pointer (some ⟨R, 0, none⟩), .int .i64 (most : Int)] w fun e w' => (∃ n : Nat, e = .returned (.int .i64 (n : Int)) ∧ (ok = true → n = (Px.hd (left ts a)).2.2)) ∧ But R w w' ∧ Rz w' R g cap ts a bad fl ok := by
  have c0 := h.c0
  have c1 := h.c1
  have c2 := h.c2
  have hR := h.rlt
  have hg := h.lt
  have hf := h.few
  have HF : Hid (∀ W, Kept w W → Calls Try.prog 49 #[.pointer (some ⟨R, 0, none⟩)] W fun e w' => (∃ v, e = .returned v) ∧ But R W w' ∧ Rq w' R g cap ts a true (badOf fl bad a)) := fun W hW => fail_any (h.kept hW)
  have HH : Hid (Rq w R g cap ts a fl bad) := h
  have hwr : IntKind.i64.wrap ((a : Int) + 1) = (a : Int) + 1 := by rw [IntKind.wrap_i64]; omega
  rw [hd_in ts a ha] at hok ⊢
  obtain ⟨t0, -, t2, -⟩ := h.tok a ha
  have hai : (a : Int) < (ts.length : Int) := by omega
  have HN : Hid (a + 1 ≤ ts.length) := ha
  generalize ts[a].kind = kd at *
  generalize ts[a].text = tx at *
  generalize ts[a].n = nn at *
  have hN : ts.length ≤ 6001 := hf
  generalize hNN : ts.length = N at *
  have HNN : Hid (ts.length = N) := hNN
  clear h hNN
  cases fl with
  | true =>
    obtain rfl : ok = false := by simpa using hok.symm
    clear hok
    go_enter Try.func52, Try.ntmps52
    go_wp2_with fail
    go_quiet (fail)
    go_wp2_with fail
    refine (HF.out _ ((Kept.refl _).drN _)).mono ?_
    rintro e w2 ⟨⟨v, rfl⟩, hb, hq⟩
    have H1 : Hid (But R w w2) := (But.of ((Kept.refl _).drN _)).then hb
    have H2 : Hid _ := hq
    clear hb hq
    go_wp2_with fail
    go_ret
    exact ⟨⟨0, rfl, fun h => by cases h⟩, H1.out, H2.out⟩
  | false =>
    by_cases h1 : kd = 2
    · subst h1
      by_cases hm : nn ≤ most
      · have hm' : ¬ (most : Int) < (nn : Int) := by omega
        have hmb : decide ((most : Int) < (nn : Int)) = false := decide_eq_false hm'
        obtain rfl : ok = true := by rw [← hok]; simp [isNo, hm]
        clear hok hm
        have hwr2 : IntKind.i64.wrap ((a : Int) + 1 - 1) = (a : Int) := by rw [IntKind.wrap_i64]; omega
        have z1 := HH.out.z 1
        go_enter Try.func52, Try.ntmps52
        go_wp2_with fail
        go_quiet (fail)
        go_wp2_with fail
        have hq2 := (HH.out.kept ((Kept.refl w).drN nq)).at' (a + 1) (by rw [HNN.out]; exact HN.out)
        have hbt : But R w ((w.drewN nq).setCell ⟨R, 1, none⟩ (.int .i64 ((a : Int) + 1))) := (But.of ((Kept.refl w).drN nq)).set _ _
        rw [show ((a + 1 : Nat) : Int) = (a : Int) + 1 by omega] at hq2
        have e0 : ((w.drewN nq).setCell ⟨R, 1, none⟩ (.int .i64 ((a : Int) + 1))).cell? ⟨R, 0, none⟩ = some (.slice (some ⟨g, 0, none⟩) N cap) := (World.cell?_setCell_other _ _ _ _ (addr_ne' (by decide))).trans (((Kept.refl w).drN nq).cellS c0)
        have e1 : ((w.drewN nq).setCell ⟨R, 1, none⟩ (.int .i64 ((a : Int) + 1))).cell? ⟨R, 1, none⟩ = some (.int .i64 ((a : Int) + 1)) := World.cell?_setCell_same _ _ _ (((Kept.refl w).drN nq).cellS c1)
        have e2 : ((w.drewN nq).setCell ⟨R, 1, none⟩ (.int .i64 ((a : Int) + 1))).cell? ⟨g, a * 4 + 2, none⟩ = some (.int .i64 (nn : Int)) := (World.cell?_setCell_other _ _ _ _ (addr_nb (Ne.symm HH.out.ne))).trans (((Kept.refl w).drN nq).cellS t2)
        have HQ2 : Hid (Rq ((w.drewN nq).setCell ⟨R, 1, none⟩ (.int .i64 ((a : Int) + 1))) R g cap ts (a + 1) false bad ∧ But R w ((w.drewN nq).setCell ⟨R, 1, none⟩ (.int .i64 ((a : Int) + 1)))) := ⟨hq2, hbt⟩
        have hR2 : R < ((w.drewN nq).setCell ⟨R, 1, none⟩ (.int .i64 ((a : Int) + 1))).heap.size := hq2.rlt
        have hg2 : g < ((w.drewN nq).setCell ⟨R, 1, none⟩ (.int .i64 ((a : Int) + 1))).heap.size := hq2.lt
        generalize (w.drewN nq).setCell ⟨R, 1, none⟩ (.int .i64 ((a : Int) + 1)) = W2 at *
        clear hq2 hbt c0 c1 c2 t0 t2 HF HH z1 hR hg
        go_quiet (fail)
        go_wp2_with fail
        go_ret
        exact ⟨⟨nn, rfl, fun _ => rfl⟩, HQ2.out.2.then (But.of ((Kept.refl _).drN _)), HQ2.out.1.kept ((Kept.refl _).drN _)⟩
      · have hm' : (most : Int) < (nn : Int) := by omega
        have hmb : decide ((most : Int) < (nn : Int)) = true := decide_eq_true hm'
        obtain rfl : ok = false := by rw [← hok]; simp [isNo]; omega
        clear hok hm
        go_enter Try.func52, Try.ntmps52
        go_wp2_with fail
        go_quiet (fail)
        go_wp2_with fail
        refine (HF.out _ ((Kept.refl _).drN _)).mono ?_
        rintro e w2 ⟨⟨v, rfl⟩, hb, hq⟩
        have H1 : Hid (But R w w2) := (But.of ((Kept.refl _).drN _)).then hb
        have H2 : Hid _ := hq
        clear hb hq
        go_wp2_with fail
        go_ret
        exact ⟨⟨0, rfl, fun h => by cases h⟩, H1.out, H2.out⟩
    · have h1' : ((kd : Int) != 2) = true := by simp; omega
      obtain rfl : ok = false := by rw [← hok]; simp [isNo, h1]
      clear hok h1
      go_enter Try.func52, Try.ntmps52
      go_wp2_with fail
      go_quiet (fail)
      go_wp2_with fail
      refine (HF.out _ ((Kept.refl _).drN _)).mono ?_
      rintro e w2 ⟨⟨v, rfl⟩, hb, hq⟩
      have H1 : Hid (But R w w2) := (But.of ((Kept.refl _).drN _)).then hb
      have H2 : Hid _ := hq
      clear hb hq
      go_wp2_with fail
      go_ret
      exact ⟨⟨0, rfl, fun h => by cases h⟩, H1.out, H2.out⟩
end Go.Proofs.Ytnfkjmafhaecgaa
