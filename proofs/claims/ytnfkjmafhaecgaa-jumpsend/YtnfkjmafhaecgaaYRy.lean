/- Ry -/
import Derived.Test.YtnfkjmafhaecgaaYRv
import Derived.Deep.RegionHeld3

namespace Go.Proofs.Ytnfkjmafhaecgaa
open Go.RowKit
attribute [local go_sem] run_store_complex
namespace Px
theorem op_three (t : Lx.Core) : opAt 3 t = if isSg [42] t then some 6 else if isSg [47] t then some 7 else if isSg [37] t then some 8 else none := by
  unfold opAt isSg
  by_cases h : t.1 = 3
  · rw [if_pos h]
    have h' : (t.1 == 3) = true := by rw [h]; rfl
    rw [h']
    simp only [Bool.true_and, List.find?, rnk, sgn]
    cases h1 : (t.2.1 == [42]) <;> cases h2 : (t.2.1 == [47]) <;> cases h3 : (t.2.1 == [37]) <;> simp [h1, h2, h3]
  · rw [if_neg h]
    have h' : (t.1 == 3) = false := by simpa using h
    simp [h']
theorem op_two (t : Lx.Core) : opAt 2 t = if isSg [43] t then some 4 else if isSg [45] t then some 5 else none := by
  unfold opAt isSg
  by_cases h : t.1 = 3
  · rw [if_pos h]
    have h' : (t.1 == 3) = true := by rw [h]; rfl
    rw [h']
    simp only [Bool.true_and, List.find?, rnk, sgn]
    cases h1 : (t.2.1 == [43]) <;> cases h2 : (t.2.1 == [45]) <;> simp [h1, h2]
  · rw [if_neg h]
    have h' : (t.1 == 3) = false := by simpa using h
    simp [h']
theorem op_one (t : Lx.Core) : opAt 1 t = if isSg [60] t then some 9 else if isSg [61, 61] t then some 10 else none := by
  unfold opAt isSg
  by_cases h : t.1 = 3
  · rw [if_pos h]
    have h' : (t.1 == 3) = true := by rw [h]; rfl
    rw [h']
    simp only [Bool.true_and, List.find?, rnk, sgn]
    cases h1 : (t.2.1 == [60]) <;> cases h2 : (t.2.1 == [61, 61]) <;> simp [h1, h2]
  · rw [if_neg h]
    have h' : (t.1 == 3) = false := by simpa using h
    simp [h']
theorem isSg_kind {x : List UInt8} {t : Lx.Core} (h : isSg x t = true) : t.1 = 3 := by
  unfold isSg at h
  simp at h
  exact h.1
end Px
/-- What holds ahead of each round. -/
structure RJ (of : Nat) (part : Px.P) (R g cap : Nat) (ts : List Lx.Tk) (bad : Nat) (w W0 : World) (B : Nat) (o : Option Ex) (m : List Lx.Core) (wr : World) : Prop where
  out : ∃ (k n : Int) (s : ByteArray) (a : Option Addr) (l q b b0 : Nat) (fl : Bool), Bx wr B k n s (.slice a l q) ∧ But R W0 wr ∧ Rq wr R g cap ts b fl b0 ∧ b < ts.length ∧
    (fl = false → b0 = bad ∧ Pp.Alive (left ts b) ∧ ∃ E : Ex, k = E.kind ∧ n = E.n ∧ s = E.name ∧ ExsD wr (Dn w wr B) E.of (.slice a l q) ∧ ∃ f, ts.length - b ≤ f ∧ Px.more of part f E (left ts b) = (o, m)) ∧
    (fl = true → o = none ∧ b0 = ts.length - m.length)
def failOf (w : World) (R : Nat) : Nat := match w.cell? ⟨R, 2, none⟩ with
  | some (.bool true) => 0
  | _ => 1
def measOf (w : World) (R : Nat) : Nat := failOf w R * (6002 - atOf w R)
theorem Rq.meas {w : World} {R g cap : Nat} {ts : List Lx.Tk} {a bad : Nat} {fl : Bool} (h : Rq w R g cap ts a fl bad) : measOf w R = if fl = true then 0 else 6002 - a := by
  unfold measOf failOf Proofs.Ytnfkjmafhaecgaa.atOf
  rw [h.c1, h.c2]
  cases fl <;> simp
/-- What a round leaves. -/
theorem rj_next {of : Nat} {part : Px.P} {R g cap : Nat} {ts : List Lx.Tk} {bad : Nat} {w W0 : World} {B : Nat} {o : Option Ex} {m : List Lx.Core} {wr W3 w4 w5 : World} {k b f : Nat} {o2 : Option Ex} {m2 : List Lx.Core} {E : Ex} {k4 n4 : Int} {s4 : ByteArray} {a' a4 : Option Addr} {l q l4 q4 Bn : Nat}
    (hRw : R < w.heap.size) (hgw : g < w.heap.size) (hwB : w.heap.size < B) (hBr : B < wr.heap.size) (hW0 : W0.heap.size ≤ B)
    (hE : Bx wr B E.kind E.n E.name (.slice a' l q)) (hT : ExsD wr (Dn w wr B) E.of (.slice a' l q)) (hB0 : But R W0 wr)
    (hop : Px.opAt of (Px.hd (left ts b)) = some k) (hf : ts.length - b ≤ f) (hm : Px.more of part f E (left ts b) = (o, m)) (hb : b < ts.length) (hlen : ts.length ≤ 6001)
    (hs : Px.Suf part) (hal : ∀ l, Pp.Alive l → Pp.Alive (part l).2) (halb : Pp.Alive (left ts (b + 1))) (hp2 : part (left ts (b + 1)) = (o2, m2)) (hW3 : But R wr W3)
    (h4 : But R W3 w4 ∧ (∀ x, o2 = some x → k4 = x.kind ∧ n4 = x.n ∧ s4 = x.name ∧ ExsIn w4 W3.heap.size w4.heap.size x.of (.slice a4 l4 q4) ∧ Rq w4 R g cap ts (ts.length - m2.length) false bad) ∧ (o2 = none → ∃ a', a' < ts.length ∧ Rq w4 R g cap ts a' true (ts.length - m2.length)))
    (h5 : Kept w4 w5 ∧ w4.heap.size ≤ Bn ∧ Bn < w5.heap.size ∧ w5.heap[Bn]? = some (.cells #[.int .i64 E.kind, .int .i64 E.n, .string E.name, .slice a' l q, .int .i64 k4, .int .i64 n4, .string s4, .slice a4 l4 q4] 44 (0, 0))) :
    RJ of part R g cap ts bad w W0 B o m (w5.setCells B 0 [.int .i64 (k : Int), .int .i64 0, .string ⟨#[]⟩, .slice (some ⟨Bn, 0, none⟩) 2 2]) ∧ measOf (w5.setCells B 0 [.int .i64 (k : Int), .int .i64 0, .string ⟨#[]⟩, .slice (some ⟨Bn, 0, none⟩) 2 2]) R < 6002 - b := by
  have hB5 : But R wr w5 := (hW3.then h4.1).then (But.of h5.1)
  have hBR : B ≠ R := by omega
  have hBg : B ≠ g := by omega
  have z3 := hW3.size
  have z4 := h4.1.size
  have z5 := h5.1.size
  have hbx := (hE.but hB5 hBR).set (k : Int) 0 ⟨#[]⟩ (.slice (some ⟨Bn, 0, none⟩) 2 2)
  have hbt : But R W0 (w5.setCells B 0 [.int .i64 (k : Int), .int .i64 0, .string ⟨#[]⟩, .slice (some ⟨Bn, 0, none⟩) 2 2]) := (hB0.then hB5).sets hW0 _ _
  have hsz := size_setCells B [.int .i64 (k : Int), .int .i64 0, .string ⟨#[]⟩, .slice (some ⟨Bn, 0, none⟩) 2 2] 0 w5
  have hof : ∀ j, j ≠ B → (w5.setCells B 0 [.int .i64 (k : Int), .int .i64 0, .string ⟨#[]⟩, .slice (some ⟨Bn, 0, none⟩) 2 2]).heap[j]? = w5.heap[j]? := fun j hj => heap_setCells _ _ _ _ j hj
  have up : ∀ a fl b, Rq w4 R g cap ts a fl b → Rq (w5.setCells B 0 [.int .i64 (k : Int), .int .i64 0, .string ⟨#[]⟩, .slice (some ⟨Bn, 0, none⟩) 2 2]) R g cap ts a fl b := fun a fl b h => (h.kept h5.1).sets hBR hBg _ _
  obtain ⟨f', rfl⟩ : ∃ f', f = f' + 1 := ⟨f - 1, by omega⟩
  rw [Px.more, hop] at hm
  simp only [left_tail, hp2] at hm
  cases o2 with
  | none =>
    simp only [Prod.mk.injEq] at hm
    obtain ⟨rfl, rfl⟩ := hm
    obtain ⟨a'', ha'', hq⟩ := h4.2.2 rfl
    have hq' := up _ _ _ hq
    refine ⟨⟨(k : Int), 0, ⟨#[]⟩, some ⟨Bn, 0, none⟩, 2, 2, a'', ts.length - m2.length, true, hbx, hbt, hq', ha'', fun h => (by cases h), fun _ => ⟨rfl, rfl⟩⟩, ?_⟩
    rw [hq'.meas, if_pos rfl]; omega
  | some y =>
    obtain ⟨rfl, rfl, rfl, hT2, hq⟩ := h4.2.1 y rfl
    have hq' := up _ _ _ hq
    have hsuf : m2 <:+ left ts (b + 1) := by have := hs (left ts (b + 1)); rw [hp2] at this; exact this
    have hl1 := suf_len hsuf
    have hl2 := suf_left hsuf
    have hal2 : Pp.Alive m2 := by have := hal _ halb; rwa [hp2] at this
    have hlt : ts.length - m2.length < ts.length := alive_lt (by rw [hl2]; exact hal2)
    refine ⟨⟨(k : Int), 0, ⟨#[]⟩, some ⟨Bn, 0, none⟩, 2, 2, ts.length - m2.length, bad, false, hbx, hbt, hq', hlt, fun _ => ⟨rfl, by rw [hl2]; exact hal2, Px.binE k E y, rfl, rfl, rfl, ?_, f', by omega, by rw [hl2]; exact hm⟩, fun h => (by cases h)⟩, ?_⟩
    · refine ExsD.two (v := .slice a' l q) (u := .slice a4 l4 q4) ⟨by omega, by omega, by omega⟩ ?_ ?_ ?_
      · rw [hof Bn (by omega)]; exact h5.2.2.2
      · exact (hT.stays fun j hj => (hof j hj.2.2).trans (hB5.block j hj.2.1 (by have := hj.1; omega))).mono fun j hj => ⟨hj.1, by have := hj.2.1; omega, hj.2.2⟩
      · exact (hT2.stays fun j hj => (hof j (by have := hj.1; omega)).trans (h5.1.block j hj.2)).mono fun j hj => ⟨by have := hj.1; omega, by have := hj.2; omega, by have := hj.1; omega⟩
    · rw [hq'.meas]
      simp only [Bool.false_eq_true, if_false]
      omega
set_option maxRecDepth 100000 in
set_option maxHeartbeats 4000000 in
theorem rterm_row (deep : Int) (f : Px.P) (hs : Px.Suf f) (hal : ∀ l, Pp.Alive l → Pp.Alive (f l).2) (H : QM 73 deep f) : QM 72 deep (Px.row 3 f) := by
  intro R g cap ts a bad w h hal0 hfit o m hp
  have HR : Hid (Rq w R g cap ts a false bad) := h
  obtain ⟨o1, m1, hp1⟩ : ∃ o1 m1, f (left ts a) = (o1, m1) := ⟨_, _, rfl⟩
  have HP1 : Hid (f (left ts a) = (o1, m1)) := hp1
  unfold Px.row at hp
  rw [hp1] at hp
  have HP : Hid _ := hp
  have HC : Hid (∀ W b bd, Rq W R g cap ts b false bd → Pp.Alive (left ts b) → ∀ o m, f (left ts b) = (o, m) → Calls Try.prog 73 #[.pointer (some ⟨R, 0, none⟩), .int .i64 deep] W fun e w' => Redq R g cap ts bd W o m e w') := fun W b bd hW hA o m hp => H R g cap ts b bd W hW hA hfit o m hp
  have HAL : Hid (Pp.Alive (left ts a)) := hal0
  have HSU : Hid (Px.Suf f ∧ ∀ l, Pp.Alive l → Pp.Alive (f l).2) := ⟨hs, hal⟩
  have hRw := h.rlt
  have HGW : Hid (g < w.heap.size) := h.lt
  have HLN : Hid (ts.length ≤ 6001) := h.few
  clear h hal0 hfit hp hp1 H hs hal
  go_enter Try.func72, Try.ntmps72
  go_wp2_with fail
  refine (HC.out (zw w) a bad (HR.out.kept (zw_kept w)) HAL.out o1 m1 HP1.out).mono ?_
  rintro e w1 ⟨k1, n1, s1, a1, l1, q1, rfl, H1⟩
  have hbz := (zw_bx w).but H1.out.1 (by omega)
  have hw1 : w.heap.size < w1.heap.size := hbz.lt
  have HZW : Hid ((zw w).heap.size = w.heap.size + 1) := zw_size w
  have HS1 : Hid ((zw w).heap.size ≤ w1.heap.size) := H1.out.1.size
  have hne : w.heap.size ≠ R := by omega
  have hne1 : w1.heap.size ≠ R := by omega
  clear hbz
  go_wp2_with fail
  go_loopw [] (fun wr => RJ 3 f R g cap ts bad w (zw w) w1.heap.size o m wr) (fun wr => measOf wr R)
  case atStart =>
    have hP := HP.out
    have hK : Kept w1 (w1.alloc (.cells #[.int .i64 k1, .int .i64 n1, .string s1, .slice a1 l1 q1] 44)) := (Kept.refl _).al _
    cases o1 with
    | none =>
      simp only [Prod.mk.injEq] at hP
      obtain ⟨rfl, rfl⟩ := hP
      obtain ⟨a', ha', hq⟩ := H1.out.2.2 rfl
      exact ⟨⟨k1, n1, s1, a1, l1, q1, a', _, true, Bx.new .., H1.out.1.al _, hq.kept hK, ha', fun h => (by cases h), fun _ => ⟨rfl, rfl⟩⟩⟩
    | some E =>
      obtain ⟨rfl, rfl, rfl, hT, hq⟩ := H1.out.2.1 E rfl
      have hsuf : m1 <:+ left ts a := by have := HSU.out.1 (left ts a); rw [HP1.out] at this; exact this
      have hl2 := suf_left hsuf
      have hal2 : Pp.Alive m1 := by have := HSU.out.2 _ HAL.out; rwa [HP1.out] at this
      have hlt : ts.length - m1.length < ts.length := alive_lt (by rw [hl2]; exact hal2)
      refine ⟨⟨E.kind, E.n, E.name, a1, l1, q1, ts.length - m1.length, bad, false, Bx.new .., H1.out.1.al _, hq.kept hK, hlt, fun _ => ⟨rfl, by rw [hl2]; exact hal2, E, rfl, rfl, rfl, ?_, m1.length, by omega, by rw [hl2]; exact hP⟩, fun h => (by cases h)⟩⟩
      refine (hT.stays (hK.stays (Nat.le_refl _))).mono fun j hj => ⟨by have := hj.1; have := HZW.out; omega, by have := hj.2; have := hK.size; omega, by have := hj.2; omega⟩
  case round =>
    obtain ⟨kE, nE, sE, a', l, q, b, b0, fl, hE, hBut, hq, hb, hrun, hfl⟩ := hrel.out
    have HE : Hid (Bx wr w1.heap.size kE nE sE (.slice a' l q)) := hE
    have HBr : Hid (But R (zw w) wr) := hBut
    have HQ : Hid (Rq wr R g cap ts b fl b0) := hq
    have HBL : Hid (b < ts.length) := hb
    have HRUN : Hid _ := hrun
    have HFL : Hid _ := hfl
    have hzr := (zw_bx w).but hBut hne
    have HZr : Hid (Bx wr w.heap.size 0 0 ⟨#[]⟩ (.slice none 0 0)) := hzr
    have hw0 := hzr.lt
    have hB8 := hE.lt
    have c2 := hq.c2
    have hRr := hq.rlt
    obtain ⟨y0, y1, y2, y3, yf⟩ := hzr
    obtain ⟨x0, x1, x2, x3, xf⟩ := hE
    clear hBut hq hb hrun hfl hrel
    cases fl with
    | true =>
      go_wp2_with fail
      obtain ⟨rfl, rfl⟩ := HFL.out trivial
      exact redq_endK Try.results72 rfl HZr.out (Kept.refl _) ((But.of (zw_kept w)).then HBr.out) hRw HGW.out (fun x hx => by cases hx) (fun _ => ⟨b, HBL.out, HQ.out⟩)
    | false =>
      obtain ⟨rfl, halb, E, rfl, rfl, rfl, hET, f', hf1, hf2⟩ := HRUN.out rfl
      have HRR : Hid (Pp.Alive (left ts b) ∧ ExsD wr (Dn w wr w1.heap.size) E.of (.slice a' l q) ∧ ts.length - b ≤ f' ∧ Px.more 3 f f' E (left ts b) = (o, m)) := ⟨halb, hET, hf1, hf2⟩
      have SG : Hid (∀ W x, Kept wr W → Calls Try.prog 61 #[.pointer (some ⟨R, 0, none⟩), .string x] W fun e w' => e = .returned (.bool (Px.isSg x.data.toList (Px.hd (left ts b)))) ∧ Kept W w') := fun W x hW => rsign_any (HQ.out.kept hW) HBL.out x
      have HOP := Px.op_three (Px.hd (left ts b))
      have S42 : Hid (∀ W, Kept wr W → Calls Try.prog 61 #[.pointer (some ⟨R, 0, none⟩), .string ⟨#[42]⟩] W fun e w' => e = .returned (.bool (Px.isSg [42] (Px.hd (left ts b)))) ∧ Kept W w') := fun W hW => SG.out W ⟨#[42]⟩ hW
      have S47 : Hid (∀ W, Kept wr W → Calls Try.prog 61 #[.pointer (some ⟨R, 0, none⟩), .string ⟨#[47]⟩] W fun e w' => e = .returned (.bool (Px.isSg [47] (Px.hd (left ts b)))) ∧ Kept W w') := fun W hW => SG.out W ⟨#[47]⟩ hW
      have S37 : Hid (∀ W, Kept wr W → Calls Try.prog 61 #[.pointer (some ⟨R, 0, none⟩), .string ⟨#[37]⟩] W fun e w' => e = .returned (.bool (Px.isSg [37] (Px.hd (left ts b)))) ∧ Kept W w') := fun W hW => SG.out W ⟨#[37]⟩ hW
      clear SG halb hET hf1 hf2
      have hfew := HLN.out
      have hbl := HBL.out
      have hwr : IntKind.i64.wrap ((b : Int) + 1) = (b : Int) + 1 := by rw [IntKind.wrap_i64]; omega
      cases hb0 : Px.isSg [42] (Px.hd (left ts b)) with
      | true =>
        have HSI : Hid (Px.isSg [42] (Px.hd (left ts b)) = true) := hb0
        rw [hb0] at S42 HOP
        have HOPN : Hid (Px.opAt 3 (Px.hd (left ts b)) = some 6) := HOP
        clear HOP hb0
        go_wp2_with fail
        refine (S42.out _ (Kept.refl _)).mono ?_
        rintro e v0 ⟨rfl, kk⟩
        have KV0 : Hid (Kept wr v0) := ((Kept.refl _)).then kk
        clear kk
        have hq2 := HQ.out.kept KV0.out
        have c1 := hq2.c1
        have z1 := hq2.z 1
        have hR2 := hq2.rlt
        have HALB : Hid (Pp.Alive (left ts (b + 1))) := by
          have := HRR.out.1.tail (.inl (by rw [Px.isSg_kind HSI.out]; decide))
          rwa [left_tail] at this
        have hq3 := hq2.at' (b + 1) HBL.out
        rw [show ((b + 1 : Nat) : Int) = (b : Int) + 1 by omega] at hq3
        have HQ3 : Hid (Rq (v0.setCell ⟨R, 1, none⟩ (.int .i64 ((b : Int) + 1))) R g cap ts (b + 1) false b0) := hq3
        have HB3 : Hid (But R wr (v0.setCell ⟨R, 1, none⟩ (.int .i64 ((b : Int) + 1)))) := (But.of KV0.out).set _ _
        clear hq2 hq3 y0 y1 y2 y3 yf x0 x1 x2 x3 xf
        go_wp2_with fail
        clear c1 z1
        have hR3 : R < (v0.setCell ⟨R, 1, none⟩ (.int .i64 ((b : Int) + 1))).heap.size := HQ3.out.rlt
        generalize v0.setCell ⟨R, 1, none⟩ (.int .i64 ((b : Int) + 1)) = W3 at *
        obtain ⟨x0, x1, x2, x3, xf⟩ := HE.out.but HB3.out hne1
        have hB3l : w1.heap.size < W3.heap.size := block_lt_of_cell x0
        obtain ⟨o2, m2, hp2⟩ : ∃ o2 m2, f (left ts (b + 1)) = (o2, m2) := ⟨_, _, rfl⟩
        have HP2 : Hid (f (left ts (b + 1)) = (o2, m2)) := hp2
        have HC3 : Hid (∀ W, Kept W3 W → Calls Try.prog 73 #[.pointer (some ⟨R, 0, none⟩), .int .i64 deep] W fun e w' => Redq R g cap ts b0 W o2 m2 e w') := fun W hW => HC.out W (b + 1) b0 (HQ3.out.kept hW) HALB.out o2 m2 hp2
        have SS : Hid (∀ w', But R wr w' → Hid (But R wr w') ∧ w'.cell? ⟨w1.heap.size, 0, none⟩ = some (.int .i64 E.kind) ∧ w'.cell? ⟨w1.heap.size, 1, none⟩ = some (.int .i64 E.n) ∧ w'.cell? ⟨w1.heap.size, 2, none⟩ = some (.string E.name) ∧ w'.cell? ⟨w1.heap.size, 3, none⟩ = some (.slice a' l q)) := fun w' hb => ⟨hb, (HE.out.but hb hne1).c0, (HE.out.but hb hne1).c1, (HE.out.but hb hne1).c2, (HE.out.but hb hne1).c3⟩
        clear hp2
        go_region_with (first
            | (go_at_call 73; refine (HC3.out _ ((Kept.refl _).dr)).mono ?_; rintro e w4 ⟨k4, n4, s4, a4, l4, q4, rfl, H4⟩; have HB4 : Hid (But R wr w4) := (HB3.out.then (But.of (Kept.refl _).dr)).then H4.out.1; obtain ⟨f0, f1, f2, f3, ff⟩ := HE.out.but HB4.out hne1)
            | (go_at_call 71; refine (binary_any _ _ _ _ _ _ _ _ _ _ _ _ _ _).mono ?_; rintro e w5 ⟨Bn, rfl, H5⟩; have HB5 : Hid (But R wr w5) := HB4.out.then (But.of H5.out.1); obtain ⟨g0, g1, g2, g3, gf⟩ := HE.out.but HB5.out hne1; have xl5 := block_lt_of_cell g0))
        all_goals
          obtain ⟨halb, hET, hf1, hf2⟩ := HRR.out
          have hfin := rj_next hRw HGW.out hw1 hB8 HS1.out HE.out hET HBr.out HOPN.out hf1 hf2 HBL.out HLN.out HSU.out.1 HSU.out.2 HALB.out HP2.out (HB3.out.then (But.of (Kept.refl _).dr)) H4.out H5.out
          have HFIN : Hid _ := hfin
          clear hfin halb hET hf1 hf2
          go_wp2_with fail
          go_roundw
          case rel => exact HFIN.out.1
          case measure =>
            have hme := HQ.out.meas
            have := HFIN.out.2
            rw [hme]
            exact this
      | false =>
        rw [hb0] at S42 HOP
        clear hb0
        cases hb1 : Px.isSg [47] (Px.hd (left ts b)) with
        | true =>
          have HSI : Hid (Px.isSg [47] (Px.hd (left ts b)) = true) := hb1
          rw [hb1] at S47 HOP
          have HOPN : Hid (Px.opAt 3 (Px.hd (left ts b)) = some 7) := HOP
          clear HOP hb1
          go_wp2_with fail
          refine (S42.out _ (Kept.refl _)).mono ?_
          rintro e v0 ⟨rfl, kk⟩
          have KV0 : Hid (Kept wr v0) := ((Kept.refl _)).then kk
          clear kk
          go_wp2_with fail
          refine (S47.out _ KV0.out).mono ?_
          rintro e v1 ⟨rfl, kk⟩
          have KV1 : Hid (Kept wr v1) := (KV0.out).then kk
          clear kk
          have hq2 := HQ.out.kept KV1.out
          have c1 := hq2.c1
          have z1 := hq2.z 1
          have hR2 := hq2.rlt
          have HALB : Hid (Pp.Alive (left ts (b + 1))) := by
            have := HRR.out.1.tail (.inl (by rw [Px.isSg_kind HSI.out]; decide))
            rwa [left_tail] at this
          have hq3 := hq2.at' (b + 1) HBL.out
          rw [show ((b + 1 : Nat) : Int) = (b : Int) + 1 by omega] at hq3
          have HQ3 : Hid (Rq (v1.setCell ⟨R, 1, none⟩ (.int .i64 ((b : Int) + 1))) R g cap ts (b + 1) false b0) := hq3
          have HB3 : Hid (But R wr (v1.setCell ⟨R, 1, none⟩ (.int .i64 ((b : Int) + 1)))) := (But.of KV1.out).set _ _
          clear hq2 hq3 y0 y1 y2 y3 yf x0 x1 x2 x3 xf
          go_wp2_with fail
          clear c1 z1
          have hR3 : R < (v1.setCell ⟨R, 1, none⟩ (.int .i64 ((b : Int) + 1))).heap.size := HQ3.out.rlt
          generalize v1.setCell ⟨R, 1, none⟩ (.int .i64 ((b : Int) + 1)) = W3 at *
          obtain ⟨x0, x1, x2, x3, xf⟩ := HE.out.but HB3.out hne1
          have hB3l : w1.heap.size < W3.heap.size := block_lt_of_cell x0
          obtain ⟨o2, m2, hp2⟩ : ∃ o2 m2, f (left ts (b + 1)) = (o2, m2) := ⟨_, _, rfl⟩
          have HP2 : Hid (f (left ts (b + 1)) = (o2, m2)) := hp2
          have HC3 : Hid (∀ W, Kept W3 W → Calls Try.prog 73 #[.pointer (some ⟨R, 0, none⟩), .int .i64 deep] W fun e w' => Redq R g cap ts b0 W o2 m2 e w') := fun W hW => HC.out W (b + 1) b0 (HQ3.out.kept hW) HALB.out o2 m2 hp2
          have SS : Hid (∀ w', But R wr w' → Hid (But R wr w') ∧ w'.cell? ⟨w1.heap.size, 0, none⟩ = some (.int .i64 E.kind) ∧ w'.cell? ⟨w1.heap.size, 1, none⟩ = some (.int .i64 E.n) ∧ w'.cell? ⟨w1.heap.size, 2, none⟩ = some (.string E.name) ∧ w'.cell? ⟨w1.heap.size, 3, none⟩ = some (.slice a' l q)) := fun w' hb => ⟨hb, (HE.out.but hb hne1).c0, (HE.out.but hb hne1).c1, (HE.out.but hb hne1).c2, (HE.out.but hb hne1).c3⟩
          clear hp2
          go_region_with (first
              | (go_at_call 73; refine (HC3.out _ ((Kept.refl _).dr)).mono ?_; rintro e w4 ⟨k4, n4, s4, a4, l4, q4, rfl, H4⟩; have HB4 : Hid (But R wr w4) := (HB3.out.then (But.of (Kept.refl _).dr)).then H4.out.1; obtain ⟨f0, f1, f2, f3, ff⟩ := HE.out.but HB4.out hne1)
              | (go_at_call 71; refine (binary_any _ _ _ _ _ _ _ _ _ _ _ _ _ _).mono ?_; rintro e w5 ⟨Bn, rfl, H5⟩; have HB5 : Hid (But R wr w5) := HB4.out.then (But.of H5.out.1); obtain ⟨g0, g1, g2, g3, gf⟩ := HE.out.but HB5.out hne1; have xl5 := block_lt_of_cell g0))
          all_goals
            obtain ⟨halb, hET, hf1, hf2⟩ := HRR.out
            have hfin := rj_next hRw HGW.out hw1 hB8 HS1.out HE.out hET HBr.out HOPN.out hf1 hf2 HBL.out HLN.out HSU.out.1 HSU.out.2 HALB.out HP2.out (HB3.out.then (But.of (Kept.refl _).dr)) H4.out H5.out
            have HFIN : Hid _ := hfin
            clear hfin halb hET hf1 hf2
            go_wp2_with fail
            go_roundw
            case rel => exact HFIN.out.1
            case measure =>
              have hme := HQ.out.meas
              have := HFIN.out.2
              rw [hme]
              exact this
        | false =>
          rw [hb1] at S47 HOP
          clear hb1
          cases hb2 : Px.isSg [37] (Px.hd (left ts b)) with
          | true =>
            have HSI : Hid (Px.isSg [37] (Px.hd (left ts b)) = true) := hb2
            rw [hb2] at S37 HOP
            have HOPN : Hid (Px.opAt 3 (Px.hd (left ts b)) = some 8) := HOP
            clear HOP hb2
            go_wp2_with fail
            refine (S42.out _ (Kept.refl _)).mono ?_
            rintro e v0 ⟨rfl, kk⟩
            have KV0 : Hid (Kept wr v0) := ((Kept.refl _)).then kk
            clear kk
            go_wp2_with fail
            refine (S47.out _ KV0.out).mono ?_
            rintro e v1 ⟨rfl, kk⟩
            have KV1 : Hid (Kept wr v1) := (KV0.out).then kk
            clear kk
            go_wp2_with fail
            refine (S37.out _ KV1.out).mono ?_
            rintro e v2 ⟨rfl, kk⟩
            have KV2 : Hid (Kept wr v2) := (KV1.out).then kk
            clear kk
            have hq2 := HQ.out.kept KV2.out
            have c1 := hq2.c1
            have z1 := hq2.z 1
            have hR2 := hq2.rlt
            have HALB : Hid (Pp.Alive (left ts (b + 1))) := by
              have := HRR.out.1.tail (.inl (by rw [Px.isSg_kind HSI.out]; decide))
              rwa [left_tail] at this
            have hq3 := hq2.at' (b + 1) HBL.out
            rw [show ((b + 1 : Nat) : Int) = (b : Int) + 1 by omega] at hq3
            have HQ3 : Hid (Rq (v2.setCell ⟨R, 1, none⟩ (.int .i64 ((b : Int) + 1))) R g cap ts (b + 1) false b0) := hq3
            have HB3 : Hid (But R wr (v2.setCell ⟨R, 1, none⟩ (.int .i64 ((b : Int) + 1)))) := (But.of KV2.out).set _ _
            clear hq2 hq3 y0 y1 y2 y3 yf x0 x1 x2 x3 xf
            go_wp2_with fail
            clear c1 z1
            have hR3 : R < (v2.setCell ⟨R, 1, none⟩ (.int .i64 ((b : Int) + 1))).heap.size := HQ3.out.rlt
            generalize v2.setCell ⟨R, 1, none⟩ (.int .i64 ((b : Int) + 1)) = W3 at *
            obtain ⟨x0, x1, x2, x3, xf⟩ := HE.out.but HB3.out hne1
            have hB3l : w1.heap.size < W3.heap.size := block_lt_of_cell x0
            obtain ⟨o2, m2, hp2⟩ : ∃ o2 m2, f (left ts (b + 1)) = (o2, m2) := ⟨_, _, rfl⟩
            have HP2 : Hid (f (left ts (b + 1)) = (o2, m2)) := hp2
            have HC3 : Hid (∀ W, Kept W3 W → Calls Try.prog 73 #[.pointer (some ⟨R, 0, none⟩), .int .i64 deep] W fun e w' => Redq R g cap ts b0 W o2 m2 e w') := fun W hW => HC.out W (b + 1) b0 (HQ3.out.kept hW) HALB.out o2 m2 hp2
            have SS : Hid (∀ w', But R wr w' → Hid (But R wr w') ∧ w'.cell? ⟨w1.heap.size, 0, none⟩ = some (.int .i64 E.kind) ∧ w'.cell? ⟨w1.heap.size, 1, none⟩ = some (.int .i64 E.n) ∧ w'.cell? ⟨w1.heap.size, 2, none⟩ = some (.string E.name) ∧ w'.cell? ⟨w1.heap.size, 3, none⟩ = some (.slice a' l q)) := fun w' hb => ⟨hb, (HE.out.but hb hne1).c0, (HE.out.but hb hne1).c1, (HE.out.but hb hne1).c2, (HE.out.but hb hne1).c3⟩
            clear hp2
            go_region_with (first
                | (go_at_call 73; refine (HC3.out _ ((Kept.refl _).dr)).mono ?_; rintro e w4 ⟨k4, n4, s4, a4, l4, q4, rfl, H4⟩; have HB4 : Hid (But R wr w4) := (HB3.out.then (But.of (Kept.refl _).dr)).then H4.out.1; obtain ⟨f0, f1, f2, f3, ff⟩ := HE.out.but HB4.out hne1)
                | (go_at_call 71; refine (binary_any _ _ _ _ _ _ _ _ _ _ _ _ _ _).mono ?_; rintro e w5 ⟨Bn, rfl, H5⟩; have HB5 : Hid (But R wr w5) := HB4.out.then (But.of H5.out.1); obtain ⟨g0, g1, g2, g3, gf⟩ := HE.out.but HB5.out hne1; have xl5 := block_lt_of_cell g0))
            all_goals
              obtain ⟨halb, hET, hf1, hf2⟩ := HRR.out
              have hfin := rj_next hRw HGW.out hw1 hB8 HS1.out HE.out hET HBr.out HOPN.out hf1 hf2 HBL.out HLN.out HSU.out.1 HSU.out.2 HALB.out HP2.out (HB3.out.then (But.of (Kept.refl _).dr)) H4.out H5.out
              have HFIN : Hid _ := hfin
              clear hfin halb hET hf1 hf2
              go_wp2_with fail
              go_roundw
              case rel => exact HFIN.out.1
              case measure =>
                have hme := HQ.out.meas
                have := HFIN.out.2
                rw [hme]
                exact this
          | false =>
            rw [hb2] at S37 HOP
            clear hb2
            go_wp2_with fail
            refine (S42.out _ (Kept.refl _)).mono ?_
            rintro e v0 ⟨rfl, kk⟩
            have KV0 : Hid (Kept wr v0) := ((Kept.refl _)).then kk
            clear kk
            go_wp2_with fail
            refine (S47.out _ KV0.out).mono ?_
            rintro e v1 ⟨rfl, kk⟩
            have KV1 : Hid (Kept wr v1) := (KV0.out).then kk
            clear kk
            go_wp2_with fail
            refine (S37.out _ KV1.out).mono ?_
            rintro e v2 ⟨rfl, kk⟩
            have KV2 : Hid (Kept wr v2) := (KV1.out).then kk
            clear kk
            have HOPN : Hid (Px.opAt 3 (Px.hd (left ts b)) = none) := HOP
            obtain ⟨y0', y1', y2', y3', yf'⟩ := HZr.out.kept KV2.out
            obtain ⟨x0', x1', x2', x3', xf'⟩ := HE.out.kept KV2.out
            have hw02 : w.heap.size < v2.heap.size := block_lt_of_cell y0'
            clear y0 y1 y2 y3 yf x0 x1 x2 x3 xf
            go_wp2_with fail
            obtain ⟨halb, hET, hf1, hf2⟩ := HRR.out
            rw [Px.more_none HOPN.out] at hf2
            simp only [Prod.mk.injEq] at hf2
            obtain ⟨rfl, rfl⟩ := hf2
            have hK : Kept (v2.setCells w.heap.size 0 [.int .i64 E.kind, .int .i64 E.n, .string E.name, .slice a' l q]) (v2.setCells w.heap.size 0 [.int .i64 E.kind, .int .i64 E.n, .string E.name, .slice a' l q]) := Kept.refl _
            refine redq_endK Try.results72 rfl (HZr.out.kept KV2.out) hK (((But.of (zw_kept w)).then HBr.out).then (But.of KV2.out)) hRw HGW.out (fun x hx => ?_) (fun hx => by cases hx)
            cases hx
            refine ⟨rfl, rfl, rfl, tree_up hK ((hET.stays fun j hj => (KV2.out).block j hj.2.1).mono fun j hj => ⟨hj.1, Nat.lt_of_lt_of_le hj.2.1 (KV2.out).size⟩), ?_⟩
            have : ts.length - (left ts b).length = b := by rw [left_len]; have := HBL.out; omega
            rw [this]; exact HQ.out.kept KV2.out
set_option maxRecDepth 100000 in
set_option maxHeartbeats 4000000 in
theorem rsum_row (deep : Int) (f : Px.P) (hs : Px.Suf f) (hal : ∀ l, Pp.Alive l → Pp.Alive (f l).2) (H : QM 72 deep f) : QM 70 deep (Px.row 2 f) := by
  intro R g cap ts a bad w h hal0 hfit o m hp
  have HR : Hid (Rq w R g cap ts a false bad) := h
  obtain ⟨o1, m1, hp1⟩ : ∃ o1 m1, f (left ts a) = (o1, m1) := ⟨_, _, rfl⟩
  have HP1 : Hid (f (left ts a) = (o1, m1)) := hp1
  unfold Px.row at hp
  rw [hp1] at hp
  have HP : Hid _ := hp
  have HC : Hid (∀ W b bd, Rq W R g cap ts b false bd → Pp.Alive (left ts b) → ∀ o m, f (left ts b) = (o, m) → Calls Try.prog 72 #[.pointer (some ⟨R, 0, none⟩), .int .i64 deep] W fun e w' => Redq R g cap ts bd W o m e w') := fun W b bd hW hA o m hp => H R g cap ts b bd W hW hA hfit o m hp
  have HAL : Hid (Pp.Alive (left ts a)) := hal0
  have HSU : Hid (Px.Suf f ∧ ∀ l, Pp.Alive l → Pp.Alive (f l).2) := ⟨hs, hal⟩
  have hRw := h.rlt
  have HGW : Hid (g < w.heap.size) := h.lt
  have HLN : Hid (ts.length ≤ 6001) := h.few
  clear h hal0 hfit hp hp1 H hs hal
  go_enter Try.func70, Try.ntmps70
  go_wp2_with fail
  refine (HC.out (zw w) a bad (HR.out.kept (zw_kept w)) HAL.out o1 m1 HP1.out).mono ?_
  rintro e w1 ⟨k1, n1, s1, a1, l1, q1, rfl, H1⟩
  have hbz := (zw_bx w).but H1.out.1 (by omega)
  have hw1 : w.heap.size < w1.heap.size := hbz.lt
  have HZW : Hid ((zw w).heap.size = w.heap.size + 1) := zw_size w
  have HS1 : Hid ((zw w).heap.size ≤ w1.heap.size) := H1.out.1.size
  have hne : w.heap.size ≠ R := by omega
  have hne1 : w1.heap.size ≠ R := by omega
  clear hbz
  go_wp2_with fail
  go_loopw [] (fun wr => RJ 2 f R g cap ts bad w (zw w) w1.heap.size o m wr) (fun wr => measOf wr R)
  case atStart =>
    have hP := HP.out
    have hK : Kept w1 (w1.alloc (.cells #[.int .i64 k1, .int .i64 n1, .string s1, .slice a1 l1 q1] 44)) := (Kept.refl _).al _
    cases o1 with
    | none =>
      simp only [Prod.mk.injEq] at hP
      obtain ⟨rfl, rfl⟩ := hP
      obtain ⟨a', ha', hq⟩ := H1.out.2.2 rfl
      exact ⟨⟨k1, n1, s1, a1, l1, q1, a', _, true, Bx.new .., H1.out.1.al _, hq.kept hK, ha', fun h => (by cases h), fun _ => ⟨rfl, rfl⟩⟩⟩
    | some E =>
      obtain ⟨rfl, rfl, rfl, hT, hq⟩ := H1.out.2.1 E rfl
      have hsuf : m1 <:+ left ts a := by have := HSU.out.1 (left ts a); rw [HP1.out] at this; exact this
      have hl2 := suf_left hsuf
      have hal2 : Pp.Alive m1 := by have := HSU.out.2 _ HAL.out; rwa [HP1.out] at this
      have hlt : ts.length - m1.length < ts.length := alive_lt (by rw [hl2]; exact hal2)
      refine ⟨⟨E.kind, E.n, E.name, a1, l1, q1, ts.length - m1.length, bad, false, Bx.new .., H1.out.1.al _, hq.kept hK, hlt, fun _ => ⟨rfl, by rw [hl2]; exact hal2, E, rfl, rfl, rfl, ?_, m1.length, by omega, by rw [hl2]; exact hP⟩, fun h => (by cases h)⟩⟩
      refine (hT.stays (hK.stays (Nat.le_refl _))).mono fun j hj => ⟨by have := hj.1; have := HZW.out; omega, by have := hj.2; have := hK.size; omega, by have := hj.2; omega⟩
  case round =>
    obtain ⟨kE, nE, sE, a', l, q, b, b0, fl, hE, hBut, hq, hb, hrun, hfl⟩ := hrel.out
    have HE : Hid (Bx wr w1.heap.size kE nE sE (.slice a' l q)) := hE
    have HBr : Hid (But R (zw w) wr) := hBut
    have HQ : Hid (Rq wr R g cap ts b fl b0) := hq
    have HBL : Hid (b < ts.length) := hb
    have HRUN : Hid _ := hrun
    have HFL : Hid _ := hfl
    have hzr := (zw_bx w).but hBut hne
    have HZr : Hid (Bx wr w.heap.size 0 0 ⟨#[]⟩ (.slice none 0 0)) := hzr
    have hw0 := hzr.lt
    have hB8 := hE.lt
    have c2 := hq.c2
    have hRr := hq.rlt
    obtain ⟨y0, y1, y2, y3, yf⟩ := hzr
    obtain ⟨x0, x1, x2, x3, xf⟩ := hE
    clear hBut hq hb hrun hfl hrel
    cases fl with
    | true =>
      go_wp2_with fail
      obtain ⟨rfl, rfl⟩ := HFL.out trivial
      exact redq_endK Try.results70 rfl HZr.out (Kept.refl _) ((But.of (zw_kept w)).then HBr.out) hRw HGW.out (fun x hx => by cases hx) (fun _ => ⟨b, HBL.out, HQ.out⟩)
    | false =>
      obtain ⟨rfl, halb, E, rfl, rfl, rfl, hET, f', hf1, hf2⟩ := HRUN.out rfl
      have HRR : Hid (Pp.Alive (left ts b) ∧ ExsD wr (Dn w wr w1.heap.size) E.of (.slice a' l q) ∧ ts.length - b ≤ f' ∧ Px.more 2 f f' E (left ts b) = (o, m)) := ⟨halb, hET, hf1, hf2⟩
      have SG : Hid (∀ W x, Kept wr W → Calls Try.prog 61 #[.pointer (some ⟨R, 0, none⟩), .string x] W fun e w' => e = .returned (.bool (Px.isSg x.data.toList (Px.hd (left ts b)))) ∧ Kept W w') := fun W x hW => rsign_any (HQ.out.kept hW) HBL.out x
      have HOP := Px.op_two (Px.hd (left ts b))
      have S43 : Hid (∀ W, Kept wr W → Calls Try.prog 61 #[.pointer (some ⟨R, 0, none⟩), .string ⟨#[43]⟩] W fun e w' => e = .returned (.bool (Px.isSg [43] (Px.hd (left ts b)))) ∧ Kept W w') := fun W hW => SG.out W ⟨#[43]⟩ hW
      have S45 : Hid (∀ W, Kept wr W → Calls Try.prog 61 #[.pointer (some ⟨R, 0, none⟩), .string ⟨#[45]⟩] W fun e w' => e = .returned (.bool (Px.isSg [45] (Px.hd (left ts b)))) ∧ Kept W w') := fun W hW => SG.out W ⟨#[45]⟩ hW
      clear SG halb hET hf1 hf2
      have hfew := HLN.out
      have hbl := HBL.out
      have hwr : IntKind.i64.wrap ((b : Int) + 1) = (b : Int) + 1 := by rw [IntKind.wrap_i64]; omega
      cases hb0 : Px.isSg [43] (Px.hd (left ts b)) with
      | true =>
        have HSI : Hid (Px.isSg [43] (Px.hd (left ts b)) = true) := hb0
        rw [hb0] at S43 HOP
        have HOPN : Hid (Px.opAt 2 (Px.hd (left ts b)) = some 4) := HOP
        clear HOP hb0
        go_wp2_with fail
        refine (S43.out _ (Kept.refl _)).mono ?_
        rintro e v0 ⟨rfl, kk⟩
        have KV0 : Hid (Kept wr v0) := ((Kept.refl _)).then kk
        clear kk
        have hq2 := HQ.out.kept KV0.out
        have c1 := hq2.c1
        have z1 := hq2.z 1
        have hR2 := hq2.rlt
        have HALB : Hid (Pp.Alive (left ts (b + 1))) := by
          have := HRR.out.1.tail (.inl (by rw [Px.isSg_kind HSI.out]; decide))
          rwa [left_tail] at this
        have hq3 := hq2.at' (b + 1) HBL.out
        rw [show ((b + 1 : Nat) : Int) = (b : Int) + 1 by omega] at hq3
        have HQ3 : Hid (Rq (v0.setCell ⟨R, 1, none⟩ (.int .i64 ((b : Int) + 1))) R g cap ts (b + 1) false b0) := hq3
        have HB3 : Hid (But R wr (v0.setCell ⟨R, 1, none⟩ (.int .i64 ((b : Int) + 1)))) := (But.of KV0.out).set _ _
        clear hq2 hq3 y0 y1 y2 y3 yf x0 x1 x2 x3 xf
        go_wp2_with fail
        clear c1 z1
        have hR3 : R < (v0.setCell ⟨R, 1, none⟩ (.int .i64 ((b : Int) + 1))).heap.size := HQ3.out.rlt
        generalize v0.setCell ⟨R, 1, none⟩ (.int .i64 ((b : Int) + 1)) = W3 at *
        obtain ⟨x0, x1, x2, x3, xf⟩ := HE.out.but HB3.out hne1
        have hB3l : w1.heap.size < W3.heap.size := block_lt_of_cell x0
        obtain ⟨o2, m2, hp2⟩ : ∃ o2 m2, f (left ts (b + 1)) = (o2, m2) := ⟨_, _, rfl⟩
        have HP2 : Hid (f (left ts (b + 1)) = (o2, m2)) := hp2
        have HC3 : Hid (∀ W, Kept W3 W → Calls Try.prog 72 #[.pointer (some ⟨R, 0, none⟩), .int .i64 deep] W fun e w' => Redq R g cap ts b0 W o2 m2 e w') := fun W hW => HC.out W (b + 1) b0 (HQ3.out.kept hW) HALB.out o2 m2 hp2
        have SS : Hid (∀ w', But R wr w' → Hid (But R wr w') ∧ w'.cell? ⟨w1.heap.size, 0, none⟩ = some (.int .i64 E.kind) ∧ w'.cell? ⟨w1.heap.size, 1, none⟩ = some (.int .i64 E.n) ∧ w'.cell? ⟨w1.heap.size, 2, none⟩ = some (.string E.name) ∧ w'.cell? ⟨w1.heap.size, 3, none⟩ = some (.slice a' l q)) := fun w' hb => ⟨hb, (HE.out.but hb hne1).c0, (HE.out.but hb hne1).c1, (HE.out.but hb hne1).c2, (HE.out.but hb hne1).c3⟩
        clear hp2
        go_region_with (first
            | (go_at_call 72; refine (HC3.out _ ((Kept.refl _).dr)).mono ?_; rintro e w4 ⟨k4, n4, s4, a4, l4, q4, rfl, H4⟩; have HB4 : Hid (But R wr w4) := (HB3.out.then (But.of (Kept.refl _).dr)).then H4.out.1; obtain ⟨f0, f1, f2, f3, ff⟩ := HE.out.but HB4.out hne1)
            | (go_at_call 71; refine (binary_any _ _ _ _ _ _ _ _ _ _ _ _ _ _).mono ?_; rintro e w5 ⟨Bn, rfl, H5⟩; have HB5 : Hid (But R wr w5) := HB4.out.then (But.of H5.out.1); obtain ⟨g0, g1, g2, g3, gf⟩ := HE.out.but HB5.out hne1; have xl5 := block_lt_of_cell g0))
        all_goals
          obtain ⟨halb, hET, hf1, hf2⟩ := HRR.out
          have hfin := rj_next hRw HGW.out hw1 hB8 HS1.out HE.out hET HBr.out HOPN.out hf1 hf2 HBL.out HLN.out HSU.out.1 HSU.out.2 HALB.out HP2.out (HB3.out.then (But.of (Kept.refl _).dr)) H4.out H5.out
          have HFIN : Hid _ := hfin
          clear hfin halb hET hf1 hf2
          go_wp2_with fail
          go_roundw
          case rel => exact HFIN.out.1
          case measure =>
            have hme := HQ.out.meas
            have := HFIN.out.2
            rw [hme]
            exact this
      | false =>
        rw [hb0] at S43 HOP
        clear hb0
        cases hb1 : Px.isSg [45] (Px.hd (left ts b)) with
        | true =>
          have HSI : Hid (Px.isSg [45] (Px.hd (left ts b)) = true) := hb1
          rw [hb1] at S45 HOP
          have HOPN : Hid (Px.opAt 2 (Px.hd (left ts b)) = some 5) := HOP
          clear HOP hb1
          go_wp2_with fail
          refine (S43.out _ (Kept.refl _)).mono ?_
          rintro e v0 ⟨rfl, kk⟩
          have KV0 : Hid (Kept wr v0) := ((Kept.refl _)).then kk
          clear kk
          go_wp2_with fail
          refine (S45.out _ KV0.out).mono ?_
          rintro e v1 ⟨rfl, kk⟩
          have KV1 : Hid (Kept wr v1) := (KV0.out).then kk
          clear kk
          have hq2 := HQ.out.kept KV1.out
          have c1 := hq2.c1
          have z1 := hq2.z 1
          have hR2 := hq2.rlt
          have HALB : Hid (Pp.Alive (left ts (b + 1))) := by
            have := HRR.out.1.tail (.inl (by rw [Px.isSg_kind HSI.out]; decide))
            rwa [left_tail] at this
          have hq3 := hq2.at' (b + 1) HBL.out
          rw [show ((b + 1 : Nat) : Int) = (b : Int) + 1 by omega] at hq3
          have HQ3 : Hid (Rq (v1.setCell ⟨R, 1, none⟩ (.int .i64 ((b : Int) + 1))) R g cap ts (b + 1) false b0) := hq3
          have HB3 : Hid (But R wr (v1.setCell ⟨R, 1, none⟩ (.int .i64 ((b : Int) + 1)))) := (But.of KV1.out).set _ _
          clear hq2 hq3 y0 y1 y2 y3 yf x0 x1 x2 x3 xf
          go_wp2_with fail
          clear c1 z1
          have hR3 : R < (v1.setCell ⟨R, 1, none⟩ (.int .i64 ((b : Int) + 1))).heap.size := HQ3.out.rlt
          generalize v1.setCell ⟨R, 1, none⟩ (.int .i64 ((b : Int) + 1)) = W3 at *
          obtain ⟨x0, x1, x2, x3, xf⟩ := HE.out.but HB3.out hne1
          have hB3l : w1.heap.size < W3.heap.size := block_lt_of_cell x0
          obtain ⟨o2, m2, hp2⟩ : ∃ o2 m2, f (left ts (b + 1)) = (o2, m2) := ⟨_, _, rfl⟩
          have HP2 : Hid (f (left ts (b + 1)) = (o2, m2)) := hp2
          have HC3 : Hid (∀ W, Kept W3 W → Calls Try.prog 72 #[.pointer (some ⟨R, 0, none⟩), .int .i64 deep] W fun e w' => Redq R g cap ts b0 W o2 m2 e w') := fun W hW => HC.out W (b + 1) b0 (HQ3.out.kept hW) HALB.out o2 m2 hp2
          have SS : Hid (∀ w', But R wr w' → Hid (But R wr w') ∧ w'.cell? ⟨w1.heap.size, 0, none⟩ = some (.int .i64 E.kind) ∧ w'.cell? ⟨w1.heap.size, 1, none⟩ = some (.int .i64 E.n) ∧ w'.cell? ⟨w1.heap.size, 2, none⟩ = some (.string E.name) ∧ w'.cell? ⟨w1.heap.size, 3, none⟩ = some (.slice a' l q)) := fun w' hb => ⟨hb, (HE.out.but hb hne1).c0, (HE.out.but hb hne1).c1, (HE.out.but hb hne1).c2, (HE.out.but hb hne1).c3⟩
          clear hp2
          go_region_with (first
              | (go_at_call 72; refine (HC3.out _ ((Kept.refl _).dr)).mono ?_; rintro e w4 ⟨k4, n4, s4, a4, l4, q4, rfl, H4⟩; have HB4 : Hid (But R wr w4) := (HB3.out.then (But.of (Kept.refl _).dr)).then H4.out.1; obtain ⟨f0, f1, f2, f3, ff⟩ := HE.out.but HB4.out hne1)
              | (go_at_call 71; refine (binary_any _ _ _ _ _ _ _ _ _ _ _ _ _ _).mono ?_; rintro e w5 ⟨Bn, rfl, H5⟩; have HB5 : Hid (But R wr w5) := HB4.out.then (But.of H5.out.1); obtain ⟨g0, g1, g2, g3, gf⟩ := HE.out.but HB5.out hne1; have xl5 := block_lt_of_cell g0))
          all_goals
            obtain ⟨halb, hET, hf1, hf2⟩ := HRR.out
            have hfin := rj_next hRw HGW.out hw1 hB8 HS1.out HE.out hET HBr.out HOPN.out hf1 hf2 HBL.out HLN.out HSU.out.1 HSU.out.2 HALB.out HP2.out (HB3.out.then (But.of (Kept.refl _).dr)) H4.out H5.out
            have HFIN : Hid _ := hfin
            clear hfin halb hET hf1 hf2
            go_wp2_with fail
            go_roundw
            case rel => exact HFIN.out.1
            case measure =>
              have hme := HQ.out.meas
              have := HFIN.out.2
              rw [hme]
              exact this
        | false =>
          rw [hb1] at S45 HOP
          clear hb1
          go_wp2_with fail
          refine (S43.out _ (Kept.refl _)).mono ?_
          rintro e v0 ⟨rfl, kk⟩
          have KV0 : Hid (Kept wr v0) := ((Kept.refl _)).then kk
          clear kk
          go_wp2_with fail
          refine (S45.out _ KV0.out).mono ?_
          rintro e v1 ⟨rfl, kk⟩
          have KV1 : Hid (Kept wr v1) := (KV0.out).then kk
          clear kk
          have HOPN : Hid (Px.opAt 2 (Px.hd (left ts b)) = none) := HOP
          obtain ⟨y0', y1', y2', y3', yf'⟩ := HZr.out.kept KV1.out
          obtain ⟨x0', x1', x2', x3', xf'⟩ := HE.out.kept KV1.out
          have hw02 : w.heap.size < v1.heap.size := block_lt_of_cell y0'
          clear y0 y1 y2 y3 yf x0 x1 x2 x3 xf
          go_wp2_with fail
          obtain ⟨halb, hET, hf1, hf2⟩ := HRR.out
          rw [Px.more_none HOPN.out] at hf2
          simp only [Prod.mk.injEq] at hf2
          obtain ⟨rfl, rfl⟩ := hf2
          have hK : Kept (v1.setCells w.heap.size 0 [.int .i64 E.kind, .int .i64 E.n, .string E.name, .slice a' l q]) (v1.setCells w.heap.size 0 [.int .i64 E.kind, .int .i64 E.n, .string E.name, .slice a' l q]) := Kept.refl _
          refine redq_endK Try.results70 rfl (HZr.out.kept KV1.out) hK (((But.of (zw_kept w)).then HBr.out).then (But.of KV1.out)) hRw HGW.out (fun x hx => ?_) (fun hx => by cases hx)
          cases hx
          refine ⟨rfl, rfl, rfl, tree_up hK ((hET.stays fun j hj => (KV1.out).block j hj.2.1).mono fun j hj => ⟨hj.1, Nat.lt_of_lt_of_le hj.2.1 (KV1.out).size⟩), ?_⟩
          have : ts.length - (left ts b).length = b := by rw [left_len]; have := HBL.out; omega
          rw [this]; exact HQ.out.kept KV1.out
end Go.Proofs.Ytnfkjmafhaecgaa
