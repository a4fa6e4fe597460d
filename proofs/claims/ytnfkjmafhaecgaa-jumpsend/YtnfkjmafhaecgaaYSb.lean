/- Sb -/
import Derived.Test.YtnfkjmafhaecgaaYSq

namespace Go.Proofs.Ytnfkjmafhaecgaa
open Go.RowKit
attribute [local go_sem] run_store_complex
/-- What holds ahead of each round of block. -/
structure BJ (sp : Pp.R St) (R g cap : Nat) (ts : List Lx.Tk) (bad : Nat) (w : World) (o : Option (List St)) (m : List Lx.Core) (v : Value) (wr : World) : Prop where
  out : ∃ (ps : List Item) (a : Option Addr) (q b b0 : Nat) (fl : Bool), v = .slice a ps.length q ∧ OwnK wr w.heap.size (Far w.heap.size wr v) ps v ∧ But R w wr ∧ Rq wr R g cap ts b fl b0 ∧ b < ts.length ∧
    (fl = false → b0 = bad ∧ ps.length ≤ b ∧ Pp.Alive (left ts b) ∧ ∃ f, (left ts b).length < f ∧ Pp.stmts sp f (ps.map (·.s)) (left ts b) = (o, m)) ∧ (fl = true → o = none ∧ b0 = ts.length - m.length)
set_option maxRecDepth 100000 in
set_option maxHeartbeats 1000000 in
theorem rblock_no (deep : Int) (R g cap : Nat) (s : ByteArray) (ts : List Lx.Tk) (a bad : Nat) (w : World) (h : Rq w R g cap ts a true bad) (ha : a < ts.length) :
    Calls Try.prog 54 #[.pointer (some ⟨R, 0, none⟩), .string s, .int .i64 deep] w fun e w' => e = .returned (.slice none 0 0) ∧ Hid (But R w w' ∧ Rq w' R g cap ts a true bad) := by
  have HR : Hid (Rq w R g cap ts a true bad) := h
  have hRw := h.rlt
  have MU : Hid (∀ W x, Rq W R g cap ts a true bad → Calls Try.prog 60 #[.pointer (some ⟨R, 0, none⟩), .string x] W fun e w' => (∃ v, e = .returned v) ∧ But R W w' ∧ Rq w' R g cap ts a true bad) := fun W x hW => rmust_any hW ha x false rfl
  have FL : Hid (∀ W, Rq W R g cap ts a true bad → Calls Try.prog 49 #[.pointer (some ⟨R, 0, none⟩)] W fun e w' => (∃ v, e = .returned v) ∧ But R W w' ∧ Rq w' R g cap ts a true bad) := fun W hW => fail_any hW
  clear h ha
  by_cases hd : 8 < deep
  · go_enter Try.func54, Try.ntmps54
    go_wp2_with fail
    refine (FL.out _ HR.out).mono ?_
    rintro e w1 ⟨⟨v, rfl⟩, hb, hq⟩
    have HB1 : Hid (But R w w1) := hb
    have HQ1 : Hid (Rq w1 R g cap ts a true bad) := hq
    clear hb hq
    go_wp2_with fail
    refine (MU.out _ _ HQ1.out).mono ?_
    rintro e w2 ⟨⟨v2, rfl⟩, hb, hq⟩
    have HB2 : Hid (But R w w2) := HB1.out.then hb
    have HQ2 : Hid (Rq w2 R g cap ts a true bad) := hq
    have c2 := hq.c2
    have hR2 := hq.rlt
    clear hb hq
    go_wp2_with fail
    go_loopw [7] (fun v wr => v = .slice none 0 0 ∧ wr = w2) (fun _ _ => 0)
    case atStart => exact ⟨rfl, rfl⟩
    case round =>
      obtain ⟨rfl, rfl⟩ := hrel
      go_wp2_with fail
      refine (MU.out _ _ HQ2.out).mono ?_
      rintro e w3 ⟨⟨v3, rfl⟩, hb, hq⟩
      have HB3 : Hid (But R w w3) := HB2.out.then hb
      have HQ3 : Hid (Rq w3 R g cap ts a true bad) := hq
      clear hb hq
      go_wp2_with fail
      go_ret
      exact ⟨rfl, HB3.out, HQ3.out⟩
  · go_enter Try.func54, Try.ntmps54
    go_wp2_with fail
    refine (MU.out _ _ HR.out).mono ?_
    rintro e w2 ⟨⟨v2, rfl⟩, hb, hq⟩
    have HB2 : Hid (But R w w2) := hb
    have HQ2 : Hid (Rq w2 R g cap ts a true bad) := hq
    have c2 := hq.c2
    have hR2 := hq.rlt
    clear hb hq
    go_wp2_with fail
    go_loopw [7] (fun v wr => v = .slice none 0 0 ∧ wr = w2) (fun _ _ => 0)
    case atStart => exact ⟨rfl, rfl⟩
    case round =>
      obtain ⟨rfl, rfl⟩ := hrel
      go_wp2_with fail
      refine (MU.out _ _ HQ2.out).mono ?_
      rintro e w3 ⟨⟨v3, rfl⟩, hb, hq⟩
      have HB3 : Hid (But R w w3) := HB2.out.then hb
      have HQ3 : Hid (Rq w3 R g cap ts a true bad) := hq
      clear hb hq
      go_wp2_with fail
      go_ret
      exact ⟨rfl, HB3.out, HQ3.out⟩
theorem own_litH {w : World} (base e size : Nat) (cs : Array Value) (hs : cs.size = size) (hb : base ≤ w.heap.size) (H : Nat) (hH : w.heap.size = H) : (w.alloc (.cells cs e)).ownsRow base e size (.slice (some ⟨H, 0, none⟩) 1 1) 1 cs.toList := by
  subst hH; exact own_lit base e size cs hs hb
theorem But.grown {R : Nat} {w W w' : World} {r : Option Nat} (h : But R w W) (hg : W.grownBy w' r) (hr : ∀ k, r = some k → w.heap.size ≤ k) : But R w w' :=
  ⟨hg.os.trans h.os, hg.tape.trans h.tape, hg.output.trans h.output, Nat.le_trans h.size hg.size, fun k hk hn => (hg.block k (Nat.lt_of_lt_of_le hk h.size) (fun e => by have := hr k e.symm; omega)).trans (h.block k hk hn)⟩
set_option maxRecDepth 100000 in
set_option maxHeartbeats 8000000 in
theorem rblock_of (e : Nat) (deep : Int) (hde : deep + e = 8) (hd1 : 1 ≤ deep) (H : QB (deep + 1) (fun pl => Pp.block pl e)) : QB deep (fun pl => Pp.block pl (e + 1)) := by
  refine ⟨fun pl => Pp.block_keeps pl _, ?_, fun R g cap s ts a bad w h ha => rblock_no deep R g cap s ts a bad w h ha⟩
  intro R g cap s ts a bad w h hal hok o m hp
  have ha := alive_lt hal
  have HR : Hid (Rq w R g cap ts a false bad) := h
  have HA : Hid (a < ts.length) := ha
  have HAL : Hid (Pp.Alive (left ts a)) := hal
  have HOK : Hid (TkOk s ts) := hok
  have hRw := h.rlt
  have HGW : Hid (g < w.heap.size) := h.lt
  have HLN : Hid (ts.length ≤ 6001) := h.few
  have HH : Hid (QB (deep + 1) (fun pl => Pp.block pl e)) := H
  have hd8 : ¬ 8 < deep := by omega
  have hp : (if (Px.hd (left ts a)).2.1 = Pp.tOpen then Pp.stmts (Pp.stmt (plOf s ts) (Pp.block (plOf s ts) e)) ((left ts a).tail.length + 1) [] (left ts a).tail else (none, left ts a)) = (o, m) := hp
  have hsg := sg_text hok ha (x := Pp.tOpen) (by decide)
  clear h hal hok ha H
  cases hopen : Px.isSg [123] (Px.hd (left ts a)) with
  | false =>
    have hno : ¬ (Px.hd (left ts a)).2.1 = Pp.tOpen := by
      have hsg' : Px.isSg [123] (Px.hd (left ts a)) = decide ((Px.hd (left ts a)).2.1 = Pp.tOpen) := hsg
      rw [hopen] at hsg'
      exact of_decide_eq_false hsg'.symm
    rw [if_neg hno] at hp
    simp only [Prod.mk.injEq] at hp
    obtain ⟨hO1, hO2⟩ := hp
    subst hO1 hO2
    have M1 : Hid _ := rmust_any HR.out HA.out ⟨#[123]⟩ false (by show (!false && Px.isSg [123] (Px.hd (left ts a))) = false; rw [hopen]; rfl)
    have MU : Hid (∀ W x, Rq W R g cap ts a true a → Calls Try.prog 60 #[.pointer (some ⟨R, 0, none⟩), .string x] W fun e w' => (∃ v, e = .returned v) ∧ But R W w' ∧ Rq w' R g cap ts a true a) := fun W x hW => rmust_any hW HA.out x false rfl
    clear hopen hno hsg
    go_enter Try.func54, Try.ntmps54
    go_wp2_with fail
    refine Calls.mono M1.out ?_
    rintro e w2 ⟨⟨v2, rfl⟩, hb, hq⟩
    have hq := Rz_no hq
    have HB2 : Hid (But R w w2) := hb
    have HQ2 : Hid (Rq w2 R g cap ts a true a) := hq
    have c2 := hq.c2
    have hR2 := hq.rlt
    clear hb hq
    go_wp2_with fail
    go_loopw [7] (fun v wr => v = .slice none 0 0 ∧ wr = w2) (fun _ _ => 0)
    case atStart => exact ⟨rfl, rfl⟩
    case round =>
      obtain ⟨rfl, rfl⟩ := hrel
      go_wp2_with fail
      refine (MU.out _ _ HQ2.out).mono ?_
      rintro e w3 ⟨⟨v3, rfl⟩, hb, hq⟩
      have HB3 : Hid (But R w w3) := HB2.out.then hb
      have HQ3 : Hid (Rq w3 R g cap ts a true a) := hq
      clear hb hq
      go_wp2_with fail
      go_ret
      refine ⟨none, 0, 0, rfl, HB3.out, fun x hx => (by cases hx), fun _ => ⟨a, HA.out, ?_⟩⟩
      rw [left_len, show ts.length - (ts.length - a) = a by have := HA.out; omega]
      exact HQ3.out
  | true =>
    have hyes : (Px.hd (left ts a)).2.1 = Pp.tOpen := by
      have hsg' : Px.isSg [123] (Px.hd (left ts a)) = decide ((Px.hd (left ts a)).2.1 = Pp.tOpen) := hsg
      rw [hopen] at hsg'
      exact of_decide_eq_true hsg'.symm
    rw [if_pos hyes, left_tail] at hp
    have HP : Hid _ := hp
    have M1 : Hid _ := rmust_any HR.out HA.out ⟨#[123]⟩ true (by show (!false && Px.isSg [123] (Px.hd (left ts a))) = true; rw [hopen]; rfl)
    have HAL1 : Hid (Pp.Alive (left ts (a + 1))) := alive_next HAL.out (sg_kind hopen)
    have HA1 : Hid (a + 1 < ts.length) := alive_lt HAL1.out
    obtain ⟨sp, hsp⟩ : ∃ sp, Pp.stmt (plOf s ts) (Pp.block (plOf s ts) e) = sp := ⟨_, rfl⟩
    have HSP : Hid (Pp.stmt (plOf s ts) (Pp.block (plOf s ts) e) = sp) := hsp
    rw [hsp] at HP
    have HKP : Hid (Pp.Keeps sp ∧ Pp.Eats sp) := by rw [← hsp]; exact ⟨Pp.stmt_keeps _ (Pp.block_keeps _ _), Pp.stmt_eats _ (Pp.block_keeps _ _)⟩
    have ST : Hid (∀ W b b0, Rq W R g cap ts b false b0 → Pp.Alive (left ts b) → ∀ o m, sp (left ts b) = (o, m) → Calls Try.prog 62 #[.pointer (some ⟨R, 0, none⟩), .string s, .int .i64 deep] W fun e w' => RedS R g cap ts b0 W o m e w') := fun W b b0 hW hA o m h => rstmt_any deep (by omega) (by omega) (fun pl => Pp.block pl e) HH.out hW hA HOK.out o m (by rw [← h, ← hsp])
    clear hopen hyes hsg hp hsp
    go_enter Try.func54, Try.ntmps54
    go_wp2_with fail
    refine Calls.mono M1.out ?_
    rintro e w2 ⟨⟨v2, rfl⟩, hb, hq⟩
    have hq := Rz_yes hq
    have HB2 : Hid (But R w w2) := hb
    have HQ2 : Hid (Rq w2 R g cap ts (a + 1) false bad) := hq
    clear hb hq
    go_wp2_with fail
    go_loopw [7] (fun v wr => BJ sp R g cap ts bad w o m v wr) (fun _ wr => measOf wr R)
    case atStart =>
      have hown : OwnK w2 w.heap.size (Far w.heap.size w2 (.slice none 0 0)) [] (.slice none 0 0) := ⟨⟨rfl, .inl ⟨rfl, rfl⟩⟩, HB2.out.size, fun _ h => by cases h⟩
      exact ⟨⟨[], none, 0, a + 1, bad, false, rfl, hown, HB2.out, HQ2.out, HA1.out, fun _ => ⟨rfl, Nat.zero_le _, HAL1.out, _, Nat.lt_succ_self _, HP.out⟩, fun h => by cases h⟩⟩
    case round =>
      obtain ⟨ps, ao, qo, b, b0, fl, rfl, hown, hBut, hq, hb, hrun, hfl⟩ := hrel.out
      have HOW : Hid (OwnK wr w.heap.size (Far w.heap.size wr (.slice ao ps.length qo)) ps (.slice ao ps.length qo)) := hown
      have HBr : Hid (But R w wr) := hBut
      have HQ : Hid (Rq wr R g cap ts b fl b0) := hq
      have HBL : Hid (b < ts.length) := hb
      have HRUN : Hid _ := hrun
      have HFL : Hid _ := hfl
      have c2 := hq.c2
      have hRr := hq.rlt
      clear hown hBut hq hb hrun hfl hrel
      cases fl with
      | true =>
        obtain ⟨rfl, rfl⟩ := HFL.out rfl
        have MU : Hid _ := rmust_any HQ.out HBL.out ⟨#[125]⟩ false rfl
        go_wp2_with fail
        refine Calls.mono MU.out ?_
        rintro e w3 ⟨⟨v3, rfl⟩, hb3, hq3⟩
        have HB3 : Hid (But R w w3) := HBr.out.then hb3
        have HQ3 : Hid (Rq w3 R g cap ts b true (ts.length - m.length)) := hq3
        clear hb3 hq3
        go_wp2_with fail
        go_ret
        exact ⟨ao, ps.length, qo, rfl, HB3.out, fun x hx => (by cases hx), fun _ => ⟨b, HBL.out, HQ3.out⟩⟩
      | false =>
        obtain ⟨rfl, hle, halb, f, hf1, hf2⟩ := HRUN.out rfl
        have HLE : Hid (ps.length ≤ b) := hle
        have HRR : Hid (Pp.Alive (left ts b) ∧ (left ts b).length < f ∧ Pp.stmts sp f (ps.map (·.s)) (left ts b) = (o, m)) := ⟨halb, hf1, hf2⟩
        have SG : Hid (Calls Try.prog 61 #[.pointer (some ⟨R, 0, none⟩), .string ⟨#[125]⟩] wr fun e w' => e = .returned (.bool (Px.isSg [125] (Px.hd (left ts b)))) ∧ Kept wr w') := rsign_any HQ.out HBL.out ⟨#[125]⟩
        have hsg : Px.isSg [125] (Px.hd (left ts b)) = decide ((Px.hd (left ts b)).2.1 = Pp.tShut) := sg_text HOK.out HBL.out (x := Pp.tShut) (by decide)
        obtain ⟨f', rfl⟩ : ∃ f', f = f' + 1 := ⟨f - 1, by omega⟩
        clear halb hf1 hf2 hle
        cases hshut : Px.isSg [125] (Px.hd (left ts b)) with
        | true =>
          rw [hshut] at SG hsg
          have htx0 := of_decide_eq_true hsg.symm
          have HTX : Hid ((Px.hd (left ts b)).2.1 = Pp.tShut) := htx0
          have HSI : Hid (Px.isSg [125] (Px.hd (left ts b)) = true) := hshut
          clear hsg hshut htx0
          go_wp2_with fail
          refine Calls.mono SG.out ?_
          rintro e v0 ⟨rfl, kk⟩
          have KV : Hid (Kept wr v0) := kk
          have MU : Hid _ := rmust_any (HQ.out.kept kk) HBL.out ⟨#[125]⟩ true (by show (!false && Px.isSg [125] (Px.hd (left ts b))) = true; rw [HSI.out]; rfl)
          clear kk
          go_wp2_with fail
          refine Calls.mono MU.out ?_
          rintro e w3 ⟨⟨v3, rfl⟩, hb3, hq3⟩
          have HB3 : Hid (But R wr w3) := (But.of KV.out).then hb3
          have HQ3 : Hid (Rq w3 R g cap ts (b + 1) false b0) := Rz_yes hq3
          clear hb3 hq3
          go_wp2_with fail
          go_ret
          obtain ⟨-, -, hf2⟩ := HRR.out
          rw [Pp.stmts, if_pos HTX.out] at hf2
          simp only [Prod.mk.injEq] at hf2
          obtain ⟨rfl, rfl⟩ := hf2
          have hO3 : OwnK w3 w.heap.size (Far w.heap.size w3 (.slice ao ps.length qo)) ps (.slice ao ps.length qo) := HOW.out.bu (HB3.out.bu (M := fun k => k = R) rfl) (fun k h1 _ h2 => by omega)
          refine ⟨ao, ps.length, qo, rfl, HBr.out.then HB3.out, fun x hx => ?_, fun hx => (by cases hx)⟩
          cases hx
          refine ⟨hO3.sts (fun k hk => ⟨hk.1, hk.2.1⟩) (fun k hk => hO3.row.lt k hk), ?_⟩
          rw [left_tail, left_len, show ts.length - (ts.length - (b + 1)) = b + 1 by have := HBL.out; omega]
          exact HQ3.out
        | false =>
          rw [hshut] at SG hsg
          have htx0 := of_decide_eq_false hsg.symm
          have HTX : Hid (¬ (Px.hd (left ts b)).2.1 = Pp.tShut) := htx0
          clear hsg hshut htx0
          obtain ⟨o2, m2, hp2⟩ : ∃ o2 m2, sp (left ts b) = (o2, m2) := ⟨_, _, rfl⟩
          have HP2 : Hid (sp (left ts b) = (o2, m2)) := hp2
          clear hp2
          go_wp2_with fail
          refine Calls.mono SG.out ?_
          rintro e v0 ⟨rfl, kk⟩
          have KV : Hid (Kept wr v0) := kk
          have SC : Hid _ := ST.out v0 b b0 (HQ.out.kept kk) HRR.out.1 o2 m2 HP2.out
          clear kk
          go_wp2_with fail
          refine Calls.mono SC.out ?_
          rintro e w3 ⟨⟨k3, nm3, ot3, n3, ek3, en3, es3, ea3, el3, eq3, ba3, bl3, bq3, ca3, cl3, cq3, X3, Y3⟩, rfl, H3⟩
          dsimp only [Sv.cells]
          have HB3 : Hid (But R wr w3) := (But.of KV.out).then H3.out.1
          have HO3 : Hid (OwnK w3 w.heap.size (Far w.heap.size w3 (.slice ao ps.length qo)) ps (.slice ao ps.length qo)) := HOW.out.bu (HB3.out.bu (M := fun k => k = R) rfl) (fun k h1 _ h2 => by omega)
          have HLT : Hid (m2.length < (left ts b).length ∨ o2 = none) := by
            show _ ∨ _
            cases o2 with
            | none => exact .inr rfl
            | some x => exact .inl (HKP.out.2 _ _ _ HRR.out.1 HP2.out)
          obtain ⟨-, hf1, hf2⟩ := HRR.out
          rw [Pp.stmts, if_neg HTX.out, HP2.out] at hf2
          have HF2 : Hid _ := hf2
          have HF1 : Hid ((left ts b).length < f' + 1) := hf1
          clear hf1 hf2
          cases o2 with
          | none =>
            obtain ⟨a', ha', hq3⟩ := H3.out.2.2 rfl
            have c23 := hq3.c2
            have hR3 := hq3.rlt
            have HQ3 : Hid (Rq w3 R g cap ts a' true (ts.length - m2.length)) := hq3
            have HA3 : Hid (a' < ts.length) := ha'
            have hO := HF2.out
            simp only [Prod.mk.injEq] at hO
            obtain ⟨rfl, rfl⟩ := hO
            clear hq3 ha'
            go_wp2_with fail
            have K : Kept w3 (w3.alloc (.cells #[.int .i64 k3, .string nm3, .string ot3, .int .i64 n3, .int .i64 ek3, .int .i64 en3, .string es3, .slice ea3 el3 eq3, .slice ba3 bl3 bq3, .slice ca3 cl3 cq3, .complex .f64 X3 Y3] 46)) := (Kept.refl _).al _
            go_roundw
            case rel =>
              exact ⟨⟨ps, ao, qo, a', _, true, rfl, (HO3.out.kept K fun i hi => hi.2.1).mono fun i hi => ⟨hi.1, by have := K.size; have := hi.2.1; omega, hi.2.2⟩, (HBr.out.then HB3.out).then (But.of K), HQ3.out.kept K, HA3.out, fun h => (by cases h), fun _ => ⟨rfl, rfl⟩⟩⟩
            case measure =>
              rw [(HQ3.out.kept K).meas, HQ.out.meas]
              have h1 := HBL.out
              have h2 := HLN.out
              simp
              omega
          | some x =>
            obtain ⟨his, hq3⟩ := H3.out.2.1 x rfl
            have i1 : k3 = x.kind := his.k
            have i2 : nm3 = x.name := his.nm
            have i3 : ot3 = x.other := his.ot
            have i4 : n3 = x.n := his.n
            have i5 : ek3 = x.e.kind := his.ek
            have i6 : en3 = x.e.n := his.en
            have i7 : es3 = x.e.name := his.es
            have i8 : X3 = x.re := his.X
            have i9 : Y3 = x.im := his.Y
            have HIN : Hid (Item.InD w3 (Rng v0.heap.size w3.heap.size) ⟨x, .slice ea3 el3 eq3, .slice ba3 bl3 bq3, .slice ca3 cl3 cq3⟩) := ⟨his.e, his.b, his.c⟩
            subst i1 i2 i3 i4 i5 i6 i7 i8 i9
            have c23 := hq3.c2
            have hR3 := hq3.rlt
            have HQ3 : Hid (Rq w3 R g cap ts (ts.length - m2.length) false b0) := hq3
            have hpl : ps.length ≤ 6001 := by have h1 := HLE.out; have h2 := HBL.out; have h3 := HLN.out; omega
            clear his hq3
            obtain ⟨W5, hW5⟩ : ∃ W, (w3.alloc (.cells #[.int .i64 x.kind, .string x.name, .string x.other, .int .i64 x.n, .int .i64 x.e.kind, .int .i64 x.e.n, .string x.e.name, .slice ea3 el3 eq3, .slice ba3 bl3 bq3, .slice ca3 cl3 cq3, .complex .f64 x.re x.im] 46)).alloc (.cells #[.int .i64 x.kind, .string x.name, .string x.other, .int .i64 x.n, .int .i64 x.e.kind, .int .i64 x.e.n, .string x.e.name, .slice ea3 el3 eq3, .slice ba3 bl3 bq3, .slice ca3 cl3 cq3, .complex .f64 x.re x.im] 46) = W := ⟨_, rfl⟩
            have K5 : Hid (Kept w3 W5) := by rw [← hW5]; exact ((Kept.refl _).al _).al _
            have HO5 : Hid (OwnK W5 w.heap.size (Far w.heap.size W5 (.slice ao ps.length qo)) ps (.slice ao ps.length qo)) := (HO3.out.kept K5.out fun i hi => hi.2.1).mono fun i hi => ⟨hi.1, by have := K5.out.size; have := hi.2.1; omega, hi.2.2⟩
            have HL5 : Hid (W5.ownsRow 0 46 11 (.slice (some ⟨w3.heap.size + 1, 0, none⟩) 1 1) 1 (Item.cells ⟨x, .slice ea3 el3 eq3, .slice ba3 bl3 bq3, .slice ca3 cl3 cq3⟩)) := by
              rw [← hW5]
              exact own_litH 0 46 11 _ (by rfl) (Nat.zero_le _) (w3.heap.size + 1) (by simp)
            have HIN5 : Hid (Item.InD W5 (Far w.heap.size W5 (.slice ao ps.length qo)) ⟨x, .slice ea3 el3 eq3, .slice ba3 bl3 bq3, .slice ca3 cl3 cq3⟩) := (HIN.out.stays (K5.out.stays (Nat.le_refl _))).mono fun i hi => ⟨by have h1 := hi.1; have h2 := KV.out.size; have h3 := HBr.out.size; omega, by have h1 := hi.2; have h2 := K5.out.size; omega, fun e => by have h1 := (HOW.out.row.lt i e.symm).2; have h2 := hi.1; have h3 := KV.out.size; omega⟩
            go_wp2_with (at_builtin; refine wpList_append_rows (base := w.heap.size) (n := ps.length) (xs := itCells ps) (by rfl) _ _ _ (by rfl) elemSt (by rfl) HO5.out.row (by rfl) HL5.out ?one (by omega) ?len HO5.out.le ?_)
            case one => exact HIN5.out.one
            case len => unfold maxLen; omega
            intro ad6 cp6 w6 HG
            have HO6 : Hid (OwnK w6 w.heap.size (Far w.heap.size w6 (.slice ad6 (ps.length + 1) cp6)) (ps ++ [⟨x, .slice ea3 el3 eq3, .slice ba3 bl3 bq3, .slice ca3 cl3 cq3⟩]) (.slice ad6 (ps.length + 1) cp6)) := HO5.out.grewFar (qs := [⟨x, .slice ea3 el3 eq3, .slice ba3 bl3 bq3, .slice ca3 cl3 cq3⟩]) (fun q hq => by rw [List.mem_singleton.1 hq]; exact HIN5.out) (by rw [itCells_one]; exact HG.out)
            have hob : ∀ k, (Value.slice ao ps.length qo).ownBlock = some k → w.heap.size ≤ k := fun k ek => HO5.out.base_le k ek
            have HB6 : Hid (But R w w6) := ((HBr.out.then HB3.out).then (But.of K5.out)).grown HG.out.grown hob
            have HQ6 : Hid (Rq w6 R g cap ts (ts.length - m2.length) false b0) := by
              have hq5 := HQ3.out.kept K5.out
              exact hq5.off (HG.out.grown.block R hq5.rlt (fun ek => by have := hob R ek.symm; omega)) (HG.out.grown.block g hq5.lt (fun ek => by have h1 := hob g ek.symm; have h2 := HGW.out; omega)) HG.out.grown.size
            have hkk := HKP.out.1 _ HRR.out.1
            rw [HP2.out] at hkk
            have HLF : Hid (left ts (ts.length - m2.length) = m2) := suf_left hkk.1
            have HA2 : Hid (Pp.Alive m2) := hkk.2
            clear hkk HG hob hW5
            go_wp2_with fail
            have hlen : m2.length < ts.length - b := by
              rcases HLT.out with h | h
              · rwa [left_len] at h
              · cases h
            have hb6 : ts.length - m2.length < ts.length := alive_lt (by rw [HLF.out]; exact HA2.out)
            go_roundw
            case rel =>
              refine ⟨⟨ps ++ [⟨x, .slice ea3 el3 eq3, .slice ba3 bl3 bq3, .slice ca3 cl3 cq3⟩], ad6, cp6, ts.length - m2.length, b0, false, by rw [List.length_append]; rfl, HO6.out, HB6.out, HQ6.out, hb6, fun _ => ⟨rfl, ?_, by rw [HLF.out]; exact HA2.out, f', ?_, ?_⟩, fun h => (by cases h)⟩⟩
              · have := HLE.out; rw [List.length_append]; show ps.length + 1 ≤ _; omega
              · rw [HLF.out]; have := HF1.out; rw [left_len] at this; omega
              · rw [HLF.out, List.map_append]; exact HF2.out
            case measure =>
              rw [HQ6.out.meas, HQ.out.meas]
              have h1 := HBL.out
              have h2 := HLN.out
              simp
              omega
set_option maxRecDepth 100000 in
set_option maxHeartbeats 1000000 in
theorem rblock_zero : QB 9 (fun pl => Pp.block pl 0) := by
  refine ⟨fun pl => Pp.block_keeps pl _, ?_, fun R g cap s ts a bad w h ha => rblock_no 9 R g cap s ts a bad w h ha⟩
  intro R g cap s ts a bad w h hal hok o m hp
  have ha := alive_lt hal
  have HA : Hid (a < ts.length) := ha
  have hRw := h.rlt
  have hp : (none, left ts a) = (o, m) := hp
  simp only [Prod.mk.injEq] at hp
  obtain ⟨rfl, rfl⟩ := hp
  have FL : Hid (Calls Try.prog 49 #[.pointer (some ⟨R, 0, none⟩)] w fun e w' => (∃ v, e = .returned v) ∧ But R w w' ∧ Rq w' R g cap ts a true a) := fail_any h
  have MU : Hid (∀ W x, Rq W R g cap ts a true a → Calls Try.prog 60 #[.pointer (some ⟨R, 0, none⟩), .string x] W fun e w' => (∃ v, e = .returned v) ∧ But R W w' ∧ Rq w' R g cap ts a true a) := fun W x hW => rmust_any hW HA.out x false rfl
  clear h hal hok ha
  go_enter Try.func54, Try.ntmps54
  go_wp2_with fail
  refine Calls.mono FL.out ?_
  rintro e w1 ⟨⟨v, rfl⟩, hb, hq⟩
  have HB1 : Hid (But R w w1) := hb
  have HQ1 : Hid (Rq w1 R g cap ts a true a) := hq
  clear hb hq
  go_wp2_with fail
  refine (MU.out _ _ HQ1.out).mono ?_
  rintro e w2 ⟨⟨v2, rfl⟩, hb, hq⟩
  have HB2 : Hid (But R w w2) := HB1.out.then hb
  have HQ2 : Hid (Rq w2 R g cap ts a true a) := hq
  have c2 := hq.c2
  have hR2 := hq.rlt
  clear hb hq
  go_wp2_with fail
  go_loopw [7] (fun v wr => v = .slice none 0 0 ∧ wr = w2) (fun _ _ => 0)
  case atStart => exact ⟨rfl, rfl⟩
  case round =>
    obtain ⟨rfl, rfl⟩ := hrel
    go_wp2_with fail
    refine (MU.out _ _ HQ2.out).mono ?_
    rintro e w3 ⟨⟨v3, rfl⟩, hb, hq⟩
    have HB3 : Hid (But R w w3) := HB2.out.then hb
    have HQ3 : Hid (Rq w3 R g cap ts a true a) := hq
    clear hb hq
    go_wp2_with fail
    go_ret
    refine ⟨none, 0, 0, rfl, HB3.out, fun x hx => (by cases hx), fun _ => ⟨a, HA.out, ?_⟩⟩
    rw [left_len, show ts.length - (ts.length - a) = a by have := HA.out; omega]
    exact HQ3.out
theorem rblock_all : ∀ (e : Nat) (deep : Int), deep + e = 9 → 1 ≤ deep → QB deep (fun pl => Pp.block pl e) := by
  intro e
  induction e with
  | zero =>
    intro deep h _
    obtain rfl : deep = 9 := by omega
    exact rblock_zero
  | succ e ih => exact fun deep h h1 => rblock_of e deep (by omega) h1 (ih (deep + 1) (by omega) (by omega))
end Go.Proofs.Ytnfkjmafhaecgaa
