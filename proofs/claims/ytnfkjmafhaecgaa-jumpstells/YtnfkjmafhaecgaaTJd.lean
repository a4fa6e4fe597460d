/- Jd -/
import Derived.Test.YtnfkjmafhaecgaaTJk
import Derived.Test.YtnfkjmafhaecgaaTSwA
import Derived.Test.YtnfkjmafhaecgaaTHdA
import Derived.Test.YtnfkjmafhaecgaaTSe

namespace Go.Proofs.Ytnfkjmafhaecgaa
open Go.RowKit Jf
attribute [local go_sem] run_store_complex
attribute [local go_sem ↓] add_fit
set_option maxRecDepth 100000 in
set_option maxHeartbeats 1000000 in
theorem read9_none (s : ByteArray) (hs : s.size ≤ 1125899906842624) (w : World) (q : Nat) (hr : Pp.out s = (none, q)) :
    Calls Try.prog 17 #[.string s] w fun e w' => e = .returned (.agg #[.slice none 0 0, .slice none 0 0]) ∧ Kept w w' := by
  have RP : Hid (Calls Try.prog 37 #[.string s] (Wz w) fun e w' => GotQ (Wz w) none q e w') := rparse_any s hs (Wz w) _ _ hr
  clear hs hr
  go_enter Try.func17, Try.ntmps17
  go_wp2_with fail
  refine Calls.mono RP.out ?_
  rintro e w1 ⟨a1, n1, q1, a2, n2, q2, Q, E, rfl, H⟩
  obtain ⟨rfl, rfl, rfl, rfl, rfl, rfl, -, -⟩ := H.out.2.1 rfl
  have HK : Hid (Kept (Wz w) w1) := H.out.1
  have hbx : BoxS w1 w.heap.size [.slice none 0 0, .slice none 0 0] := (Wz_box w).kept HK.out
  have HBX : Hid (BoxS w1 w.heap.size [.slice none 0 0, .slice none 0 0]) := hbx
  have s0 := hbx.cell 0 rfl
  have s1 := hbx.cell 1 rfl
  have sf0 := hbx.fz 0
  have sf1 := hbx.fz 1
  have hrl := hbx.lt
  clear H hbx
  go_wp2_with fail
  obtain ⟨Wf, hWf⟩ : ∃ Wf, (w1.setCells w.heap.size 0 [.slice none 0 0, .slice none 0 0]).alloc (.cells #[.slice none 0 0, .slice none 0 0] 27) = Wf := ⟨_, rfl⟩
  have kk : Kept (w1.setCells w.heap.size 0 [.slice none 0 0, .slice none 0 0]) Wf := by rw [← hWf]; exact (Kept.refl _).al _
  have hkf : Kept w Wf := Kept.then (b := w1.setCells w.heap.size 0 [.slice none 0 0, .slice none 0 0]) (Below.setCells ((Wz_kept w).then HK.out) (Nat.le_refl _) _ _) kk
  have hrg : Wf.rangeAt w.heap.size 0 [.slice none 0 0, .slice none 0 0] := fun j v hv => kk.cellS (World.rangeAt_setCells_same _ _ _ _ (HBX.out.there 0 2 (by decide)) j v hv)
  rw [← hWf] at hkf hrg
  exact bodyPost_ret (results_cell_mid (P := Try.prog) Try.results17 _ _ w.heap.size 0 [.slice none 0 0, .slice none 0 0] _ rfl hrg Try.underlying27 rfl esizePr) rfl ⟨rfl, hkf⟩
theorem TsD.nil (w : World) (D : Nat → Prop) : TsD w D [] (.slice none 0 0) := ⟨none, 0, fun _ => undef, rfl, ⟨Nat.le_refl _, Nat.zero_le _, fun _ => rfl⟩, fun i hi => by simp at hi, fun i hi => by simp at hi⟩
theorem DsD.nil9 (w : World) (D : Nat → Prop) : DsD w D [] (.slice none 0 0) := ⟨none, 0, rfl, ⟨Nat.le_refl _, Nat.zero_le _, fun _ => rfl⟩, fun i hi => by simp at hi⟩
structure RdP (w w' : World) (d : List Dc) (t : List (List St)) (v1 v2 : Value) : Prop where
  kept : Kept w w'
  ds : DsIn w' w.heap.size w'.heap.size d v1
  ts : TsIn w' w.heap.size w'.heap.size t v2
  sz : tsz t ≤ 20000
  nm : ∀ x ∈ flatTs t, x.name.size ≤ 20000
  num : t.length ≤ 4
  ok : ∀ b ∈ t, ∀ y ∈ b, OkS y
theorem read9_all (s : ByteArray) (hs : s.size ≤ 1125899906842624) (w : World) : Calls Try.prog 17 #[.string s] w fun e w' => ∃ (d : List Dc) (t : List (List St)) (a1 : Option Addr) (n1 q1 : Nat) (a2 : Option Addr) (n2 q2 : Nat), e = .returned (.agg #[.slice a1 n1 q1, .slice a2 n2 q2]) ∧ Hid (RdP w w' d t (.slice a1 n1 q1) (.slice a2 n2 q2) ∧ ((Pp.out s).1 = some (d, t) ∨ ((Pp.out s).1 = none ∧ d = [] ∧ t = []))) := by
  obtain ⟨o, q, ho⟩ : ∃ o q, Pp.out s = (o, q) := ⟨_, _, rfl⟩
  cases o with
  | none =>
    refine (read9_none s hs w q ho).mono ?_
    rintro e w' ⟨rfl, k⟩
    exact ⟨[], [], none, 0, 0, none, 0, 0, rfl, ⟨k, DsD.nil9 _ _, TsD.nil _ _, by simp [tsz], fun x hx => by simp [flatTs] at hx, by simp, fun b hb => by cases hb⟩, .inr ⟨by rw [ho], rfl, rfl⟩⟩
  | some p =>
    obtain ⟨d, t⟩ := p
    refine (read9_any s hs w d t q ho).mono ?_
    rintro e w' ⟨a1, n1, q1, a2, n2, q2, rfl, H⟩
    obtain ⟨f1, f2⟩ := Pp.out_small ho
    exact ⟨d, t, a1, n1, q1, a2, n2, q2, rfl, ⟨H.out.1, H.out.2.1, H.out.2.2.1, f1, f2, Pp.out_num ho, (Pp.out_ok hs ho).2⟩, .inl (by rw [ho])⟩
theorem addg (S T : ByteArray) (h : S.size + T.size ≤ 1000000000000000) : Fits S T := by unfold Fits; omega
theorem index_three9 (A B C : ByteArray) (k : Nat) (hk : k < 3) : ∃ X, (X = A ∨ X = B ∨ X = C) ∧ ∀ w, (Instr.index 40 (.agg #[.string A, .string B, .string C]) (.int .i64 (k : Int))).run Try.prog w = .ok (.string X) w := by
  have h9 := Try.sizeOf9
  have ha := Try.isAgg9
  match k, hk with
  | 0, _ => exact ⟨A, by simp, fun w => by simp [Instr.index, go_sem, h9, ha]⟩
  | 1, _ => exact ⟨B, by simp, fun w => by simp [Instr.index, go_sem, h9, ha]⟩
  | 2, _ => exact ⟨C, by simp, fun w => by simp [Instr.index, go_sem, h9, ha]⟩
set_option maxRecDepth 100000 in
set_option maxHeartbeats 2000000 in
theorem deep_any (l : List Int) (w : World) (lv : Value) (h : IntsR w w.heap.size l lv) (hb : l.length ≤ 17592186044416) : Calls Try.prog 8 #[lv] w fun e w' => ∃ (d : List Dc) (t : List (List St)) (a1 : Option Addr) (n1 q1 : Nat) (a2 : Option Addr) (n2 q2 : Nat), e = .returned (.agg #[.slice a1 n1 q1, .slice a2 n2 q2]) ∧ Hid (RdP w w' d t (.slice a1 n1 q1) (.slice a2 n2 q2)) := by
  have HL : Hid (IntsR w w.heap.size l lv) := h
  obtain ⟨la, lcap, rfl, hl1, hl2, hl3, -⟩ := h.out
  have HLN : Hid (l.length ≤ 17592186044416) := hb
  have HR : Hid (∀ (s : ByteArray), s.size ≤ 1125899906842624 → ∀ W : World, Calls Try.prog 17 #[.string s] W fun e w' => ∃ (d : List Dc) (t : List (List St)) (a1 : Option Addr) (n1 q1 : Nat) (a2 : Option Addr) (n2 q2 : Nat), e = .returned (.agg #[.slice a1 n1 q1, .slice a2 n2 q2]) ∧ Hid (RdP W w' d t (.slice a1 n1 q1) (.slice a2 n2 q2))) := fun s hs W => (read9_all s hs W).mono fun e w' ⟨d, t, a1, n1, q1, a2, n2, q2, e1, H⟩ => ⟨d, t, a1, n1, q1, a2, n2, q2, e1, H.out.1⟩
  have hll : (l.length : Int) ≤ 17592186044416 := by omega
  clear h hb hl1 hl2 hl3
  go_enter Try.func8, Try.ntmps8
  go_wp2_with fail
  go_loopw [3, 4, 10] (fun sv ov i wr => ∃ (k : Nat) (S : ByteArray) (op : Int), sv = .string S ∧ ov = .int .i64 op ∧ i = .int .i64 (k : Int) ∧ k ≤ l.length ∧ (0 ≤ op ∧ op ≤ 5) ∧ S.size ≤ 3 + 12 * k ∧ Hid (Kept (Wz w) wr)) (fun _ _ i _ => l.length - (intOf i).toNat)
  case atStart => exact ⟨0, _, 0, rfl, rfl, rfl, Nat.zero_le _, by decide, by decide, Kept.refl _⟩
  case round =>
    obtain ⟨k, S, op, rfl, rfl, rfl, hk, ho, hsz, HKW⟩ := hrel
    have HO : Hid (0 ≤ op ∧ op ≤ 5) := ho
    have HS : Hid (S.size ≤ 3 + 12 * k ∧ k ≤ 17592186044416) := ⟨hsz, by have := HLN.out; omega⟩
    clear ho hsz
    by_cases hlt : k < l.length
    · have hki : (k : Int) < (l.length : Int) := by omega
      obtain ⟨_, _, e0, _, _, e3, e4⟩ := (HL.out.kept ((Wz_kept w).then HKW.out)).out
      cases e0
      obtain ⟨b, o, rfl, hbb, hc⟩ := e3 k hlt
      have hbw : b < wr.heap.size := by have := ((Wz_kept w).then HKW.out).size; omega
      obtain ⟨x, hx⟩ : ∃ x, l[k] = x := ⟨_, rfl⟩
      rw [hx] at hc
      obtain ⟨x1, x2⟩ := e4 x (by rw [← hx]; exact List.getElem_mem _)
      obtain ⟨p, hp, -, hPK⟩ := pick_nat x 10 (by omega) (by omega)
      have PK : Hid (∀ W, Calls Try.prog 16 #[.int .i64 x, .int .i64 10] W fun e w' => e = .returned (.int .i64 (p : Int)) ∧ w' = W) := hPK
      clear e3 e4 hPK hx hbb
      go_upto_region 6 with fail
      clear hc hbw
      go_wp2_with fail
      refine (PK.out _).mono ?_
      rintro e w4 ⟨rfl, rfl⟩
      clear PK
      by_cases p3 : p < 3
      · have f3 : (p : Int) < 3 := by omega
        obtain ⟨j3, hj3, -, hP3⟩ := pick_nat (x.tdiv 10) 3 (by omega) (by omega)
        have PK3 : Hid (∀ W, Calls Try.prog 16 #[.int .i64 (x.tdiv 10), .int .i64 3] W fun e w' => e = .returned (.int .i64 (j3 : Int)) ∧ w' = W) := hP3
        obtain ⟨X, hXX, hX⟩ := index_three9 ⟨#[97]⟩ ⟨#[98]⟩ ⟨#[101]⟩ j3 hj3
        have hXs : X.size = 1 := by rcases hXX with rfl | rfl | rfl <;> rfl
        have y1 : (S ++ ⟨#[32, 103, 111, 116, 111, 32]⟩).size ≤ 400000000000000 := by rw [ByteArray.size_append]; show _ + 6 ≤ _; have := HS.out; omega
        have B1 := addg S ⟨#[32, 103, 111, 116, 111, 32]⟩ (by show _ + 6 ≤ _; have := HS.out; omega)
        have B2 := addg (S ++ ⟨#[32, 103, 111, 116, 111, 32]⟩) X (by omega)
        clear y1
        have HNS : Hid (((S ++ ⟨#[32, 103, 111, 116, 111, 32]⟩) ++ X).size ≤ 3 + 12 * (k + 1)) := by show _ ≤ _; rw [ByteArray.size_append, ByteArray.size_append, hXs]; show _ + 6 + 1 ≤ _; have := HS.out; omega
        clear hP3 hXX hXs
        go_wp2_with fail
        refine (PK3.out _).mono ?_
        rintro e w5 ⟨rfl, rfl⟩
        go_wp2_with fail
        go_roundw
        case rel => exact ⟨k + 1, _, op, rfl, rfl, by go_num, by omega, HO.out, HNS.out, HKW⟩
        case measure => simp [intOf]; omega
      have g3 : decide ((p : Int) < 3) = false := decide_eq_false (by omega)
      by_cases p6 : p < 6
      · have f6 : (p : Int) < 6 := by omega
        obtain ⟨j3, hj3, -, hP3⟩ := pick_nat (x.tdiv 10) 3 (by omega) (by omega)
        have PK3 : Hid (∀ W, Calls Try.prog 16 #[.int .i64 (x.tdiv 10), .int .i64 3] W fun e w' => e = .returned (.int .i64 (j3 : Int)) ∧ w' = W) := hP3
        obtain ⟨X, hXX, hX⟩ := index_three9 ⟨#[97]⟩ ⟨#[98]⟩ ⟨#[101]⟩ j3 hj3
        have hXs : X.size = 1 := by rcases hXX with rfl | rfl | rfl <;> rfl
        have y1 : (S ++ ⟨#[32, 108, 97, 98, 101, 108, 32]⟩).size ≤ 400000000000000 := by rw [ByteArray.size_append]; show _ + 7 ≤ _; have := HS.out; omega
        have B1 := addg S ⟨#[32, 108, 97, 98, 101, 108, 32]⟩ (by show _ + 7 ≤ _; have := HS.out; omega)
        have B2 := addg (S ++ ⟨#[32, 108, 97, 98, 101, 108, 32]⟩) X (by omega)
        clear y1
        have HNS : Hid (((S ++ ⟨#[32, 108, 97, 98, 101, 108, 32]⟩) ++ X).size ≤ 3 + 12 * (k + 1)) := by show _ ≤ _; rw [ByteArray.size_append, ByteArray.size_append, hXs]; show _ + 7 + 1 ≤ _; have := HS.out; omega
        clear hP3 hXX hXs
        go_wp2_with fail
        refine (PK3.out _).mono ?_
        rintro e w5 ⟨rfl, rfl⟩
        go_wp2_with fail
        go_roundw
        case rel => exact ⟨k + 1, _, op, rfl, rfl, by go_num, by omega, HO.out, HNS.out, HKW⟩
        case measure => simp [intOf]; omega
      have g6 : decide ((p : Int) < 6) = false := decide_eq_false (by omega)
      by_cases p8 : p < 8
      · have f8 : (p : Int) < 8 := by omega
        by_cases o5 : op < 5
        · obtain ⟨j2, hj2, -, hP2⟩ := pick_nat (x.tdiv 10) 2 (by omega) (by omega)
          have PK2 : Hid (∀ W, Calls Try.prog 16 #[.int .i64 (x.tdiv 10), .int .i64 2] W fun e w' => e = .returned (.int .i64 (j2 : Int)) ∧ w' = W) := hP2
          obtain ⟨X, hXX, hX⟩ := index_two ⟨#[32, 105, 102, 32, 49, 32, 123]⟩ ⟨#[32, 114, 101, 112, 101, 97, 116, 32, 50, 32, 123]⟩ j2 hj2
          have hXs : X.size ≤ 11 := by rcases hXX with rfl | rfl <;> decide
          have B1 := addg S X (by have := HS.out; omega)
          have HNS : Hid ((S ++ X).size ≤ 3 + 12 * (k + 1)) := by show _ ≤ _; rw [ByteArray.size_append]; have := HS.out; omega
          have hwo : IntKind.i64.wrap (op + 1) = op + 1 := by rw [IntKind.wrap_i64]; have := HO.out; omega
          have HO2 : Hid (0 ≤ op + 1 ∧ op + 1 ≤ 5) := by have := HO.out; exact ⟨by omega, by omega⟩
          clear hP2 hXX hXs
          go_wp2_with fail
          refine (PK2.out _).mono ?_
          rintro e w5 ⟨rfl, rfl⟩
          go_wp2_with fail
          go_roundw
          case rel => exact ⟨k + 1, _, op + 1, rfl, rfl, by go_num, by omega, HO2.out, HNS.out, HKW⟩
          case measure => simp [intOf]; omega
        · have o5' : decide (op < 5) = false := decide_eq_false o5
          go_wp2_with fail
          go_roundw
          case rel => exact ⟨k + 1, S, op, rfl, rfl, by go_num, by omega, HO.out, by have := HS.out; omega, HKW⟩
          case measure => simp [intOf]; omega
      have g8 : decide ((p : Int) < 8) = false := decide_eq_false (by omega)
      by_cases e8 : p = 8
      · subst e8
        by_cases o0 : 0 < op
        · have hwo : IntKind.i64.wrap (op - 1) = op - 1 := by rw [IntKind.wrap_i64]; have := HO.out; omega
          have HO2 : Hid (0 ≤ op - 1 ∧ op - 1 ≤ 5) := by have := HO.out; exact ⟨by omega, by omega⟩
          have B1 := addg S ⟨#[125]⟩ (by show _ + 1 ≤ _; have := HS.out; omega)
          have HNS : Hid ((S ++ ⟨#[125]⟩).size ≤ 3 + 12 * (k + 1)) := by show _ ≤ _; rw [ByteArray.size_append]; show _ + 1 ≤ _; have := HS.out; omega
          go_wp2_with fail
          go_roundw
          case rel => exact ⟨k + 1, _, op - 1, rfl, rfl, by go_num, by omega, HO2.out, HNS.out, HKW⟩
          case measure => simp [intOf]; omega
        · have o0' : decide (0 < op) = false := decide_eq_false o0
          go_wp2_with fail
          go_roundw
          case rel => exact ⟨k + 1, S, op, rfl, rfl, by go_num, by omega, HO.out, by have := HS.out; omega, HKW⟩
          case measure => simp [intOf]; omega
      have e9 : p = 9 := by omega
      subst e9
      by_cases o0 : op = 0
      · subst o0
        have B1 := addg S ⟨#[125, 32, 103, 111, 32, 123]⟩ (by show _ + 6 ≤ _; have := HS.out; omega)
        have HNS : Hid ((S ++ ⟨#[125, 32, 103, 111, 32, 123]⟩).size ≤ 3 + 12 * (k + 1)) := by show _ ≤ _; rw [ByteArray.size_append]; show _ + 6 ≤ _; have := HS.out; omega
        go_wp2_with fail
        go_roundw
        case rel => exact ⟨k + 1, _, 0, rfl, rfl, by go_num, by omega, ⟨by decide, by decide⟩, HNS.out, HKW⟩
        case measure => simp [intOf]; omega
      · have o0' : (op == 0) = false := by simpa using o0
        go_wp2_with fail
        go_roundw
        case rel => exact ⟨k + 1, S, op, rfl, rfl, by go_num, by omega, HO.out, by have := HS.out; omega, HKW⟩
        case measure => simp [intOf]; omega
    · have hki : ¬ (k : Int) < (l.length : Int) := by omega
      clear hlt hk
      have HS2 : Hid (S.size ≤ 3 + 12 * 17592186044416) := by have := HS.out; show _ ≤ _; omega
      go_wp2_with fail
      go_loopw [3, 4] (fun sv ov wq => ∃ (S2 : ByteArray) (o2 : Int), sv = .string S2 ∧ ov = .int .i64 o2 ∧ (-1 ≤ o2 ∧ o2 ≤ 5) ∧ (S2.size : Int) ≤ 300000000000000 - o2 ∧ Hid (Kept (Wz w) wq)) (fun _ ov _ => (intOf ov + 1).toNat)
      case atStart => exact ⟨S, op, rfl, rfl, by have := HO.out; omega, by have := HS2.out; have := HO.out; omega, HKW⟩
      case round =>
        obtain ⟨S2, o2, rfl, rfl, ho2, hs2, HKQ⟩ := hrel
        have HO2 : Hid (-1 ≤ o2 ∧ o2 ≤ 5) := ho2
        have HS3 : Hid ((S2.size : Int) ≤ 300000000000000 - o2) := hs2
        clear ho2 hs2
        by_cases hge : 0 ≤ o2
        · have B1 := addg S2 ⟨#[125]⟩ (by show _ + 1 ≤ _; have := HS3.out; have := HO2.out; omega)
          have HNS : Hid (((S2 ++ ⟨#[125]⟩).size : Int) ≤ 300000000000000 - (o2 - 1)) := by show _ ≤ _; rw [ByteArray.size_append]; have h1 := HS3.out; show ((S2.size + 1 : Nat) : Int) ≤ _; omega
          have hwo : IntKind.i64.wrap (o2 - 1) = o2 - 1 := by rw [IntKind.wrap_i64]; have := HO2.out; omega
          go_wp2_with fail
          go_roundw
          case rel => exact ⟨_, o2 - 1, rfl, rfl, by have := HO2.out; omega, HNS.out, HKQ⟩
          case measure => simp [intOf]; omega
        · have hge' : ¬ 0 ≤ o2 := hge
          have RD : Hid _ := HR.out S2 (by have := HS3.out; have := HO2.out; omega) wr
          have HB9 : Hid (BoxS wr w.heap.size [.slice none 0 0, .slice none 0 0]) := (Wz_box w).kept HKQ
          clear HO HS HS2 hki
          go_wp2_with fail
          refine Calls.mono RD.out ?_
          rintro e w1 ⟨d, t, a1, n1, q1, a2, n2, q2, rfl, H⟩
          have hbx := HB9.out.kept H.out.kept
          have HBX : Hid (BoxS w1 w.heap.size [.slice none 0 0, .slice none 0 0]) := hbx
          have s0 := hbx.cell 0 rfl
          have s1 := hbx.cell 1 rfl
          have sf0 := hbx.fz 0
          have sf1 := hbx.fz 1
          have hrl := hbx.lt
          clear hbx
          go_wp2_with fail
          obtain ⟨Wf, hWf⟩ : ∃ Wf, (w1.setCell ⟨w.heap.size, 0, none⟩ (.slice a1 n1 q1)).setCell ⟨w.heap.size, 1, none⟩ (.slice a2 n2 q2) = Wf := ⟨_, rfl⟩
          have hzw : (Wz w).heap.size = w.heap.size + 1 := Wz_size w
          have hzr := HKQ.out.size
          have st : StaysD (Rng wr.heap.size w1.heap.size) w1 Wf := fun j hj => by
            rw [← hWf]
            have hne : j ≠ w.heap.size := by have := hj.1; omega
            exact (heap_setCells w.heap.size [_] 1 _ j hne).trans (heap_setCells w.heap.size [_] 0 w1 j hne)
          have hs2 : Wf.heap.size = w1.heap.size := by rw [← hWf, setCell_size, setCell_size]
          have hkf : Kept w Wf := by
            rw [← hWf]
            exact Below.setCell (Below.setCell (((Wz_kept w).then HKQ.out).then H.out.kept) (Nat.le_refl _) _) (Nat.le_refl _) _
          have hrg : Wf.rangeAt w.heap.size 0 [.slice a1 n1 q1, .slice a2 n2 q2] := by
            have h2 : BoxS Wf w.heap.size [.slice a1 n1 q1, .slice a2 n2 q2] := by
              rw [← hWf]
              have h0 := HBX.out.set 0 [.slice a1 n1 q1] (by simp)
              exact h0.set 1 [.slice a2 n2 q2] (by simp)
            exact h2.rng
          have hfin : ∃ (d : List Dc) (t : List (List St)) (b1 : Option Addr) (m1 p1 : Nat) (b2 : Option Addr) (m2 p2 : Nat), Ending.returned (.agg #[.slice a1 n1 q1, .slice a2 n2 q2]) = .returned (.agg #[.slice b1 m1 p1, .slice b2 m2 p2]) ∧ Hid (RdP w Wf d t (.slice b1 m1 p1) (.slice b2 m2 p2)) :=
            ⟨d, t, a1, n1, q1, a2, n2, q2, rfl, hkf, (H.out.ds.stays st).mono fun j hj => ⟨by have := hj.1; omega, by rw [hs2]; exact hj.2⟩, (H.out.ts.stays st).mono fun j hj => ⟨by have := hj.1; omega, by rw [hs2]; exact hj.2⟩, H.out.sz, H.out.nm, H.out.num, H.out.ok⟩
          rw [← hWf] at hfin hrg
          exact bodyPost_ret (results_cell_mid (P := Try.prog) Try.results8 _ _ w.heap.size 0 [.slice a1 n1 q1, .slice a2 n2 q2] _ rfl hrg Try.underlying27 rfl esizePr) rfl hfin
end Go.Proofs.Ytnfkjmafhaecgaa
