/- Ln -/
import Derived.Test.YtbfikeegacapjaaWSwA
import Derived.Test.YtbfikeegacapjaaWPlB
import Derived.Test.YtbfikeegacapjaaWBs
import Derived.Deep.RegionHeld3
import Derived.Deep.CutBlock
import Derived.Deep.DeepCutAuto

namespace Go.Proofs.Ytbfikeegacapjaa
open Go.RowKit
attribute [local go_sem] run_store_complex
def PLn (e : Nat) : Prop := ∀ (l : List St), (∀ s ∈ l, Ps.Gd e s) → ∀ (w : World) (v : Value) (d : Nat), StsIn w 0 w.heap.size l v → d + e ≤ 20 → (Ps.texts l d).length ≤ 10000 →
  Calls Try.prog 28 #[v, .int .i64 (d : Int)] w fun r w' => r = .returned (.string (Px.ba (Ps.texts l d))) ∧ Kept w w'
def lineOf (s : St) (d : Nat) : List UInt8 := Ps.line s.kind s.name s.other s.n s.e d (Ps.texts s.body (d + 1)) (Ps.some' s.els (Ps.texts s.els (d + 1)))
theorem text_lineOf (s : St) (d : Nat) : Ps.text s d = Ps.tabs d ++ (lineOf s d ++ [10]) := by cases s; rw [Ps.text]; rfl
theorem texts_take (l : List St) (d k : Nat) (h : k < l.length) : Ps.texts (l.take (k + 1)) d = Ps.texts (l.take k) d ++ (Ps.tabs d ++ (lineOf l[k] d ++ [10])) := by
  rw [List.take_succ_eq_append_getElem h, Ps.texts_append, Ps.texts, text_lineOf, Ps.texts, List.append_nil]
theorem texts_take_le (l : List St) (d k : Nat) : (Ps.texts (l.take k) d).length ≤ (Ps.texts l d).length := by
  have := Ps.texts_append (l.take k) (l.drop k) d
  rw [List.take_append_drop] at this
  rw [this, List.length_append]; omega
theorem T_one (x : Ex) : Px.T x 1 = Px.tb x := by
  show Px.tpw _ _ _ = _
  unfold Px.tpw
  rw [if_neg (by have := Px.rnk_pos x.kind; omega)]
theorem addf (S T : ByteArray) (h : S.size + T.size ≤ 1000000) : Fits S T := by unfold Fits; omega
theorem show_at {x : Ex} (hx : Ps.GE x) {wr : World} {hi : Nat} {a1 : Option Addr} {n1 q1 : Nat} (hh : hi ≤ wr.heap.size) (h : ExsIn wr 0 hi x.of (.slice a1 n1 q1)) :
    ∀ W, Kept wr W → Calls Try.prog 49 #[.agg #[.int .i64 x.kind, .int .i64 x.n, .string x.name, .slice a1 n1 q1]] W fun r w' => r = .returned (.string (Px.ba (Px.tb x))) ∧ Kept W w' := fun W hW => by
  have hl := hx.len
  rw [T_one] at hl
  exact show_any x hx.wf W _ (h.up hh hW) (by omega)
attribute [local go_sem ↓] add_fit
set_option maxRecDepth 100000 in
set_option maxHeartbeats 4000000 in
theorem lines_of (e : Nat) (H : ∀ f, f < e → PLn f) : PLn e := by
  intro l hg w v d hv hd hlen
  have HA : Hid _ := hv
  have HG : Hid (∀ s ∈ l, Ps.Gd e s) := hg
  have HH : Hid (∀ f, f < e → PLn f) := H
  have TB : Hid (∀ w, Calls Try.prog 48 #[.int .i64 (d : Int)] w fun r w' => r = .returned (.string (tabsB d)) ∧ w' = w) := tabs_any d (by omega)
  obtain ⟨a, cap, rfl, hl1, hl2, hcap⟩ := hv.open
  have hts : (tabsB d).size ≤ 20 := by rw [tabsB_size]; omega
  have HTB : Hid (tabsB d = Px.ba (Ps.tabs d)) := rfl
  generalize tabsB d = TD at *
  clear hg H hv
  go_enter Try.func28, Try.ntmps28
  go_wp2_with fail
  refine (TB.out _).mono ?_
  rintro r w' ⟨rfl, rfl⟩
  clear TB
  go_wp2_with fail
  go_loopw [5, 7] (fun out i wr => ∃ k : Nat, k ≤ l.length ∧ i = .int .i64 (k : Int) ∧ out = .string (Px.ba (Ps.texts (l.take k) d)) ∧ Hid (Kept w' wr)) (fun _ i _ => l.length - (intOf i).toNat)
  case atStart => exact ⟨0, Nat.zero_le _, rfl, rfl, Kept.refl _⟩
  case round =>
    obtain ⟨k, hk, rfl, rfl, HB⟩ := hrel
    by_cases hlt : k < l.length
    · have hki : (k : Int) < (l.length : Int) := by omega
      obtain ⟨b, o, a1, n1, q1, a2, n2, q2, a3, n3, q3, rfl, _, hb, _, c0, c1, c2, c3, c4, c5, c6, c7, c8, c9, c10, k1, k2, k3⟩ := HA.out.item (HB.out.stays (Nat.le_refl _)) k hlt
      have hz := HB.out.size
      have hzb : b < wr.heap.size := by omega
      have HK3 : Hid _ := And.intro k1 (And.intro k2 k3)
      have HGk : Hid (Ps.Gd e l[k]) := HG.out _ (List.getElem_mem hlt)
      have HTX : Hid (Ps.texts (l.take (k + 1)) d = Ps.texts (l.take k) d ++ (Ps.tabs d ++ (lineOf l[k] d ++ [10]))) := texts_take l d k hlt
      have hln := texts_take_le l d (k + 1)
      rw [HTX.out] at hln
      simp only [List.length_append] at hln
      obtain ⟨s, hs⟩ : ∃ s, l[k] = s := ⟨_, rfl⟩
      rw [hs] at c0 c1 c2 c3 c4 c5 c6 c10 HK3 HGk HTX hln
      clear k1 k2 k3 hs
      go_upto_block 2 with fail
      go_cut [9] from 24 to 127 (fun line wc => line = .string (Px.ba (lineOf s d)) ∧ Hid (Kept wr wc))
      case first =>
        have HGg := HGk.out
        cases HGg with
        | word _ kd nm p q hkd ha =>
          have hnl : nm.length ≤ 12 := Ps.nm_len ha
          have c1 : wr.cell? ⟨b, o + k * 11 + 1, none⟩ = some (.string (Px.ba nm)) := c1
          rcases hkd with rfl | rfl | rfl | rfl
          · have c0 : wr.cell? ⟨b, o + k * 11, none⟩ = some (.int .i64 2) := c0
            have HE : Hid ((⟨#[108, 111, 99, 107, 32]⟩ : ByteArray) ++ Px.ba nm = Px.ba (lineOf (.mk 2 (Px.ba nm) Px.e0 0 ex0 [] [] p q) d)) := by
              show _ = _
              rw [show (⟨#[108, 111, 99, 107, 32]⟩ : ByteArray) = Px.ba [108, 111, 99, 107, 32] from rfl, Px.ba_app]
              rfl
            have hz2 : (Px.ba nm).size ≤ 10000 := by rw [Px.ba_size]; omega
            clear HTX hln
            simp only [St.kind, St.name, St.other, St.n, St.e, St.re, St.im]
            generalize Px.ba nm = S at *
            have B1 := addf ⟨#[108, 111, 99, 107, 32]⟩ S (by show 5 + _ ≤ _; omega)
            go_wp2_with fail
            go_meet
            case rel => exact ⟨by rw [← HE.out], (Kept.refl _).al _⟩
          · have c0 : wr.cell? ⟨b, o + k * 11, none⟩ = some (.int .i64 3) := c0
            have HE : Hid ((⟨#[117, 110, 108, 111, 99, 107, 32]⟩ : ByteArray) ++ Px.ba nm = Px.ba (lineOf (.mk 3 (Px.ba nm) Px.e0 0 ex0 [] [] p q) d)) := by
              show _ = _
              rw [show (⟨#[117, 110, 108, 111, 99, 107, 32]⟩ : ByteArray) = Px.ba [117, 110, 108, 111, 99, 107, 32] from rfl, Px.ba_app]
              rfl
            have hz2 : (Px.ba nm).size ≤ 10000 := by rw [Px.ba_size]; omega
            clear HTX hln
            simp only [St.kind, St.name, St.other, St.n, St.e, St.re, St.im]
            generalize Px.ba nm = S at *
            have B1 := addf ⟨#[117, 110, 108, 111, 99, 107, 32]⟩ S (by show 7 + _ ≤ _; omega)
            go_wp2_with fail
            go_meet
            case rel => exact ⟨by rw [← HE.out], (Kept.refl _).al _⟩
          · have c0 : wr.cell? ⟨b, o + k * 11, none⟩ = some (.int .i64 9) := c0
            have HE : Hid ((⟨#[103, 111, 116, 111, 32]⟩ : ByteArray) ++ Px.ba nm = Px.ba (lineOf (.mk 9 (Px.ba nm) Px.e0 0 ex0 [] [] p q) d)) := by
              show _ = _
              rw [show (⟨#[103, 111, 116, 111, 32]⟩ : ByteArray) = Px.ba [103, 111, 116, 111, 32] from rfl, Px.ba_app]
              rfl
            have hz2 : (Px.ba nm).size ≤ 10000 := by rw [Px.ba_size]; omega
            clear HTX hln
            simp only [St.kind, St.name, St.other, St.n, St.e, St.re, St.im]
            generalize Px.ba nm = S at *
            have B1 := addf ⟨#[103, 111, 116, 111, 32]⟩ S (by show 5 + _ ≤ _; omega)
            go_wp2_with fail
            go_meet
            case rel => exact ⟨by rw [← HE.out], (Kept.refl _).al _⟩
          · have c0 : wr.cell? ⟨b, o + k * 11, none⟩ = some (.int .i64 10) := c0
            have HE : Hid ((⟨#[108, 97, 98, 101, 108, 32]⟩ : ByteArray) ++ Px.ba nm = Px.ba (lineOf (.mk 10 (Px.ba nm) Px.e0 0 ex0 [] [] p q) d)) := by
              show _ = _
              rw [show (⟨#[108, 97, 98, 101, 108, 32]⟩ : ByteArray) = Px.ba [108, 97, 98, 101, 108, 32] from rfl, Px.ba_app]
              rfl
            have hz2 : (Px.ba nm).size ≤ 10000 := by rw [Px.ba_size]; omega
            clear HTX hln
            simp only [St.kind, St.name, St.other, St.n, St.e, St.re, St.im]
            generalize Px.ba nm = S at *
            have B1 := addf ⟨#[108, 97, 98, 101, 108, 32]⟩ S (by show 6 + _ ≤ _; omega)
            go_wp2_with fail
            go_meet
            case rel => exact ⟨by rw [← HE.out], (Kept.refl _).al _⟩
        | recv _ nm om p q ha hb' =>
          have hnl : nm.length ≤ 12 := Ps.nm_len ha
          have hol : om.length ≤ 12 := Ps.nm_len hb'
          have HE : Hid ((((⟨#[114, 101, 99, 118, 32]⟩ : ByteArray) ++ Px.ba nm) ++ ⟨#[32]⟩) ++ Px.ba om = Px.ba (lineOf (.mk 5 (Px.ba nm) (Px.ba om) 0 ex0 [] [] p q) d)) := by
            show _ = _
            rw [show (⟨#[114, 101, 99, 118, 32]⟩ : ByteArray) = Px.ba [114, 101, 99, 118, 32] from rfl, show (⟨#[32]⟩ : ByteArray) = Px.ba [32] from rfl, Px.ba_app, Px.ba_app, Px.ba_app]
            rfl
          have hz2 : (Px.ba nm).size ≤ 10000 := by rw [Px.ba_size]; omega
          have hz3 : (Px.ba om).size ≤ 10000 := by rw [Px.ba_size]; omega
          clear HTX hln
          simp only [St.kind, St.name, St.other, St.n, St.e, St.re, St.im]
          generalize Px.ba nm = S at *
          generalize Px.ba om = T at *
          have z1 : ((⟨#[114, 101, 99, 118, 32]⟩ : ByteArray) ++ S).size ≤ 10005 := by rw [ByteArray.size_append]; show 5 + _ ≤ _; omega
          have z2 : (((⟨#[114, 101, 99, 118, 32]⟩ : ByteArray) ++ S) ++ ⟨#[32]⟩).size ≤ 10006 := by rw [ByteArray.size_append]; show _ + 1 ≤ _; omega
          have B1 := addf ⟨#[114, 101, 99, 118, 32]⟩ S (by show 5 + _ ≤ _; omega)
          have B2 := addf (⟨#[114, 101, 99, 118, 32]⟩ ++ S) ⟨#[32]⟩ (by show _ + 1 ≤ _; omega)
          have B3 := addf ((⟨#[114, 101, 99, 118, 32]⟩ ++ S) ++ ⟨#[32]⟩) T (by omega)
          clear z1 z2
          go_wp2_with fail
          go_meet
          case rel => exact ⟨by rw [← HE.out], (Kept.refl _).al _⟩
        | assign _ nm x p q ha hx =>
          have HX : Hid _ := show_at hx hz HK3.out.1
          have hxl : (Px.ba (Px.tb x)).size ≤ 42 := by rw [Px.ba_size, ← T_one]; exact hx.len
          have hnl : (Px.ba nm).size ≤ 12 := by rw [Px.ba_size]; exact Ps.nm_len ha
          have HE : Hid ((Px.ba nm ++ ⟨#[32, 61, 32]⟩) ++ Px.ba (Px.tb x) = Px.ba (lineOf (.mk 1 (Px.ba nm) Px.e0 0 x [] [] p q) d)) := by
            show _ = _
            have e1 : lineOf (.mk 1 (Px.ba nm) Px.e0 0 x [] [] p q) d = nm ++ [32, 61, 32] ++ Px.tb x := by rw [← T_one]; rfl
            rw [e1, show (⟨#[32, 61, 32]⟩ : ByteArray) = Px.ba [32, 61, 32] from rfl, Px.ba_app, Px.ba_app]
          clear HTX hln
          simp only [St.kind, St.name, St.other, St.n, St.e, St.re, St.im]
          generalize Px.ba (Px.tb x) = R at *
          generalize Px.ba nm = S at *
          have g0 : ∀ S : ByteArray, S.size ≤ 100 → True := fun _ _ => trivial
          go_wp2_with fail
          obtain ⟨W1, hW1⟩ : ∃ W1, wr.alloc (.cells #[.int .i64 1, .string S, .string Px.e0, .int .i64 0, .int .i64 x.kind, .int .i64 x.n, .string x.name, .slice a1 n1 q1, .slice a2 n2 q2, .slice a3 n3 q3, .complex .f64 p q] 55) = W1 := ⟨_, rfl⟩
          have KW : Hid (Kept wr W1) := by rw [← hW1]; exact (Kept.refl _).al _
          have e1 : W1.cell? ⟨wr.heap.size, 1, none⟩ = some (.string S) := by rw [← hW1]; simp
          have e4 : W1.cell? ⟨wr.heap.size, 4, none⟩ = some (.int .i64 x.kind) := by rw [← hW1]; simp
          have e5 : W1.cell? ⟨wr.heap.size, 5, none⟩ = some (.int .i64 x.n) := by rw [← hW1]; simp
          have e6 : W1.cell? ⟨wr.heap.size, 6, none⟩ = some (.string x.name) := by rw [← hW1]; simp
          have e7 : W1.cell? ⟨wr.heap.size, 7, none⟩ = some (.slice a1 n1 q1) := by rw [← hW1]; simp
          rw [hW1]
          clear hW1 c0 c1 c2 c3 c4 c5 c6 c7 c8 c9 c10
          have y1 : (S ++ ⟨#[32, 61, 32]⟩).size ≤ 15 := by rw [ByteArray.size_append]; show _ + 3 ≤ _; omega
          have B1 := addf S ⟨#[32, 61, 32]⟩ (by show _ + 3 ≤ _; omega)
          have B2 := addf (S ++ ⟨#[32, 61, 32]⟩) R (by omega)
          clear y1
          go_region_held3 (fun w' => Hid (Kept W1 w') ∧ w'.cell? ⟨wr.heap.size, 1, none⟩ = some (.string S) ∧ w'.cell? ⟨wr.heap.size, 4, none⟩ = some (.int .i64 x.kind) ∧ w'.cell? ⟨wr.heap.size, 5, none⟩ = some (.int .i64 x.n) ∧ w'.cell? ⟨wr.heap.size, 6, none⟩ = some (.string x.name) ∧ w'.cell? ⟨wr.heap.size, 7, none⟩ = some (.slice a1 n1 q1))
            ((first | (have KK : Kept W1 _ := ((Kept.refl W1).dr).then kw; exact ⟨KK, KK.cellS e1, KK.cellS e4, KK.cellS e5, KK.cellS e6, KK.cellS e7⟩) | (have KK : Kept W1 _ := (Kept.refl W1).dr; exact ⟨KK, KK.cellS e1, KK.cellS e4, KK.cellS e5, KK.cellS e6, KK.cellS e7⟩)))
            ((go_at_call 49; refine (HX.out _ (KW.out.then (Kept.refl W1).dr)).mono ?_; rintro r w3 ⟨rfl, kw⟩))
          rename_i hH
          clear hH
          have KF : Hid (Kept wr w3) := KW.out.then (((Kept.refl W1).dr).then kw)
          clear kw e1 e4 e5 e6 e7
          go_wp2_with fail
          go_meet
          case rel => exact ⟨by rw [← HE.out], KF.out⟩
        | send _ nm x p q ha hx =>
          have HX : Hid _ := show_at hx hz HK3.out.1
          have hxl : (Px.ba (Px.tb x)).size ≤ 42 := by rw [Px.ba_size, ← T_one]; exact hx.len
          have hnl : (Px.ba nm).size ≤ 12 := by rw [Px.ba_size]; exact Ps.nm_len ha
          have HE : Hid ((((⟨#[115, 101, 110, 100, 32]⟩ : ByteArray) ++ Px.ba nm) ++ ⟨#[32]⟩) ++ Px.ba (Px.tb x) = Px.ba (lineOf (.mk 4 (Px.ba nm) Px.e0 0 x [] [] p q) d)) := by
            show _ = _
            have e1 : lineOf (.mk 4 (Px.ba nm) Px.e0 0 x [] [] p q) d = [115, 101, 110, 100, 32] ++ nm ++ [32] ++ Px.tb x := by rw [← T_one]; rfl
            rw [e1, show (⟨#[115, 101, 110, 100, 32]⟩ : ByteArray) = Px.ba [115, 101, 110, 100, 32] from rfl, show (⟨#[32]⟩ : ByteArray) = Px.ba [32] from rfl, Px.ba_app, Px.ba_app, Px.ba_app]
          clear HTX hln
          simp only [St.kind, St.name, St.other, St.n, St.e, St.re, St.im]
          generalize Px.ba (Px.tb x) = R at *
          generalize Px.ba nm = S at *
          have g0 : ∀ S : ByteArray, S.size ≤ 100 → True := fun _ _ => trivial
          go_wp2_with fail
          obtain ⟨W1, hW1⟩ : ∃ W1, wr.alloc (.cells #[.int .i64 4, .string S, .string Px.e0, .int .i64 0, .int .i64 x.kind, .int .i64 x.n, .string x.name, .slice a1 n1 q1, .slice a2 n2 q2, .slice a3 n3 q3, .complex .f64 p q] 55) = W1 := ⟨_, rfl⟩
          have KW : Hid (Kept wr W1) := by rw [← hW1]; exact (Kept.refl _).al _
          have e1 : W1.cell? ⟨wr.heap.size, 1, none⟩ = some (.string S) := by rw [← hW1]; simp
          have e4 : W1.cell? ⟨wr.heap.size, 4, none⟩ = some (.int .i64 x.kind) := by rw [← hW1]; simp
          have e5 : W1.cell? ⟨wr.heap.size, 5, none⟩ = some (.int .i64 x.n) := by rw [← hW1]; simp
          have e6 : W1.cell? ⟨wr.heap.size, 6, none⟩ = some (.string x.name) := by rw [← hW1]; simp
          have e7 : W1.cell? ⟨wr.heap.size, 7, none⟩ = some (.slice a1 n1 q1) := by rw [← hW1]; simp
          rw [hW1]
          clear hW1 c0 c1 c2 c3 c4 c5 c6 c7 c8 c9 c10
          have y0 : ((⟨#[115, 101, 110, 100, 32]⟩ : ByteArray) ++ S).size ≤ 17 := by rw [ByteArray.size_append]; show 5 + _ ≤ _; omega
          have y1 : (((⟨#[115, 101, 110, 100, 32]⟩ : ByteArray) ++ S) ++ ⟨#[32]⟩).size ≤ 18 := by rw [ByteArray.size_append]; show _ + 1 ≤ _; omega
          have B1 := addf ⟨#[115, 101, 110, 100, 32]⟩ S (by show 5 + _ ≤ _; omega)
          have B2 := addf (⟨#[115, 101, 110, 100, 32]⟩ ++ S) ⟨#[32]⟩ (by show _ + 1 ≤ _; omega)
          have B3 := addf ((⟨#[115, 101, 110, 100, 32]⟩ ++ S) ++ ⟨#[32]⟩) R (by omega)
          clear y0
          clear y1
          go_region_held3 (fun w' => Hid (Kept W1 w') ∧ w'.cell? ⟨wr.heap.size, 1, none⟩ = some (.string S) ∧ w'.cell? ⟨wr.heap.size, 4, none⟩ = some (.int .i64 x.kind) ∧ w'.cell? ⟨wr.heap.size, 5, none⟩ = some (.int .i64 x.n) ∧ w'.cell? ⟨wr.heap.size, 6, none⟩ = some (.string x.name) ∧ w'.cell? ⟨wr.heap.size, 7, none⟩ = some (.slice a1 n1 q1))
            ((first | (have KK : Kept W1 _ := ((Kept.refl W1).dr).then kw; exact ⟨KK, KK.cellS e1, KK.cellS e4, KK.cellS e5, KK.cellS e6, KK.cellS e7⟩) | (have KK : Kept W1 _ := (Kept.refl W1).dr; exact ⟨KK, KK.cellS e1, KK.cellS e4, KK.cellS e5, KK.cellS e6, KK.cellS e7⟩)))
            ((go_at_call 49; refine (HX.out _ (KW.out.then (Kept.refl W1).dr)).mono ?_; rintro r w3 ⟨rfl, kw⟩))
          rename_i hH
          clear hH
          have KF : Hid (Kept wr w3) := KW.out.then (((Kept.refl W1).dr).then kw)
          clear kw e1 e4 e5 e6 e7
          go_wp2_with fail
          go_meet
          case rel => exact ⟨by rw [← HE.out], KF.out⟩
        | print _ x p q hx =>
          have HX : Hid _ := show_at hx hz HK3.out.1
          have hxl : (Px.ba (Px.tb x)).size ≤ 42 := by rw [Px.ba_size, ← T_one]; exact hx.len
          have HE : Hid ((⟨#[112, 114, 105, 110, 116, 32]⟩ : ByteArray) ++ Px.ba (Px.tb x) = Px.ba (lineOf (.mk 6 Px.e0 Px.e0 0 x [] [] p q) d)) := by
            show _ = _
            have e1 : lineOf (.mk 6 Px.e0 Px.e0 0 x [] [] p q) d = [112, 114, 105, 110, 116, 32] ++ Px.tb x := by rw [← T_one]; rfl
            rw [e1, show (⟨#[112, 114, 105, 110, 116, 32]⟩ : ByteArray) = Px.ba [112, 114, 105, 110, 116, 32] from rfl, Px.ba_app]
          clear HTX hln
          simp only [St.kind, St.name, St.other, St.n, St.e, St.re, St.im]
          generalize Px.ba (Px.tb x) = R at *
          have g0 : ∀ S : ByteArray, S.size ≤ 100 → True := fun _ _ => trivial
          have B1 := addf ⟨#[112, 114, 105, 110, 116, 32]⟩ R (by show 6 + _ ≤ _; omega)
          go_wp2_with fail
          refine (HX.out _ ((Kept.refl _).al _)).mono ?_
          rintro r w3 ⟨rfl, kw⟩
          have KF : Hid (Kept wr w3) := ((Kept.refl _).al _).then kw
          clear kw
          go_wp2_with fail
          go_meet
          case rel => exact ⟨by rw [← HE.out], KF.out⟩
        | cond f x bb cc p q hx hb2 hc2 =>
          have HX : Hid _ := show_at hx hz HK3.out.1
          have hxl : (Px.ba (Px.tb x)).size ≤ 42 := by rw [Px.ba_size, ← T_one]; exact hx.len
          have eL : lineOf (.mk 7 Px.e0 Px.e0 0 x bb cc p q) d = [105, 102, 32] ++ Px.tb x ++ [32, 123, 10] ++ Ps.texts bb (d + 1) ++ Ps.tabs d ++ [125] ++ (match Ps.some' cc (Ps.texts cc (d + 1)) with
              | none => []
              | some c => [32, 101, 108, 115, 101, 32, 123, 10] ++ c ++ Ps.tabs d ++ [125]) := by rw [← T_one]; rfl
          have hn3 : Hid (n3 = cc.length) := by
            show n3 = cc.length
            obtain ⟨_, _, ee, _⟩ := HK3.out.2.2.open
            injection ee with _ ee _
          have hlB : (Ps.texts bb (d + 1)).length ≤ 10000 := by
            rw [eL] at hln
            simp only [List.length_append] at hln
            omega
          have LB : Hid (∀ W, Kept wr W → Calls Try.prog 28 #[.slice a2 n2 q2, .int .i64 ((d : Int) + 1)] W fun r w' => r = .returned (.string (Px.ba (Ps.texts bb (d + 1)))) ∧ Kept W w') := fun W hW => HH.out f (by omega) bb hb2 W _ (d + 1) (StsD.up HK3.out.2.1 hz hW) (by omega) hlB
          have hBs : (Px.ba (Ps.texts bb (d + 1))).size ≤ 10000 := by rw [Px.ba_size]; exact hlB
          have hwr : IntKind.i64.wrap ((d : Int) + 1) = (d : Int) + 1 := by rw [IntKind.wrap_i64]; omega
          have H1 : Hid (((((⟨#[105, 102, 32]⟩ : ByteArray) ++ Px.ba (Px.tb x)) ++ ⟨#[32, 123, 10]⟩) ++ Px.ba (Ps.texts bb (d + 1))) ++ TD ++ ⟨#[125]⟩ = Px.ba ([105, 102, 32] ++ Px.tb x ++ [32, 123, 10] ++ Ps.texts bb (d + 1) ++ Ps.tabs d ++ [125])) := by
            show _ = _
            rw [HTB.out, show (⟨#[105, 102, 32]⟩ : ByteArray) = Px.ba [105, 102, 32] from rfl, show (⟨#[32, 123, 10]⟩ : ByteArray) = Px.ba [32, 123, 10] from rfl, show (⟨#[125]⟩ : ByteArray) = Px.ba [125] from rfl, Px.ba_app, Px.ba_app, Px.ba_app, Px.ba_app, Px.ba_app]
          have HCC : Hid ((cc = [] ∧ Px.ba (lineOf (.mk 7 Px.e0 Px.e0 0 x bb cc p q) d) = Px.ba ([105, 102, 32] ++ Px.tb x ++ [32, 123, 10] ++ Ps.texts bb (d + 1) ++ Ps.tabs d ++ [125])) ∨ (cc ≠ [] ∧ (Ps.texts cc (d + 1)).length ≤ 10000 ∧ Px.ba (lineOf (.mk 7 Px.e0 Px.e0 0 x bb cc p q) d) = (((Px.ba ([105, 102, 32] ++ Px.tb x ++ [32, 123, 10] ++ Ps.texts bb (d + 1) ++ Ps.tabs d ++ [125]) ++ ⟨#[32, 101, 108, 115, 101, 32, 123, 10]⟩) ++ Px.ba (Ps.texts cc (d + 1))) ++ TD) ++ ⟨#[125]⟩)) := by
            cases hcc : cc with
            | nil => exact .inl ⟨rfl, by rw [← hcc, eL, hcc]; show Px.ba (_ ++ []) = _; rw [List.append_nil]⟩
            | cons c1 cs1 =>
              refine .inr ⟨by simp, ?_, ?_⟩
              · rw [eL, hcc] at hln
                have : Ps.some' (c1 :: cs1) (Ps.texts (c1 :: cs1) (d + 1)) = some (Ps.texts (c1 :: cs1) (d + 1)) := rfl
                rw [this] at hln
                simp only [List.length_append] at hln
                omega
              · rw [← hcc, eL, hcc]
                have : Ps.some' (c1 :: cs1) (Ps.texts (c1 :: cs1) (d + 1)) = some (Ps.texts (c1 :: cs1) (d + 1)) := rfl
                rw [this, HTB.out, show (⟨#[32, 101, 108, 115, 101, 32, 123, 10]⟩ : ByteArray) = Px.ba [32, 101, 108, 115, 101, 32, 123, 10] from rfl, show (⟨#[125]⟩ : ByteArray) = Px.ba [125] from rfl, Px.ba_app, Px.ba_app, Px.ba_app, Px.ba_app]
                congr 1
                simp
          clear HTX hln eL
          simp only [St.kind, St.name, St.other, St.n, St.e, St.re, St.im]
          go_wp2_with fail
          generalize Px.ba (Px.tb x) = R at *
          generalize Px.ba (Ps.texts bb (d + 1)) = BB at *
          obtain ⟨W1, hW1⟩ : ∃ W1, wr.alloc (.cells #[.int .i64 7, .string Px.e0, .string Px.e0, .int .i64 0, .int .i64 x.kind, .int .i64 x.n, .string x.name, .slice a1 n1 q1, .slice a2 n2 q2, .slice a3 n3 q3, .complex .f64 p q] 55) = W1 := ⟨_, rfl⟩
          have KW : Hid (Kept wr W1) := by rw [← hW1]; exact (Kept.refl _).al _
          have e4 : W1.cell? ⟨wr.heap.size, 4, none⟩ = some (.int .i64 x.kind) := by rw [← hW1]; simp
          have e5 : W1.cell? ⟨wr.heap.size, 5, none⟩ = some (.int .i64 x.n) := by rw [← hW1]; simp
          have e6 : W1.cell? ⟨wr.heap.size, 6, none⟩ = some (.string x.name) := by rw [← hW1]; simp
          have e7 : W1.cell? ⟨wr.heap.size, 7, none⟩ = some (.slice a1 n1 q1) := by rw [← hW1]; simp
          have e8 : W1.cell? ⟨wr.heap.size, 8, none⟩ = some (.slice a2 n2 q2) := by rw [← hW1]; simp
          have e9 : W1.cell? ⟨wr.heap.size, 9, none⟩ = some (.slice a3 n3 q3) := by rw [← hW1]; simp
          rw [hW1]
          have hzW : wr.heap.size < W1.heap.size := by rw [← hW1]; simp
          clear hW1 c0 c1 c2 c3 c4 c5 c6 c7 c8 c9 c10
          obtain ⟨L1, hL1⟩ : ∃ L1, Px.ba ([105, 102, 32] ++ Px.tb x ++ [32, 123, 10] ++ Ps.texts bb (d + 1) ++ Ps.tabs d ++ [125]) = L1 := ⟨_, rfl⟩
          rw [hL1] at H1 HCC
          have y1 : ((⟨#[105, 102, 32]⟩ : ByteArray) ++ R).size ≤ 45 := by rw [ByteArray.size_append]; show 3 + _ ≤ _; omega
          have y2 : (((⟨#[105, 102, 32]⟩ : ByteArray) ++ R) ++ ⟨#[32, 123, 10]⟩).size ≤ 48 := by rw [ByteArray.size_append]; show _ + 3 ≤ _; omega
          have y3 : ((((⟨#[105, 102, 32]⟩ : ByteArray) ++ R) ++ ⟨#[32, 123, 10]⟩) ++ BB).size ≤ 10048 := by rw [ByteArray.size_append]; omega
          have y4 : (((((⟨#[105, 102, 32]⟩ : ByteArray) ++ R) ++ ⟨#[32, 123, 10]⟩) ++ BB) ++ TD).size ≤ 10068 := by rw [ByteArray.size_append]; omega
          have B1 := addf ⟨#[105, 102, 32]⟩ R (by show 3 + _ ≤ _; omega)
          have B2 := addf (⟨#[105, 102, 32]⟩ ++ R) ⟨#[32, 123, 10]⟩ (by show _ + 3 ≤ _; omega)
          have B3 := addf ((⟨#[105, 102, 32]⟩ ++ R) ++ ⟨#[32, 123, 10]⟩) BB (by omega)
          have B4 := addf (((⟨#[105, 102, 32]⟩ ++ R) ++ ⟨#[32, 123, 10]⟩) ++ BB) TD (by omega)
          have B5 : Fits ((((⟨#[105, 102, 32]⟩ ++ R) ++ ⟨#[32, 123, 10]⟩) ++ BB) ++ TD) ⟨#[125]⟩ := addf _ _ (by show _ + 1 ≤ _; omega)
          have hsumL := H1.out
          have hL1s : L1.size ≤ 10069 := by rw [← H1.out, ByteArray.size_append]; show _ + 1 ≤ _; omega
          clear y1 y2 y3 y4 hL1
          go_region_held3 (fun w' => Hid (Kept W1 w') ∧ w'.cell? ⟨wr.heap.size, 4, none⟩ = some (.int .i64 x.kind) ∧ w'.cell? ⟨wr.heap.size, 5, none⟩ = some (.int .i64 x.n) ∧ w'.cell? ⟨wr.heap.size, 6, none⟩ = some (.string x.name) ∧ w'.cell? ⟨wr.heap.size, 7, none⟩ = some (.slice a1 n1 q1) ∧ w'.cell? ⟨wr.heap.size, 8, none⟩ = some (.slice a2 n2 q2) ∧ w'.cell? ⟨wr.heap.size, 9, none⟩ = some (.slice a3 n3 q3))
            ((first | (have KK : Kept W1 _ := (((Kept.refl W1).dr).then kw).then kw2; exact ⟨KK, KK.cellS e4, KK.cellS e5, KK.cellS e6, KK.cellS e7, KK.cellS e8, KK.cellS e9⟩) | (have KK : Kept W1 _ := ((Kept.refl W1).dr).then kw; exact ⟨KK, KK.cellS e4, KK.cellS e5, KK.cellS e6, KK.cellS e7, KK.cellS e8, KK.cellS e9⟩) | (have KK : Kept W1 _ := (Kept.refl W1).dr; exact ⟨KK, KK.cellS e4, KK.cellS e5, KK.cellS e6, KK.cellS e7, KK.cellS e8, KK.cellS e9⟩)))
            (first | (go_at_call 49; refine (HX.out _ (KW.out.then (Kept.refl W1).dr)).mono ?_; rintro r w3 ⟨rfl, kw⟩) | (go_at_call 28; refine (LB.out _ (KW.out.then (((Kept.refl W1).dr).then kw))).mono ?_; rintro r w4 ⟨rfl, kw2⟩))
          rename_i hH
          clear hH
          have KF : Hid (Kept wr w4) := KW.out.then ((((Kept.refl W1).dr).then kw).then kw2)
          have K14 : Kept W1 w4 := (((Kept.refl W1).dr).then kw).then kw2
          have e9 := K14.cellS e9
          have hz4 : wr.heap.size < w4.heap.size := Nat.lt_of_lt_of_le hzW K14.size
          clear kw kw2 e4 e5 e6 e7 e8 K14 B1 B2 B3 B4 B5
          rcases HCC.out with ⟨hce, hE⟩ | ⟨hcn, hcl, hE⟩
          · obtain rfl : n3 = 0 := by rw [hn3.out, hce]; rfl
            have HE : Hid _ := hE
            clear hce hE hn3
            go_wp2_with fail
            go_meet
            case rel => exact ⟨by rw [HE.out], KF.out⟩
          · have hn0 : (0 : Int) < (n3 : Int) := by
              have h1 : cc.length ≠ 0 := fun h => hcn (List.length_eq_zero_iff.1 h)
              have h2 := hn3.out
              omega
            have HE : Hid _ := hE
            have LC : Hid (∀ W, Kept wr W → Calls Try.prog 28 #[.slice a3 n3 q3, .int .i64 ((d : Int) + 1)] W fun r w' => r = .returned (.string (Px.ba (Ps.texts cc (d + 1)))) ∧ Kept W w') := fun W hW => HH.out f (by omega) cc hc2 W _ (d + 1) (StsD.up HK3.out.2.2 hz hW) (by omega) hcl
            have hCs : (Px.ba (Ps.texts cc (d + 1))).size ≤ 10000 := by rw [Px.ba_size]; exact hcl
            clear hcn hcl hE hn3
            generalize Px.ba (Ps.texts cc (d + 1)) = CC at *
            have y1 : (L1 ++ ⟨#[32, 101, 108, 115, 101, 32, 123, 10]⟩).size ≤ 10077 := by rw [ByteArray.size_append]; show _ + 8 ≤ _; omega
            have y2 : ((L1 ++ ⟨#[32, 101, 108, 115, 101, 32, 123, 10]⟩) ++ CC).size ≤ 20077 := by rw [ByteArray.size_append]; omega
            have y3 : (((L1 ++ ⟨#[32, 101, 108, 115, 101, 32, 123, 10]⟩) ++ CC) ++ TD).size ≤ 20097 := by rw [ByteArray.size_append]; omega
            have B1 := addf L1 ⟨#[32, 101, 108, 115, 101, 32, 123, 10]⟩ (by show _ + 8 ≤ _; omega)
            have B2 := addf (L1 ++ ⟨#[32, 101, 108, 115, 101, 32, 123, 10]⟩) CC (by omega)
            have B3 := addf ((L1 ++ ⟨#[32, 101, 108, 115, 101, 32, 123, 10]⟩) ++ CC) TD (by omega)
            have B4 := addf (((L1 ++ ⟨#[32, 101, 108, 115, 101, 32, 123, 10]⟩) ++ CC) ++ TD) ⟨#[125]⟩ (by show _ + 1 ≤ _; omega)
            clear y1 y2 y3
            go_wp2_with fail
            refine (LC.out _ KF.out).mono ?_
            rintro r w5 ⟨rfl, kw⟩
            have KF2 : Hid (Kept wr w5) := KF.out.then kw
            clear kw
            go_wp2_with fail
            go_meet
            case rel => exact ⟨by rw [HE.out], KF2.out⟩
        | rep f n bb p q hn hb2 =>
          have HD : Hid (∀ W, Calls Try.prog 27 #[.int .i64 (n : Int)] W fun r w' => r = .returned (.string (dig n)) ∧ Kept W w') := digits_any n (by omega)
          have eL : lineOf (.mk 8 Px.e0 Px.e0 (n : Int) ex0 bb [] p q) d = [114, 101, 112, 101, 97, 116, 32] ++ Lib.itoa (n : Int) ++ [32, 123, 10] ++ Ps.texts bb (d + 1) ++ Ps.tabs d ++ [125] := rfl
          have hlB : (Ps.texts bb (d + 1)).length ≤ 10000 := by
            rw [eL] at hln
            simp only [List.length_append] at hln
            omega
          have LB : Hid (∀ W, Kept wr W → Calls Try.prog 28 #[.slice a2 n2 q2, .int .i64 ((d : Int) + 1)] W fun r w' => r = .returned (.string (Px.ba (Ps.texts bb (d + 1)))) ∧ Kept W w') := fun W hW => HH.out f (by omega) bb hb2 W _ (d + 1) (StsD.up HK3.out.2.1 hz hW) (by omega) hlB
          have hBs : (Px.ba (Ps.texts bb (d + 1))).size ≤ 10000 := by rw [Px.ba_size]; exact hlB
          have hRs : (dig n).size ≤ 21 := dig_len n (by omega)
          have hwr : IntKind.i64.wrap ((d : Int) + 1) = (d : Int) + 1 := by rw [IntKind.wrap_i64]; omega
          have HE : Hid (((((⟨#[114, 101, 112, 101, 97, 116, 32]⟩ : ByteArray) ++ dig n) ++ ⟨#[32, 123, 10]⟩) ++ Px.ba (Ps.texts bb (d + 1))) ++ TD ++ ⟨#[125]⟩ = Px.ba (lineOf (.mk 8 Px.e0 Px.e0 (n : Int) ex0 bb [] p q) d)) := by
            show _ = _
            rw [eL, dig_itoa, HTB.out, show (⟨#[114, 101, 112, 101, 97, 116, 32]⟩ : ByteArray) = Px.ba [114, 101, 112, 101, 97, 116, 32] from rfl, show (⟨#[32, 123, 10]⟩ : ByteArray) = Px.ba [32, 123, 10] from rfl, show (⟨#[125]⟩ : ByteArray) = Px.ba [125] from rfl, Px.ba_app, Px.ba_app, Px.ba_app, Px.ba_app, Px.ba_app]
          clear HTX hln eL
          simp only [St.kind, St.name, St.other, St.n, St.e, St.re, St.im]
          generalize dig n = R at *
          generalize Px.ba (Ps.texts bb (d + 1)) = BB at *
          have hn0 : (0 : Int) ≤ (n : Int) := by omega
          go_wp2_with fail
          obtain ⟨W1, hW1⟩ : ∃ W1, wr.alloc (.cells #[.int .i64 8, .string Px.e0, .string Px.e0, .int .i64 (n : Int), .int .i64 ex0.kind, .int .i64 ex0.n, .string ex0.name, .slice a1 n1 q1, .slice a2 n2 q2, .slice a3 n3 q3, .complex .f64 p q] 55) = W1 := ⟨_, rfl⟩
          have KW : Hid (Kept wr W1) := by rw [← hW1]; exact (Kept.refl _).al _
          have e3 : W1.cell? ⟨wr.heap.size, 3, none⟩ = some (.int .i64 (n : Int)) := by rw [← hW1]; simp
          have e8 : W1.cell? ⟨wr.heap.size, 8, none⟩ = some (.slice a2 n2 q2) := by rw [← hW1]; simp
          rw [hW1]
          clear hW1 c0 c1 c2 c3 c4 c5 c6 c7 c8 c9 c10
          have y1 : ((⟨#[114, 101, 112, 101, 97, 116, 32]⟩ : ByteArray) ++ R).size ≤ 28 := by rw [ByteArray.size_append]; show 7 + _ ≤ _; omega
          have y2 : (((⟨#[114, 101, 112, 101, 97, 116, 32]⟩ : ByteArray) ++ R) ++ ⟨#[32, 123, 10]⟩).size ≤ 31 := by rw [ByteArray.size_append]; show _ + 3 ≤ _; omega
          have y3 : ((((⟨#[114, 101, 112, 101, 97, 116, 32]⟩ : ByteArray) ++ R) ++ ⟨#[32, 123, 10]⟩) ++ BB).size ≤ 10031 := by rw [ByteArray.size_append]; omega
          have y4 : (((((⟨#[114, 101, 112, 101, 97, 116, 32]⟩ : ByteArray) ++ R) ++ ⟨#[32, 123, 10]⟩) ++ BB) ++ TD).size ≤ 10051 := by rw [ByteArray.size_append]; omega
          have B1 := addf ⟨#[114, 101, 112, 101, 97, 116, 32]⟩ R (by show 7 + _ ≤ _; omega)
          have B2 := addf (⟨#[114, 101, 112, 101, 97, 116, 32]⟩ ++ R) ⟨#[32, 123, 10]⟩ (by show _ + 3 ≤ _; omega)
          have B3 := addf ((⟨#[114, 101, 112, 101, 97, 116, 32]⟩ ++ R) ++ ⟨#[32, 123, 10]⟩) BB (by omega)
          have B4 := addf (((⟨#[114, 101, 112, 101, 97, 116, 32]⟩ ++ R) ++ ⟨#[32, 123, 10]⟩) ++ BB) TD (by omega)
          have B5 := addf ((((⟨#[114, 101, 112, 101, 97, 116, 32]⟩ ++ R) ++ ⟨#[32, 123, 10]⟩) ++ BB) ++ TD) ⟨#[125]⟩ (by show _ + 1 ≤ _; omega)
          clear y1 y2 y3 y4
          go_region_held3 (fun w' => Hid (Kept W1 w') ∧ w'.cell? ⟨wr.heap.size, 3, none⟩ = some (.int .i64 (n : Int)) ∧ w'.cell? ⟨wr.heap.size, 8, none⟩ = some (.slice a2 n2 q2))
            ((first | (have KK : Kept W1 _ := (((Kept.refl W1).dr).then kw).then kw2; exact ⟨KK, KK.cellS e3, KK.cellS e8⟩) | (have KK : Kept W1 _ := ((Kept.refl W1).dr).then kw; exact ⟨KK, KK.cellS e3, KK.cellS e8⟩) | (have KK : Kept W1 _ := (Kept.refl W1).dr; exact ⟨KK, KK.cellS e3, KK.cellS e8⟩)))
            (first | (go_at_call 27; refine (HD.out _).mono ?_; rintro r w3 ⟨rfl, kw⟩) | (go_at_call 28; refine (LB.out _ (KW.out.then (((Kept.refl W1).dr).then kw))).mono ?_; rintro r w4 ⟨rfl, kw2⟩))
          rename_i hH
          clear hH
          have KF : Hid (Kept wr w4) := KW.out.then ((((Kept.refl W1).dr).then kw).then kw2)
          clear kw kw2 e3 e8
          go_wp2_with fail
          go_meet
          case rel => exact ⟨by rw [← HE.out], KF.out⟩
      case rest =>
        obtain ⟨rfl, HKC⟩ := hcut
        have hl1 : (lineOf s d).length ≤ 10000 := by omega
        have hl2 : (Ps.texts (l.take k) d).length ≤ 10000 := by omega
        have HE : Hid (((Px.ba (Ps.texts (l.take k) d) ++ TD) ++ Px.ba (lineOf s d)) ++ ⟨#[10]⟩ = Px.ba (Ps.texts (l.take (k + 1)) d)) := by
          show _ = _
          rw [HTX.out, HTB.out, show (⟨#[10]⟩ : ByteArray) = Px.ba [10] from rfl, Px.ba_app, Px.ba_app, Px.ba_app]
          congr 1
          simp
        have z1 : (Px.ba (Ps.texts (l.take k) d)).size ≤ 10000 := by rw [Px.ba_size]; exact hl2
        have z2 : (Px.ba (lineOf s d)).size ≤ 10000 := by rw [Px.ba_size]; exact hl1
        generalize Px.ba (Ps.texts (l.take k) d) = S1 at *
        generalize Px.ba (lineOf s d) = S2 at *
        have y1 : (S1 ++ TD).size ≤ 10020 := by rw [ByteArray.size_append]; omega
        have y2 : ((S1 ++ TD) ++ S2).size ≤ 20020 := by rw [ByteArray.size_append]; omega
        have B1 := addf S1 TD (by omega)
        have B2 := addf (S1 ++ TD) S2 (by omega)
        have B3 := addf ((S1 ++ TD) ++ S2) ⟨#[10]⟩ (by show _ + 1 ≤ _; omega)
        clear y1 y2
        go_wp2_with fail
        go_roundw
        case rel => exact ⟨k + 1, by omega, by go_num, by rw [HE.out], HB.out.then HKC.out⟩
        case measure => simp [intOf]; omega
    · have hki : ¬ (k : Int) < (l.length : Int) := by omega
      have HE : Hid (Ps.texts (l.take k) d = Ps.texts l d) := by show _ = _; rw [List.take_of_length_le (by omega)]
      go_wp2_with fail
      go_ret
      exact ⟨by rw [← HE.out]; rfl, HB.out⟩
theorem lines_any (e : Nat) : PLn e := by
  induction e using Nat.strongRecOn with
  | _ e ih => exact lines_of e ih
end Go.Proofs.Ytbfikeegacapjaa
