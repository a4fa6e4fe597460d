/- SmA -/
import Derived.Test.YtnfkjmafhaecgaaZHdA
import Derived.Deep.CutBlock
import Derived.Deep.DeepCutAuto
import Derived.Test.YtnfkjmafhaecgaaZPaD

namespace Go.Proofs.Ytnfkjmafhaecgaa
open Go.RowKit
attribute [local go_sem] run_store_complex
attribute [local go_sem ↓] cut_a1
/-- Behind the switch: what was made lies in its box. -/
structure SwO (wr wc : World) (hi m ed : Nat) (p : Item) (rest : List Ac) (rv : Value) : Prop where
  box : BoxS wc (wr.heap.size + 1) p.cells
  kids : p.InD wc (Rng wr.heap.size wc.heap.size)
  kept : Kept wr wc
  acts : ActsR wc hi rest rv
  size : p.s.size + rest.length ≤ m
  ok : OKs ed [p.s]
def PSm (n : Nat) : Prop := ∀ (l : List Ac) (w : World) (hi : Nat) (v : Value) (most deep : Int), l.length ≤ n → n ≤ 16 → hi ≤ w.heap.size → ActsR w hi l v → most ≤ 1000 → -1000 ≤ most → 0 ≤ deep → deep ≤ 1000 - n →
  Calls Try.prog 28 #[v, .int .i64 most, .int .i64 deep] w fun r w' => MadeS w hi l.length most (Ed deep) r w'
set_option maxRecDepth 100000 in
set_option maxHeartbeats 8000000 in
theorem stmts_of (n : Nat) (H : ∀ m, m < n → PSm m) : PSm n := by
  intro l w hi v most deep hn hn2 hhi ha hm1 hm2 hd hd2
  have HH : Hid (∀ m, m < n → PSm m) := H
  have HI0 : Hid (SmI w w hi l.length most (Ed deep) l v [] (.slice none 0 0)) := ⟨ha, (OwnK.nil w _), Kept.refl _, by simp [St.sizes], OKs.nil _, by simp; omega⟩
  obtain ⟨a, cap, rfl, hc1, hc2, -, -⟩ := ha.out
  clear H ha
  go_enter Try.func28, Try.ntmps28
  go_wp2_with fail
  go_loopw [0, 8] (fun lv out wr => ∃ (ls : List Ac) (a1 : Option Addr) (q1 : Nat) (ps : List Item) (a2 : Option Addr) (q2 : Nat), lv = .slice a1 ls.length q1 ∧ out = .slice a2 ps.length q2 ∧ Hid (SmI w wr hi l.length most (Ed deep) ls (.slice a1 ls.length q1) ps (.slice a2 ps.length q2))) (fun lv _ _ => sliceLen lv)
  case atStart => exact ⟨l, a, cap, [], none, 0, rfl, rfl, HI0⟩
  case round =>
    obtain ⟨ls, a1, q1, ps, a2, q2, rfl, rfl, HI⟩ := hrel
    have hsz := HI.out.size
    have hpsz : ps.length ≤ St.sizes (ps.map (·.s)) := by have := St.sizes_len (ps.map (·.s)); rwa [List.length_map] at this
    have hpl : ps.length ≤ 16 := by omega
    have hll : ls.length ≤ n := by omega
    clear hsz hpsz
    by_cases hout : (ps.length : Int) < most
    · by_cases hls : 0 < ls.length
      · have gl : (0 : Int) < (ls.length : Int) := by omega
        obtain ⟨a, cap, e, hc1, hc2, hcell, hrng⟩ := HI.out.acts.out
        cases e
        obtain ⟨b, o, ax, nx, qx, rfl, hb, c0, c1, c2, c3, c4, hE⟩ := hcell 0 hls
        simp only [Nat.zero_mul, Nat.add_zero] at c0 c1 c2 c3 c4
        obtain ⟨x, hx⟩ : ∃ x, ls[0] = x := ⟨_, rfl⟩
        rw [hx] at c0 c1 c2 c3 hE
        have hxr : x.inR := hrng x (by rw [← hx]; exact List.getElem_mem _)
        obtain ⟨⟨r1, r2⟩, ⟨r3, r4⟩, ⟨r5, r6⟩, ⟨r7, r8⟩⟩ := hxr
        have hKw := HI.out.kept.size
        have hzb : b < wr.heap.size := by omega
        obtain ⟨rest, hrest⟩ : ∃ rest, (ls.take ls.length).drop 1 = rest := ⟨_, rfl⟩
        have HR : Hid (ActsR wr hi rest (.slice (cutAt (some ⟨b, o, none⟩) 1 q1 5) (ls.length - 1) (q1 - 1)) ∧ rest.length = ls.length - 1) := by
          rw [← hrest]
          exact ⟨HI.out.acts.cut 1 ls.length (by omega) (Nat.le_refl _), by simp⟩
        have g1 : (1 : Int) ≤ (ls.length : Int) := by omega
        obtain ⟨k, hk, -, hpk⟩ := pick_nat x.what 24 (by omega) (by omega)
        have PK : Hid (∀ w, Calls Try.prog 16 #[.int .i64 x.what, .int .i64 24] w fun e w' => e = .returned (.int .i64 (k : Int)) ∧ w' = w) := hpk
        have PS : Hid (∀ W, Kept wr W → Calls Try.prog 42 #[.agg #[.int .i64 x.what, .int .i64 x.a, .int .i64 x.b, .int .i64 x.n, .slice ax nx qx]] W fun r w' => ∃ (e1 : Ex) (a5 : Option Addr) (n5 q5 : Nat), r = .returned (.agg #[.int .i64 e1.kind, .int .i64 e1.n, .string e1.name, .slice a5 n5 q5]) ∧ Hid (ExsIn w' W.heap.size w'.heap.size e1.of (.slice a5 n5 q5) ∧ (e1.size ≤ 7 ∧ Px.Sx e1) ∧ Kept W w')) := by
          intro W hW
          refine (short_any x W _ ((hE.kept hW).mono (Nat.le_trans (Nat.le_trans hhi hKw) hW.size))).mono ?_
          rintro r w1 ⟨e1, v1, rfl, h1, ⟨h2, h2s⟩, h3⟩
          obtain ⟨a5, n5, q5, rfl⟩ := h1.form
          exact ⟨e1, a5, n5, q5, rfl, h1, ⟨by omega, h2s⟩, h3⟩
        clear hcell hrng hx hpk hE hrest
        go_wp2_with fail
        refine (PK.out _).mono ?_
        rintro e w' ⟨rfl, rfl⟩
        clear PK
        go_upto_block 2 with fail
        go_cut [0] from 12 to 176 (fun lv wc => ∃ (st : St) (a5 : Option Addr) (n5 q5 : Nat) (a6 : Option Addr) (n6 q6 : Nat) (a7 : Option Addr) (n7 q7 : Nat) (rest : List Ac) (ar : Option Addr) (nr qr : Nat), lv = .slice ar nr qr ∧ Hid (SwO wr wc hi ls.length (Ed deep) ⟨st, .slice a5 n5 q5, .slice a6 n6 q6, .slice a7 n7 q7⟩ rest (.slice ar nr qr)))
        case first =>
          by_cases k9 : k < 9
          · have f9 : (k : Int) < 9 := by omega
            obtain ⟨S, HNS, hT⟩ : ∃ S : ByteArray, Hid (Nam S) ∧ ∀ w, Calls Try.prog 41 #[.int .i64 x.a] w fun e w' => e = .returned (.string S) ∧ w' = w := by
              obtain ⟨t, ht, hs⟩ := plain_any x.a
              exact ⟨Px.ba t, ⟨t, ht, rfl⟩, hs⟩
            have TP : Hid (∀ w, Calls Try.prog 41 #[.int .i64 x.a] w fun e w' => e = .returned (.string S) ∧ w' = w) := hT
            clear hT
            go_wp2_with fail
            refine (TP.out _).mono ?_
            rintro e w' ⟨rfl, rfl⟩
            go_wp2_with fail
            refine (PS.out _ (((Kept.refl wr).al _).al _)).mono ?_
            rintro r w1 ⟨e1, a5, n5, q5, rfl, HV⟩
            have HB1 : Hid (BoxS w1 (wr.heap.size + 1) [.int .i64 1, .string S, .string ⟨#[]⟩, .int .i64 0, .int .i64 0, .int .i64 0, .string ⟨#[]⟩, .slice none 0 0, .slice none 0 0, .slice none 0 0, .complex .f64 0 0]) := BoxS.kept (w := ((wr.alloc (.cells #[.int .i64 x.what, .int .i64 x.a, .int .i64 x.b, .int .i64 x.n, .slice ax nx qx] 79)).alloc (.cells #[.int .i64 1, .string S, .string ⟨#[]⟩, .int .i64 0, .int .i64 0, .int .i64 0, .string ⟨#[]⟩, .slice none 0 0, .slice none 0 0, .slice none 0 0, .complex .f64 0 0] 46))) ⟨fun j v hv => by
                match j, hv with
                | 0, hv => simp at hv; subst hv; simp
                | 1, hv => simp at hv; subst hv; simp
                | 2, hv => simp at hv; subst hv; simp
                | 3, hv => simp at hv; subst hv; simp
                | 4, hv => simp at hv; subst hv; simp
                | 5, hv => simp at hv; subst hv; simp
                | 6, hv => simp at hv; subst hv; simp
                | 7, hv => simp at hv; subst hv; simp
                | 8, hv => simp at hv; subst hv; simp
                | 9, hv => simp at hv; subst hv; simp
                | 10, hv => simp at hv; subst hv; simp, fun j => by simp, by simp⟩ HV.out.2.2
            have HX1 : Hid (w1.cell? ⟨wr.heap.size, 0, none⟩ = some (.int .i64 x.what) ∧ w1.cell? ⟨wr.heap.size, 1, none⟩ = some (.int .i64 x.a) ∧ w1.cell? ⟨wr.heap.size, 2, none⟩ = some (.int .i64 x.b) ∧ w1.cell? ⟨wr.heap.size, 3, none⟩ = some (.int .i64 x.n)) := ⟨HV.out.2.2.cellS (by simp), HV.out.2.2.cellS (by simp), HV.out.2.2.cellS (by simp), HV.out.2.2.cellS (by simp)⟩
            have HK1 : Hid (Kept wr w1 ∧ wr.heap.size + 2 ≤ w1.heap.size) := ⟨(((Kept.refl wr).al _).al _).then HV.out.2.2, by have := HV.out.2.2.size; simpa using this⟩
            have HE1 : Hid (ExsIn w1 (wr.heap.size + 2) w1.heap.size e1.of (.slice a5 n5 q5) ∧ (e1.size ≤ 7 ∧ Px.Sx e1)) := ⟨HV.out.1.mono (Rng.up (by simp) (Nat.le_refl _)), HV.out.2.1⟩
            clear HV
            have y0 : w1.cell? ⟨wr.heap.size + 1, 0, none⟩ = some (.int .i64 1) := HB1.out.rng 0 _ rfl
            have y1 : w1.cell? ⟨wr.heap.size + 1, 1, none⟩ = some (.string S) := HB1.out.rng 1 _ rfl
            have y2 : w1.cell? ⟨wr.heap.size + 1, 2, none⟩ = some (.string ⟨#[]⟩) := HB1.out.rng 2 _ rfl
            have y3 : w1.cell? ⟨wr.heap.size + 1, 3, none⟩ = some (.int .i64 0) := HB1.out.rng 3 _ rfl
            have y4 : w1.cell? ⟨wr.heap.size + 1, 4, none⟩ = some (.int .i64 0) := HB1.out.rng 4 _ rfl
            have y5 : w1.cell? ⟨wr.heap.size + 1, 5, none⟩ = some (.int .i64 0) := HB1.out.rng 5 _ rfl
            have y6 : w1.cell? ⟨wr.heap.size + 1, 6, none⟩ = some (.string ⟨#[]⟩) := HB1.out.rng 6 _ rfl
            have y7 : w1.cell? ⟨wr.heap.size + 1, 7, none⟩ = some (.slice none 0 0) := HB1.out.rng 7 _ rfl
            have y8 : w1.cell? ⟨wr.heap.size + 1, 8, none⟩ = some (.slice none 0 0) := HB1.out.rng 8 _ rfl
            have y9 : w1.cell? ⟨wr.heap.size + 1, 9, none⟩ = some (.slice none 0 0) := HB1.out.rng 9 _ rfl
            have y10 : w1.cell? ⟨wr.heap.size + 1, 10, none⟩ = some (.complex .f64 0 0) := HB1.out.rng 10 _ rfl
            have yf : ∀ j, w1.frozen? ⟨wr.heap.size + 1, j, none⟩ = false := HB1.out.fz
            have s4 : (w1.setCell ⟨wr.heap.size + 1, 4, none⟩ (.int .i64 e1.kind)).cell? ⟨wr.heap.size + 1, 4, none⟩ = some (.int .i64 e1.kind) := World.cell?_setCell_same _ _ _ y4
            have s5 : ((w1.setCell ⟨wr.heap.size + 1, 4, none⟩ (.int .i64 e1.kind)).setCell ⟨wr.heap.size + 1, 5, none⟩ (.int .i64 e1.n)).cell? ⟨wr.heap.size + 1, 5, none⟩ = some (.int .i64 e1.n) := World.cell?_setCell_same _ _ _ ((World.cell?_setCell_other _ _ _ _ (by simp)).trans y5)
            have s6 : (((w1.setCell ⟨wr.heap.size + 1, 4, none⟩ (.int .i64 e1.kind)).setCell ⟨wr.heap.size + 1, 5, none⟩ (.int .i64 e1.n)).setCell ⟨wr.heap.size + 1, 6, none⟩ (.string e1.name)).cell? ⟨wr.heap.size + 1, 6, none⟩ = some (.string e1.name) := World.cell?_setCell_same _ _ _ ((World.cell?_setCell_other _ _ _ _ (by simp)).trans ((World.cell?_setCell_other _ _ _ _ (by simp)).trans y6))
            have s7 : ((((w1.setCell ⟨wr.heap.size + 1, 4, none⟩ (.int .i64 e1.kind)).setCell ⟨wr.heap.size + 1, 5, none⟩ (.int .i64 e1.n)).setCell ⟨wr.heap.size + 1, 6, none⟩ (.string e1.name)).setCell ⟨wr.heap.size + 1, 7, none⟩ (.slice a5 n5 q5)).cell? ⟨wr.heap.size + 1, 7, none⟩ = some (.slice a5 n5 q5) := World.cell?_setCell_same _ _ _ ((World.cell?_setCell_other _ _ _ _ (by simp)).trans ((World.cell?_setCell_other _ _ _ _ (by simp)).trans ((World.cell?_setCell_other _ _ _ _ (by simp)).trans y7)))
            have hz1 : wr.heap.size + 1 < w1.heap.size := HB1.out.lt
            have HKK : Hid (Kept wr ((((w1.setCell ⟨wr.heap.size + 1, 4, none⟩ (.int .i64 e1.kind)).setCell ⟨wr.heap.size + 1, 5, none⟩ (.int .i64 e1.n)).setCell ⟨wr.heap.size + 1, 6, none⟩ (.string e1.name)).setCell ⟨wr.heap.size + 1, 7, none⟩ (.slice a5 n5 q5))) := (Below.setCells HK1.out.1 (by omega) [.int .i64 e1.kind, .int .i64 e1.n, .string e1.name, .slice a5 n5 q5] 4 : Below _ wr (w1.setCells (wr.heap.size + 1) 4 [.int .i64 e1.kind, .int .i64 e1.n, .string e1.name, .slice a5 n5 q5]))
            have HOO : Hid (SwO wr ((((w1.setCell ⟨wr.heap.size + 1, 4, none⟩ (.int .i64 e1.kind)).setCell ⟨wr.heap.size + 1, 5, none⟩ (.int .i64 e1.n)).setCell ⟨wr.heap.size + 1, 6, none⟩ (.string e1.name)).setCell ⟨wr.heap.size + 1, 7, none⟩ (.slice a5 n5 q5)) hi ls.length (Ed deep) ⟨(.mk 1 S ⟨#[]⟩ 0 e1 [] [] 0 0), .slice a5 n5 q5, .slice none 0 0, .slice none 0 0⟩ rest _) := ⟨HB1.out.set 4 [.int .i64 e1.kind, .int .i64 e1.n, .string e1.name, .slice a5 n5 q5] (by simp), ⟨(HE1.out.1.stays (w' := w1.setCells (wr.heap.size + 1) 4 [.int .i64 e1.kind, .int .i64 e1.n, .string e1.name, .slice a5 n5 q5]) fun i hi => heap_setCells _ _ _ _ i (by have := hi.1; omega)).mono (Rng.up (by omega) (Nat.le_of_eq (size_setCells (wr.heap.size + 1) [.int .i64 e1.kind, .int .i64 e1.n, .string e1.name, .slice a5 n5 q5] 4 w1).symm)), StsD.nil _ _, StsD.nil _ _⟩, HKK.out, HR.out.1.kept HKK.out, by have := HR.out.2; rw [St.size_eq]; show 1 + (St.sizes [] + St.sizes []) + _ ≤ _; simp [St.sizes]; omega, OKs.assign HNS.out HE1.out.2⟩
            go_wp2_with fail
            go_meet
            case rel => exact ⟨_, _, _, _, _, _, _, _, _, _, _, _, _, _, rfl, HOO⟩
          have f9 : ¬ (k : Int) < 9 := by omega
          by_cases k11 : k < 11
          · have f11 : (k : Int) < 11 := by omega
            have HBX : Hid (BoxS ((wr.alloc (.cells #[.int .i64 x.what, .int .i64 x.a, .int .i64 x.b, .int .i64 x.n, .slice ax nx qx] 79)).alloc (.cells #[.int .i64 2, .string ⟨#[109]⟩, .string ⟨#[]⟩, .int .i64 0, .int .i64 0, .int .i64 0, .string ⟨#[]⟩, .slice none 0 0, .slice none 0 0, .slice none 0 0, .complex .f64 0 0] 46)) (wr.heap.size + 1) [.int .i64 2, .string ⟨#[109]⟩, .string ⟨#[]⟩, .int .i64 0, .int .i64 0, .int .i64 0, .string ⟨#[]⟩, .slice none 0 0, .slice none 0 0, .slice none 0 0, .complex .f64 0 0]) := ⟨fun j v hv => by
                match j, hv with
                | 0, hv => simp at hv; subst hv; simp
                | 1, hv => simp at hv; subst hv; simp
                | 2, hv => simp at hv; subst hv; simp
                | 3, hv => simp at hv; subst hv; simp
                | 4, hv => simp at hv; subst hv; simp
                | 5, hv => simp at hv; subst hv; simp
                | 6, hv => simp at hv; subst hv; simp
                | 7, hv => simp at hv; subst hv; simp
                | 8, hv => simp at hv; subst hv; simp
                | 9, hv => simp at hv; subst hv; simp
                | 10, hv => simp at hv; subst hv; simp, fun j => by simp, by simp⟩
            have HKK : Hid (Kept wr ((wr.alloc (.cells #[.int .i64 x.what, .int .i64 x.a, .int .i64 x.b, .int .i64 x.n, .slice ax nx qx] 79)).alloc (.cells #[.int .i64 2, .string ⟨#[109]⟩, .string ⟨#[]⟩, .int .i64 0, .int .i64 0, .int .i64 0, .string ⟨#[]⟩, .slice none 0 0, .slice none 0 0, .slice none 0 0, .complex .f64 0 0] 46))) := (((Kept.refl wr).al _).al _)
            have HOO : Hid (SwO wr ((wr.alloc (.cells #[.int .i64 x.what, .int .i64 x.a, .int .i64 x.b, .int .i64 x.n, .slice ax nx qx] 79)).alloc (.cells #[.int .i64 2, .string ⟨#[109]⟩, .string ⟨#[]⟩, .int .i64 0, .int .i64 0, .int .i64 0, .string ⟨#[]⟩, .slice none 0 0, .slice none 0 0, .slice none 0 0, .complex .f64 0 0] 46)) hi ls.length (Ed deep) ⟨(.mk 2 ⟨#[109]⟩ ⟨#[]⟩ 0 (.mk 0 0 ⟨#[]⟩ []) [] [] 0 0), .slice none 0 0, .slice none 0 0, .slice none 0 0⟩ rest _) := ⟨HBX.out, ⟨ExsD.nil _ _, StsD.nil _ _, StsD.nil _ _⟩, HKK.out, HR.out.1.kept HKK.out, by have := HR.out.2; rw [St.size_eq]; show 1 + (St.sizes [] + St.sizes []) + _ ≤ _; simp [St.sizes]; omega, OKs.word (by decide) (nam1 109 (by decide))⟩
            go_wp2_with fail
            go_meet
            case rel => exact ⟨_, _, _, _, _, _, _, _, _, _, _, _, _, _, rfl, HOO⟩
          have f11 : ¬ (k : Int) < 11 := by omega
          by_cases k13 : k < 13
          · have f13 : (k : Int) < 13 := by omega
            have HBX : Hid (BoxS ((wr.alloc (.cells #[.int .i64 x.what, .int .i64 x.a, .int .i64 x.b, .int .i64 x.n, .slice ax nx qx] 79)).alloc (.cells #[.int .i64 3, .string ⟨#[109]⟩, .string ⟨#[]⟩, .int .i64 0, .int .i64 0, .int .i64 0, .string ⟨#[]⟩, .slice none 0 0, .slice none 0 0, .slice none 0 0, .complex .f64 0 0] 46)) (wr.heap.size + 1) [.int .i64 3, .string ⟨#[109]⟩, .string ⟨#[]⟩, .int .i64 0, .int .i64 0, .int .i64 0, .string ⟨#[]⟩, .slice none 0 0, .slice none 0 0, .slice none 0 0, .complex .f64 0 0]) := ⟨fun j v hv => by
                match j, hv with
                | 0, hv => simp at hv; subst hv; simp
                | 1, hv => simp at hv; subst hv; simp
                | 2, hv => simp at hv; subst hv; simp
                | 3, hv => simp at hv; subst hv; simp
                | 4, hv => simp at hv; subst hv; simp
                | 5, hv => simp at hv; subst hv; simp
                | 6, hv => simp at hv; subst hv; simp
                | 7, hv => simp at hv; subst hv; simp
                | 8, hv => simp at hv; subst hv; simp
                | 9, hv => simp at hv; subst hv; simp
                | 10, hv => simp at hv; subst hv; simp, fun j => by simp, by simp⟩
            have HKK : Hid (Kept wr ((wr.alloc (.cells #[.int .i64 x.what, .int .i64 x.a, .int .i64 x.b, .int .i64 x.n, .slice ax nx qx] 79)).alloc (.cells #[.int .i64 3, .string ⟨#[109]⟩, .string ⟨#[]⟩, .int .i64 0, .int .i64 0, .int .i64 0, .string ⟨#[]⟩, .slice none 0 0, .slice none 0 0, .slice none 0 0, .complex .f64 0 0] 46))) := (((Kept.refl wr).al _).al _)
            have HOO : Hid (SwO wr ((wr.alloc (.cells #[.int .i64 x.what, .int .i64 x.a, .int .i64 x.b, .int .i64 x.n, .slice ax nx qx] 79)).alloc (.cells #[.int .i64 3, .string ⟨#[109]⟩, .string ⟨#[]⟩, .int .i64 0, .int .i64 0, .int .i64 0, .string ⟨#[]⟩, .slice none 0 0, .slice none 0 0, .slice none 0 0, .complex .f64 0 0] 46)) hi ls.length (Ed deep) ⟨(.mk 3 ⟨#[109]⟩ ⟨#[]⟩ 0 (.mk 0 0 ⟨#[]⟩ []) [] [] 0 0), .slice none 0 0, .slice none 0 0, .slice none 0 0⟩ rest _) := ⟨HBX.out, ⟨ExsD.nil _ _, StsD.nil _ _, StsD.nil _ _⟩, HKK.out, HR.out.1.kept HKK.out, by have := HR.out.2; rw [St.size_eq]; show 1 + (St.sizes [] + St.sizes []) + _ ≤ _; simp [St.sizes]; omega, OKs.word (by decide) (nam1 109 (by decide))⟩
            go_wp2_with fail
            go_meet
            case rel => exact ⟨_, _, _, _, _, _, _, _, _, _, _, _, _, _, rfl, HOO⟩
          have f13 : ¬ (k : Int) < 13 := by omega
          by_cases k15 : k < 15
          · have f15 : (k : Int) < 15 := by omega
            obtain ⟨vk, vhk, -, vhp⟩ := pick_nat x.a 2 (by omega) (by omega)
            obtain ⟨S, vhO, vhX⟩ := index_two ⟨#[99]⟩ ⟨#[100]⟩ vk vhk
            have HNS : Hid (Nam S) := Nam.two vhO (nam1 _ (by decide)) (nam1 _ (by decide))
            have vP : Hid (∀ w, Calls Try.prog 16 #[.int .i64 x.a, .int .i64 2] w fun e w' => e = .returned (.int .i64 (vk : Int)) ∧ w' = w) := vhp
            clear vhp vhO
            go_wp2_with fail
            refine (vP.out _).mono ?_
            rintro e w' ⟨rfl, rfl⟩
            go_wp2_with fail
            refine (PS.out _ (((Kept.refl wr).al _).al _)).mono ?_
            rintro r w1 ⟨e1, a5, n5, q5, rfl, HV⟩
            have HB1 : Hid (BoxS w1 (wr.heap.size + 1) [.int .i64 4, .string S, .string ⟨#[]⟩, .int .i64 0, .int .i64 0, .int .i64 0, .string ⟨#[]⟩, .slice none 0 0, .slice none 0 0, .slice none 0 0, .complex .f64 0 0]) := BoxS.kept (w := ((wr.alloc (.cells #[.int .i64 x.what, .int .i64 x.a, .int .i64 x.b, .int .i64 x.n, .slice ax nx qx] 79)).alloc (.cells #[.int .i64 4, .string S, .string ⟨#[]⟩, .int .i64 0, .int .i64 0, .int .i64 0, .string ⟨#[]⟩, .slice none 0 0, .slice none 0 0, .slice none 0 0, .complex .f64 0 0] 46))) ⟨fun j v hv => by
                match j, hv with
                | 0, hv => simp at hv; subst hv; simp
                | 1, hv => simp at hv; subst hv; simp
                | 2, hv => simp at hv; subst hv; simp
                | 3, hv => simp at hv; subst hv; simp
                | 4, hv => simp at hv; subst hv; simp
                | 5, hv => simp at hv; subst hv; simp
                | 6, hv => simp at hv; subst hv; simp
                | 7, hv => simp at hv; subst hv; simp
                | 8, hv => simp at hv; subst hv; simp
                | 9, hv => simp at hv; subst hv; simp
                | 10, hv => simp at hv; subst hv; simp, fun j => by simp, by simp⟩ HV.out.2.2
            have HX1 : Hid (w1.cell? ⟨wr.heap.size, 0, none⟩ = some (.int .i64 x.what) ∧ w1.cell? ⟨wr.heap.size, 1, none⟩ = some (.int .i64 x.a) ∧ w1.cell? ⟨wr.heap.size, 2, none⟩ = some (.int .i64 x.b) ∧ w1.cell? ⟨wr.heap.size, 3, none⟩ = some (.int .i64 x.n)) := ⟨HV.out.2.2.cellS (by simp), HV.out.2.2.cellS (by simp), HV.out.2.2.cellS (by simp), HV.out.2.2.cellS (by simp)⟩
            have HK1 : Hid (Kept wr w1 ∧ wr.heap.size + 2 ≤ w1.heap.size) := ⟨(((Kept.refl wr).al _).al _).then HV.out.2.2, by have := HV.out.2.2.size; simpa using this⟩
            have HE1 : Hid (ExsIn w1 (wr.heap.size + 2) w1.heap.size e1.of (.slice a5 n5 q5) ∧ (e1.size ≤ 7 ∧ Px.Sx e1)) := ⟨HV.out.1.mono (Rng.up (by simp) (Nat.le_refl _)), HV.out.2.1⟩
            clear HV
            have y0 : w1.cell? ⟨wr.heap.size + 1, 0, none⟩ = some (.int .i64 4) := HB1.out.rng 0 _ rfl
            have y1 : w1.cell? ⟨wr.heap.size + 1, 1, none⟩ = some (.string S) := HB1.out.rng 1 _ rfl
            have y2 : w1.cell? ⟨wr.heap.size + 1, 2, none⟩ = some (.string ⟨#[]⟩) := HB1.out.rng 2 _ rfl
            have y3 : w1.cell? ⟨wr.heap.size + 1, 3, none⟩ = some (.int .i64 0) := HB1.out.rng 3 _ rfl
            have y4 : w1.cell? ⟨wr.heap.size + 1, 4, none⟩ = some (.int .i64 0) := HB1.out.rng 4 _ rfl
            have y5 : w1.cell? ⟨wr.heap.size + 1, 5, none⟩ = some (.int .i64 0) := HB1.out.rng 5 _ rfl
            have y6 : w1.cell? ⟨wr.heap.size + 1, 6, none⟩ = some (.string ⟨#[]⟩) := HB1.out.rng 6 _ rfl
            have y7 : w1.cell? ⟨wr.heap.size + 1, 7, none⟩ = some (.slice none 0 0) := HB1.out.rng 7 _ rfl
            have y8 : w1.cell? ⟨wr.heap.size + 1, 8, none⟩ = some (.slice none 0 0) := HB1.out.rng 8 _ rfl
            have y9 : w1.cell? ⟨wr.heap.size + 1, 9, none⟩ = some (.slice none 0 0) := HB1.out.rng 9 _ rfl
            have y10 : w1.cell? ⟨wr.heap.size + 1, 10, none⟩ = some (.complex .f64 0 0) := HB1.out.rng 10 _ rfl
            have yf : ∀ j, w1.frozen? ⟨wr.heap.size + 1, j, none⟩ = false := HB1.out.fz
            have s4 : (w1.setCell ⟨wr.heap.size + 1, 4, none⟩ (.int .i64 e1.kind)).cell? ⟨wr.heap.size + 1, 4, none⟩ = some (.int .i64 e1.kind) := World.cell?_setCell_same _ _ _ y4
            have s5 : ((w1.setCell ⟨wr.heap.size + 1, 4, none⟩ (.int .i64 e1.kind)).setCell ⟨wr.heap.size + 1, 5, none⟩ (.int .i64 e1.n)).cell? ⟨wr.heap.size + 1, 5, none⟩ = some (.int .i64 e1.n) := World.cell?_setCell_same _ _ _ ((World.cell?_setCell_other _ _ _ _ (by simp)).trans y5)
            have s6 : (((w1.setCell ⟨wr.heap.size + 1, 4, none⟩ (.int .i64 e1.kind)).setCell ⟨wr.heap.size + 1, 5, none⟩ (.int .i64 e1.n)).setCell ⟨wr.heap.size + 1, 6, none⟩ (.string e1.name)).cell? ⟨wr.heap.size + 1, 6, none⟩ = some (.string e1.name) := World.cell?_setCell_same _ _ _ ((World.cell?_setCell_other _ _ _ _ (by simp)).trans ((World.cell?_setCell_other _ _ _ _ (by simp)).trans y6))
            have s7 : ((((w1.setCell ⟨wr.heap.size + 1, 4, none⟩ (.int .i64 e1.kind)).setCell ⟨wr.heap.size + 1, 5, none⟩ (.int .i64 e1.n)).setCell ⟨wr.heap.size + 1, 6, none⟩ (.string e1.name)).setCell ⟨wr.heap.size + 1, 7, none⟩ (.slice a5 n5 q5)).cell? ⟨wr.heap.size + 1, 7, none⟩ = some (.slice a5 n5 q5) := World.cell?_setCell_same _ _ _ ((World.cell?_setCell_other _ _ _ _ (by simp)).trans ((World.cell?_setCell_other _ _ _ _ (by simp)).trans ((World.cell?_setCell_other _ _ _ _ (by simp)).trans y7)))
            have hz1 : wr.heap.size + 1 < w1.heap.size := HB1.out.lt
            have HKK : Hid (Kept wr ((((w1.setCell ⟨wr.heap.size + 1, 4, none⟩ (.int .i64 e1.kind)).setCell ⟨wr.heap.size + 1, 5, none⟩ (.int .i64 e1.n)).setCell ⟨wr.heap.size + 1, 6, none⟩ (.string e1.name)).setCell ⟨wr.heap.size + 1, 7, none⟩ (.slice a5 n5 q5))) := (Below.setCells HK1.out.1 (by omega) [.int .i64 e1.kind, .int .i64 e1.n, .string e1.name, .slice a5 n5 q5] 4 : Below _ wr (w1.setCells (wr.heap.size + 1) 4 [.int .i64 e1.kind, .int .i64 e1.n, .string e1.name, .slice a5 n5 q5]))
            have HOO : Hid (SwO wr ((((w1.setCell ⟨wr.heap.size + 1, 4, none⟩ (.int .i64 e1.kind)).setCell ⟨wr.heap.size + 1, 5, none⟩ (.int .i64 e1.n)).setCell ⟨wr.heap.size + 1, 6, none⟩ (.string e1.name)).setCell ⟨wr.heap.size + 1, 7, none⟩ (.slice a5 n5 q5)) hi ls.length (Ed deep) ⟨(.mk 4 S ⟨#[]⟩ 0 e1 [] [] 0 0), .slice a5 n5 q5, .slice none 0 0, .slice none 0 0⟩ rest _) := ⟨HB1.out.set 4 [.int .i64 e1.kind, .int .i64 e1.n, .string e1.name, .slice a5 n5 q5] (by simp), ⟨(HE1.out.1.stays (w' := w1.setCells (wr.heap.size + 1) 4 [.int .i64 e1.kind, .int .i64 e1.n, .string e1.name, .slice a5 n5 q5]) fun i hi => heap_setCells _ _ _ _ i (by have := hi.1; omega)).mono (Rng.up (by omega) (Nat.le_of_eq (size_setCells (wr.heap.size + 1) [.int .i64 e1.kind, .int .i64 e1.n, .string e1.name, .slice a5 n5 q5] 4 w1).symm)), StsD.nil _ _, StsD.nil _ _⟩, HKK.out, HR.out.1.kept HKK.out, by have := HR.out.2; rw [St.size_eq]; show 1 + (St.sizes [] + St.sizes []) + _ ≤ _; simp [St.sizes]; omega, OKs.send HNS.out HE1.out.2⟩
            go_wp2_with fail
            go_meet
            case rel => exact ⟨_, _, _, _, _, _, _, _, _, _, _, _, _, _, rfl, HOO⟩
          have f15 : ¬ (k : Int) < 15 := by omega
          by_cases k17 : k < 17
          · have f17 : (k : Int) < 17 := by omega
            obtain ⟨vk, vhk, -, vhp⟩ := pick_nat x.a 2 (by omega) (by omega)
            obtain ⟨S, vhO, vhX⟩ := index_two ⟨#[99]⟩ ⟨#[100]⟩ vk vhk
            have HNS : Hid (Nam S) := Nam.two vhO (nam1 _ (by decide)) (nam1 _ (by decide))
            have vP : Hid (∀ w, Calls Try.prog 16 #[.int .i64 x.a, .int .i64 2] w fun e w' => e = .returned (.int .i64 (vk : Int)) ∧ w' = w) := vhp
            clear vhp vhO
            obtain ⟨T, HNT, hT⟩ : ∃ T : ByteArray, Hid (Nam T) ∧ ∀ w, Calls Try.prog 41 #[.int .i64 x.b] w fun e w' => e = .returned (.string T) ∧ w' = w := by
              obtain ⟨t, ht, hs⟩ := plain_any x.b
              exact ⟨Px.ba t, ⟨t, ht, rfl⟩, hs⟩
            have TP : Hid (∀ w, Calls Try.prog 41 #[.int .i64 x.b] w fun e w' => e = .returned (.string T) ∧ w' = w) := hT
            clear hT
            go_wp2_with fail
            refine (vP.out _).mono ?_
            rintro e w' ⟨rfl, rfl⟩
            go_wp2_with fail
            refine (TP.out _).mono ?_
            rintro e w' ⟨rfl, rfl⟩
            have HBX : Hid (BoxS ((wr.alloc (.cells #[.int .i64 x.what, .int .i64 x.a, .int .i64 x.b, .int .i64 x.n, .slice ax nx qx] 79)).alloc (.cells #[.int .i64 5, .string S, .string T, .int .i64 0, .int .i64 0, .int .i64 0, .string ⟨#[]⟩, .slice none 0 0, .slice none 0 0, .slice none 0 0, .complex .f64 0 0] 46)) (wr.heap.size + 1) [.int .i64 5, .string S, .string T, .int .i64 0, .int .i64 0, .int .i64 0, .string ⟨#[]⟩, .slice none 0 0, .slice none 0 0, .slice none 0 0, .complex .f64 0 0]) := ⟨fun j v hv => by
                match j, hv with
                | 0, hv => simp at hv; subst hv; simp
                | 1, hv => simp at hv; subst hv; simp
                | 2, hv => simp at hv; subst hv; simp
                | 3, hv => simp at hv; subst hv; simp
                | 4, hv => simp at hv; subst hv; simp
                | 5, hv => simp at hv; subst hv; simp
                | 6, hv => simp at hv; subst hv; simp
                | 7, hv => simp at hv; subst hv; simp
                | 8, hv => simp at hv; subst hv; simp
                | 9, hv => simp at hv; subst hv; simp
                | 10, hv => simp at hv; subst hv; simp, fun j => by simp, by simp⟩
            have HKK : Hid (Kept wr ((wr.alloc (.cells #[.int .i64 x.what, .int .i64 x.a, .int .i64 x.b, .int .i64 x.n, .slice ax nx qx] 79)).alloc (.cells #[.int .i64 5, .string S, .string T, .int .i64 0, .int .i64 0, .int .i64 0, .string ⟨#[]⟩, .slice none 0 0, .slice none 0 0, .slice none 0 0, .complex .f64 0 0] 46))) := (((Kept.refl wr).al _).al _)
            have HOO : Hid (SwO wr ((wr.alloc (.cells #[.int .i64 x.what, .int .i64 x.a, .int .i64 x.b, .int .i64 x.n, .slice ax nx qx] 79)).alloc (.cells #[.int .i64 5, .string S, .string T, .int .i64 0, .int .i64 0, .int .i64 0, .string ⟨#[]⟩, .slice none 0 0, .slice none 0 0, .slice none 0 0, .complex .f64 0 0] 46)) hi ls.length (Ed deep) ⟨(.mk 5 S T 0 (.mk 0 0 ⟨#[]⟩ []) [] [] 0 0), .slice none 0 0, .slice none 0 0, .slice none 0 0⟩ rest _) := ⟨HBX.out, ⟨ExsD.nil _ _, StsD.nil _ _, StsD.nil _ _⟩, HKK.out, HR.out.1.kept HKK.out, by have := HR.out.2; rw [St.size_eq]; show 1 + (St.sizes [] + St.sizes []) + _ ≤ _; simp [St.sizes]; omega, OKs.recv HNS.out HNT.out⟩
            go_wp2_with fail
            go_meet
            case rel => exact ⟨_, _, _, _, _, _, _, _, _, _, _, _, _, _, rfl, HOO⟩
          have f17 : ¬ (k : Int) < 17 := by omega
          by_cases k18 : k < 18
          · have f18 : (k : Int) < 18 := by omega
            go_wp2_with fail
            refine (PS.out _ (((Kept.refl wr).al _).al _)).mono ?_
            rintro r w1 ⟨e1, a5, n5, q5, rfl, HV⟩
            have HB1 : Hid (BoxS w1 (wr.heap.size + 1) [.int .i64 6, .string ⟨#[]⟩, .string ⟨#[]⟩, .int .i64 0, .int .i64 0, .int .i64 0, .string ⟨#[]⟩, .slice none 0 0, .slice none 0 0, .slice none 0 0, .complex .f64 0 0]) := BoxS.kept (w := ((wr.alloc (.cells #[.int .i64 x.what, .int .i64 x.a, .int .i64 x.b, .int .i64 x.n, .slice ax nx qx] 79)).alloc (.cells #[.int .i64 6, .string ⟨#[]⟩, .string ⟨#[]⟩, .int .i64 0, .int .i64 0, .int .i64 0, .string ⟨#[]⟩, .slice none 0 0, .slice none 0 0, .slice none 0 0, .complex .f64 0 0] 46))) ⟨fun j v hv => by
                match j, hv with
                | 0, hv => simp at hv; subst hv; simp
                | 1, hv => simp at hv; subst hv; simp
                | 2, hv => simp at hv; subst hv; simp
                | 3, hv => simp at hv; subst hv; simp
                | 4, hv => simp at hv; subst hv; simp
                | 5, hv => simp at hv; subst hv; simp
                | 6, hv => simp at hv; subst hv; simp
                | 7, hv => simp at hv; subst hv; simp
                | 8, hv => simp at hv; subst hv; simp
                | 9, hv => simp at hv; subst hv; simp
                | 10, hv => simp at hv; subst hv; simp, fun j => by simp, by simp⟩ HV.out.2.2
            have HX1 : Hid (w1.cell? ⟨wr.heap.size, 0, none⟩ = some (.int .i64 x.what) ∧ w1.cell? ⟨wr.heap.size, 1, none⟩ = some (.int .i64 x.a) ∧ w1.cell? ⟨wr.heap.size, 2, none⟩ = some (.int .i64 x.b) ∧ w1.cell? ⟨wr.heap.size, 3, none⟩ = some (.int .i64 x.n)) := ⟨HV.out.2.2.cellS (by simp), HV.out.2.2.cellS (by simp), HV.out.2.2.cellS (by simp), HV.out.2.2.cellS (by simp)⟩
            have HK1 : Hid (Kept wr w1 ∧ wr.heap.size + 2 ≤ w1.heap.size) := ⟨(((Kept.refl wr).al _).al _).then HV.out.2.2, by have := HV.out.2.2.size; simpa using this⟩
            have HE1 : Hid (ExsIn w1 (wr.heap.size + 2) w1.heap.size e1.of (.slice a5 n5 q5) ∧ (e1.size ≤ 7 ∧ Px.Sx e1)) := ⟨HV.out.1.mono (Rng.up (by simp) (Nat.le_refl _)), HV.out.2.1⟩
            clear HV
            have y0 : w1.cell? ⟨wr.heap.size + 1, 0, none⟩ = some (.int .i64 6) := HB1.out.rng 0 _ rfl
            have y1 : w1.cell? ⟨wr.heap.size + 1, 1, none⟩ = some (.string ⟨#[]⟩) := HB1.out.rng 1 _ rfl
            have y2 : w1.cell? ⟨wr.heap.size + 1, 2, none⟩ = some (.string ⟨#[]⟩) := HB1.out.rng 2 _ rfl
            have y3 : w1.cell? ⟨wr.heap.size + 1, 3, none⟩ = some (.int .i64 0) := HB1.out.rng 3 _ rfl
            have y4 : w1.cell? ⟨wr.heap.size + 1, 4, none⟩ = some (.int .i64 0) := HB1.out.rng 4 _ rfl
            have y5 : w1.cell? ⟨wr.heap.size + 1, 5, none⟩ = some (.int .i64 0) := HB1.out.rng 5 _ rfl
            have y6 : w1.cell? ⟨wr.heap.size + 1, 6, none⟩ = some (.string ⟨#[]⟩) := HB1.out.rng 6 _ rfl
            have y7 : w1.cell? ⟨wr.heap.size + 1, 7, none⟩ = some (.slice none 0 0) := HB1.out.rng 7 _ rfl
            have y8 : w1.cell? ⟨wr.heap.size + 1, 8, none⟩ = some (.slice none 0 0) := HB1.out.rng 8 _ rfl
            have y9 : w1.cell? ⟨wr.heap.size + 1, 9, none⟩ = some (.slice none 0 0) := HB1.out.rng 9 _ rfl
            have y10 : w1.cell? ⟨wr.heap.size + 1, 10, none⟩ = some (.complex .f64 0 0) := HB1.out.rng 10 _ rfl
            have yf : ∀ j, w1.frozen? ⟨wr.heap.size + 1, j, none⟩ = false := HB1.out.fz
            have s4 : (w1.setCell ⟨wr.heap.size + 1, 4, none⟩ (.int .i64 e1.kind)).cell? ⟨wr.heap.size + 1, 4, none⟩ = some (.int .i64 e1.kind) := World.cell?_setCell_same _ _ _ y4
            have s5 : ((w1.setCell ⟨wr.heap.size + 1, 4, none⟩ (.int .i64 e1.kind)).setCell ⟨wr.heap.size + 1, 5, none⟩ (.int .i64 e1.n)).cell? ⟨wr.heap.size + 1, 5, none⟩ = some (.int .i64 e1.n) := World.cell?_setCell_same _ _ _ ((World.cell?_setCell_other _ _ _ _ (by simp)).trans y5)
            have s6 : (((w1.setCell ⟨wr.heap.size + 1, 4, none⟩ (.int .i64 e1.kind)).setCell ⟨wr.heap.size + 1, 5, none⟩ (.int .i64 e1.n)).setCell ⟨wr.heap.size + 1, 6, none⟩ (.string e1.name)).cell? ⟨wr.heap.size + 1, 6, none⟩ = some (.string e1.name) := World.cell?_setCell_same _ _ _ ((World.cell?_setCell_other _ _ _ _ (by simp)).trans ((World.cell?_setCell_other _ _ _ _ (by simp)).trans y6))
            have s7 : ((((w1.setCell ⟨wr.heap.size + 1, 4, none⟩ (.int .i64 e1.kind)).setCell ⟨wr.heap.size + 1, 5, none⟩ (.int .i64 e1.n)).setCell ⟨wr.heap.size + 1, 6, none⟩ (.string e1.name)).setCell ⟨wr.heap.size + 1, 7, none⟩ (.slice a5 n5 q5)).cell? ⟨wr.heap.size + 1, 7, none⟩ = some (.slice a5 n5 q5) := World.cell?_setCell_same _ _ _ ((World.cell?_setCell_other _ _ _ _ (by simp)).trans ((World.cell?_setCell_other _ _ _ _ (by simp)).trans ((World.cell?_setCell_other _ _ _ _ (by simp)).trans y7)))
            have hz1 : wr.heap.size + 1 < w1.heap.size := HB1.out.lt
            have HKK : Hid (Kept wr ((((w1.setCell ⟨wr.heap.size + 1, 4, none⟩ (.int .i64 e1.kind)).setCell ⟨wr.heap.size + 1, 5, none⟩ (.int .i64 e1.n)).setCell ⟨wr.heap.size + 1, 6, none⟩ (.string e1.name)).setCell ⟨wr.heap.size + 1, 7, none⟩ (.slice a5 n5 q5))) := (Below.setCells HK1.out.1 (by omega) [.int .i64 e1.kind, .int .i64 e1.n, .string e1.name, .slice a5 n5 q5] 4 : Below _ wr (w1.setCells (wr.heap.size + 1) 4 [.int .i64 e1.kind, .int .i64 e1.n, .string e1.name, .slice a5 n5 q5]))
            have HOO : Hid (SwO wr ((((w1.setCell ⟨wr.heap.size + 1, 4, none⟩ (.int .i64 e1.kind)).setCell ⟨wr.heap.size + 1, 5, none⟩ (.int .i64 e1.n)).setCell ⟨wr.heap.size + 1, 6, none⟩ (.string e1.name)).setCell ⟨wr.heap.size + 1, 7, none⟩ (.slice a5 n5 q5)) hi ls.length (Ed deep) ⟨(.mk 6 ⟨#[]⟩ ⟨#[]⟩ 0 e1 [] [] 0 0), .slice a5 n5 q5, .slice none 0 0, .slice none 0 0⟩ rest _) := ⟨HB1.out.set 4 [.int .i64 e1.kind, .int .i64 e1.n, .string e1.name, .slice a5 n5 q5] (by simp), ⟨(HE1.out.1.stays (w' := w1.setCells (wr.heap.size + 1) 4 [.int .i64 e1.kind, .int .i64 e1.n, .string e1.name, .slice a5 n5 q5]) fun i hi => heap_setCells _ _ _ _ i (by have := hi.1; omega)).mono (Rng.up (by omega) (Nat.le_of_eq (size_setCells (wr.heap.size + 1) [.int .i64 e1.kind, .int .i64 e1.n, .string e1.name, .slice a5 n5 q5] 4 w1).symm)), StsD.nil _ _, StsD.nil _ _⟩, HKK.out, HR.out.1.kept HKK.out, by have := HR.out.2; rw [St.size_eq]; show 1 + (St.sizes [] + St.sizes []) + _ ≤ _; simp [St.sizes]; omega, OKs.print HE1.out.2⟩
            go_wp2_with fail
            go_meet
            case rel => exact ⟨_, _, _, _, _, _, _, _, _, _, _, _, _, _, rfl, HOO⟩
          have f18 : ¬ (k : Int) < 18 := by omega
          by_cases k20 : k < 20
          · have f20 : (k : Int) < 20 := by omega
            by_cases hdp : deep < 3
            · by_cases hels : x.b.tmod 3 = 0
              · have gels : (x.b.tmod 3 == 0) = true := by rw [hels]; rfl
                have PB : Hid (∀ (W : World) (l' : List Ac) (lv : Value) (m : Nat), Kept wr W → ActsR W hi l' lv → l'.length ≤ ls.length - 1 → m ≤ 2 → Calls Try.prog 28 #[lv, .int .i64 (1 + (m : Int)), .int .i64 (deep + 1)] W fun r w' => MadeS W hi l'.length (1 + (m : Int)) (Ed (deep + 1)) r w') := by
                  intro W l' lv m hW hl' hle hm
                  exact HH.out (n - 1) (by omega) l' W hi lv _ _ (by omega) (by omega) (Nat.le_trans (Nat.le_trans hhi hKw) hW.size) hl' (by omega) (by omega) (by omega) (by omega)
                obtain ⟨vk, vhk, -, vhp⟩ := pick_nat x.a 2 (by omega) (by omega)
                have vP : Hid (∀ w, Calls Try.prog 16 #[.int .i64 x.a, .int .i64 2] w fun e w' => e = .returned (.int .i64 (vk : Int)) ∧ w' = w) := vhp
                have vhi : (vk : Int) < 2 := by omega
                clear vhp
                obtain ⟨uk, uhk, -, uhp⟩ := pick_nat x.n 2 (by omega) (by omega)
                have uP : Hid (∀ w, Calls Try.prog 16 #[.int .i64 x.n, .int .i64 2] w fun e w' => e = .returned (.int .i64 (uk : Int)) ∧ w' = w) := uhp
                have uhi : (uk : Int) < 2 := by omega
                clear uhp
                go_wp2_with fail
                refine (PS.out _ (((Kept.refl wr).al _).al _)).mono ?_
                rintro r w1 ⟨e1, a5, n5, q5, rfl, HV⟩
                have HB1 : Hid (BoxS w1 (wr.heap.size + 1) [.int .i64 7, .string ⟨#[]⟩, .string ⟨#[]⟩, .int .i64 0, .int .i64 0, .int .i64 0, .string ⟨#[]⟩, .slice none 0 0, .slice none 0 0, .slice none 0 0, .complex .f64 0 0]) := BoxS.kept (w := ((wr.alloc (.cells #[.int .i64 x.what, .int .i64 x.a, .int .i64 x.b, .int .i64 x.n, .slice ax nx qx] 79)).alloc (.cells #[.int .i64 7, .string ⟨#[]⟩, .string ⟨#[]⟩, .int .i64 0, .int .i64 0, .int .i64 0, .string ⟨#[]⟩, .slice none 0 0, .slice none 0 0, .slice none 0 0, .complex .f64 0 0] 46))) ⟨fun j v hv => by
                    match j, hv with
                    | 0, hv => simp at hv; subst hv; simp
                    | 1, hv => simp at hv; subst hv; simp
                    | 2, hv => simp at hv; subst hv; simp
                    | 3, hv => simp at hv; subst hv; simp
                    | 4, hv => simp at hv; subst hv; simp
                    | 5, hv => simp at hv; subst hv; simp
                    | 6, hv => simp at hv; subst hv; simp
                    | 7, hv => simp at hv; subst hv; simp
                    | 8, hv => simp at hv; subst hv; simp
                    | 9, hv => simp at hv; subst hv; simp
                    | 10, hv => simp at hv; subst hv; simp, fun j => by simp, by simp⟩ HV.out.2.2
                have HX1 : Hid (w1.cell? ⟨wr.heap.size, 0, none⟩ = some (.int .i64 x.what) ∧ w1.cell? ⟨wr.heap.size, 1, none⟩ = some (.int .i64 x.a) ∧ w1.cell? ⟨wr.heap.size, 2, none⟩ = some (.int .i64 x.b) ∧ w1.cell? ⟨wr.heap.size, 3, none⟩ = some (.int .i64 x.n)) := ⟨HV.out.2.2.cellS (by simp), HV.out.2.2.cellS (by simp), HV.out.2.2.cellS (by simp), HV.out.2.2.cellS (by simp)⟩
                have HK1 : Hid (Kept wr w1 ∧ wr.heap.size + 2 ≤ w1.heap.size) := ⟨(((Kept.refl wr).al _).al _).then HV.out.2.2, by have := HV.out.2.2.size; simpa using this⟩
                have HE1 : Hid (ExsIn w1 (wr.heap.size + 2) w1.heap.size e1.of (.slice a5 n5 q5) ∧ (e1.size ≤ 7 ∧ Px.Sx e1)) := ⟨HV.out.1.mono (Rng.up (by simp) (Nat.le_refl _)), HV.out.2.1⟩
                clear HV
                have y0 : w1.cell? ⟨wr.heap.size + 1, 0, none⟩ = some (.int .i64 7) := HB1.out.rng 0 _ rfl
                have y1 : w1.cell? ⟨wr.heap.size + 1, 1, none⟩ = some (.string ⟨#[]⟩) := HB1.out.rng 1 _ rfl
                have y2 : w1.cell? ⟨wr.heap.size + 1, 2, none⟩ = some (.string ⟨#[]⟩) := HB1.out.rng 2 _ rfl
                have y3 : w1.cell? ⟨wr.heap.size + 1, 3, none⟩ = some (.int .i64 0) := HB1.out.rng 3 _ rfl
                have y4 : w1.cell? ⟨wr.heap.size + 1, 4, none⟩ = some (.int .i64 0) := HB1.out.rng 4 _ rfl
                have y5 : w1.cell? ⟨wr.heap.size + 1, 5, none⟩ = some (.int .i64 0) := HB1.out.rng 5 _ rfl
                have y6 : w1.cell? ⟨wr.heap.size + 1, 6, none⟩ = some (.string ⟨#[]⟩) := HB1.out.rng 6 _ rfl
                have y7 : w1.cell? ⟨wr.heap.size + 1, 7, none⟩ = some (.slice none 0 0) := HB1.out.rng 7 _ rfl
                have y8 : w1.cell? ⟨wr.heap.size + 1, 8, none⟩ = some (.slice none 0 0) := HB1.out.rng 8 _ rfl
                have y9 : w1.cell? ⟨wr.heap.size + 1, 9, none⟩ = some (.slice none 0 0) := HB1.out.rng 9 _ rfl
                have y10 : w1.cell? ⟨wr.heap.size + 1, 10, none⟩ = some (.complex .f64 0 0) := HB1.out.rng 10 _ rfl
                have yf : ∀ j, w1.frozen? ⟨wr.heap.size + 1, j, none⟩ = false := HB1.out.fz
                have HXX : Hid (w1.cell? ⟨wr.heap.size, 1, none⟩ = some (.int .i64 x.a) ∧ w1.cell? ⟨wr.heap.size, 2, none⟩ = some (.int .i64 x.b) ∧ w1.cell? ⟨wr.heap.size, 3, none⟩ = some (.int .i64 x.n)) := ⟨HX1.out.2.1, HX1.out.2.2.1, HX1.out.2.2.2⟩
                have w1x1 : w1.cell? ⟨wr.heap.size, 1, none⟩ = some (.int .i64 x.a) := HXX.out.1
                have w1x2 : w1.cell? ⟨wr.heap.size, 2, none⟩ = some (.int .i64 x.b) := HXX.out.2.1
                have w1x3 : w1.cell? ⟨wr.heap.size, 3, none⟩ = some (.int .i64 x.n) := HXX.out.2.2
                have hz1 : wr.heap.size + 1 < w1.heap.size := HB1.out.lt
                have hz1b : wr.heap.size < w1.heap.size := by omega
                go_wp2_with fail
                refine (vP.out _).mono ?_
                rintro e w' ⟨rfl, rfl⟩
                have HBC : Hid (BoxS ((((w1.setCell ⟨wr.heap.size + 1, 4, none⟩ (.int .i64 e1.kind)).setCell ⟨wr.heap.size + 1, 5, none⟩ (.int .i64 e1.n)).setCell ⟨wr.heap.size + 1, 6, none⟩ (.string e1.name)).setCell ⟨wr.heap.size + 1, 7, none⟩ (.slice a5 n5 q5)) (wr.heap.size + 1) [.int .i64 7, .string ⟨#[]⟩, .string ⟨#[]⟩, .int .i64 0, .int .i64 e1.kind, .int .i64 e1.n, .string e1.name, .slice a5 n5 q5, .slice none 0 0, .slice none 0 0, .complex .f64 0 0]) := HB1.out.set 4 [.int .i64 e1.kind, .int .i64 e1.n, .string e1.name, .slice a5 n5 q5] (by simp)
                have HXC : Hid (((((w1.setCell ⟨wr.heap.size + 1, 4, none⟩ (.int .i64 e1.kind)).setCell ⟨wr.heap.size + 1, 5, none⟩ (.int .i64 e1.n)).setCell ⟨wr.heap.size + 1, 6, none⟩ (.string e1.name)).setCell ⟨wr.heap.size + 1, 7, none⟩ (.slice a5 n5 q5)).cell? ⟨wr.heap.size, 1, none⟩ = some (.int .i64 x.a) ∧ ((((w1.setCell ⟨wr.heap.size + 1, 4, none⟩ (.int .i64 e1.kind)).setCell ⟨wr.heap.size + 1, 5, none⟩ (.int .i64 e1.n)).setCell ⟨wr.heap.size + 1, 6, none⟩ (.string e1.name)).setCell ⟨wr.heap.size + 1, 7, none⟩ (.slice a5 n5 q5)).cell? ⟨wr.heap.size, 2, none⟩ = some (.int .i64 x.b) ∧ ((((w1.setCell ⟨wr.heap.size + 1, 4, none⟩ (.int .i64 e1.kind)).setCell ⟨wr.heap.size + 1, 5, none⟩ (.int .i64 e1.n)).setCell ⟨wr.heap.size + 1, 6, none⟩ (.string e1.name)).setCell ⟨wr.heap.size + 1, 7, none⟩ (.slice a5 n5 q5)).cell? ⟨wr.heap.size, 3, none⟩ = some (.int .i64 x.n)) := by
                  refine ⟨?_, ?_, ?_⟩
                  · rw [World.cell?_setCell_other _ _ _ _ (by simp), World.cell?_setCell_other _ _ _ _ (by simp), World.cell?_setCell_other _ _ _ _ (by simp), World.cell?_setCell_other _ _ _ _ (by simp)]; exact w1x1
                  · rw [World.cell?_setCell_other _ _ _ _ (by simp), World.cell?_setCell_other _ _ _ _ (by simp), World.cell?_setCell_other _ _ _ _ (by simp), World.cell?_setCell_other _ _ _ _ (by simp)]; exact w1x2
                  · rw [World.cell?_setCell_other _ _ _ _ (by simp), World.cell?_setCell_other _ _ _ _ (by simp), World.cell?_setCell_other _ _ _ _ (by simp), World.cell?_setCell_other _ _ _ _ (by simp)]; exact w1x3
                have hsC1 : ((((w1.setCell ⟨wr.heap.size + 1, 4, none⟩ (.int .i64 e1.kind)).setCell ⟨wr.heap.size + 1, 5, none⟩ (.int .i64 e1.n)).setCell ⟨wr.heap.size + 1, 6, none⟩ (.string e1.name)).setCell ⟨wr.heap.size + 1, 7, none⟩ (.slice a5 n5 q5)).heap.size = w1.heap.size := size_setCells (wr.heap.size + 1) [.int .i64 e1.kind, .int .i64 e1.n, .string e1.name, .slice a5 n5 q5] 4 w1
                have HSC1 : Hid _ := hsC1
                clear hsC1
                have HEC : Hid (ExsIn ((((w1.setCell ⟨wr.heap.size + 1, 4, none⟩ (.int .i64 e1.kind)).setCell ⟨wr.heap.size + 1, 5, none⟩ (.int .i64 e1.n)).setCell ⟨wr.heap.size + 1, 6, none⟩ (.string e1.name)).setCell ⟨wr.heap.size + 1, 7, none⟩ (.slice a5 n5 q5)) (wr.heap.size + 2) w1.heap.size e1.of (.slice a5 n5 q5)) := HE1.out.1.stays (w' := w1.setCells (wr.heap.size + 1) 4 [.int .i64 e1.kind, .int .i64 e1.n, .string e1.name, .slice a5 n5 q5]) fun i hi => heap_setCells _ _ _ _ i (by have := hi.1; omega)
                go_wp2_with fail
                refine (PB.out _ _ _ vk ((Below.setCells HK1.out.1 (by omega) [.int .i64 e1.kind, .int .i64 e1.n, .string e1.name, .slice a5 n5 q5] 4 : Below _ wr (w1.setCells (wr.heap.size + 1) 4 [.int .i64 e1.kind, .int .i64 e1.n, .string e1.name, .slice a5 n5 q5]))) (HR.out.1.kept ((Below.setCells HK1.out.1 (by omega) [.int .i64 e1.kind, .int .i64 e1.n, .string e1.name, .slice a5 n5 q5] 4 : Below _ wr (w1.setCells (wr.heap.size + 1) 4 [.int .i64 e1.kind, .int .i64 e1.n, .string e1.name, .slice a5 n5 q5])))) (by have := HR.out.2; omega) (by omega)).mono ?_
                rintro r w2 ⟨ssB, aB6, nB6, qB6, restB, aB7, nB7, qB7, rfl, HMB⟩
                have HBB : Hid (BoxS w2 (wr.heap.size + 1) [.int .i64 7, .string ⟨#[]⟩, .string ⟨#[]⟩, .int .i64 0, .int .i64 e1.kind, .int .i64 e1.n, .string e1.name, .slice a5 n5 q5, .slice none 0 0, .slice none 0 0, .complex .f64 0 0]) := BoxS.kept (w := ((((w1.setCell ⟨wr.heap.size + 1, 4, none⟩ (.int .i64 e1.kind)).setCell ⟨wr.heap.size + 1, 5, none⟩ (.int .i64 e1.n)).setCell ⟨wr.heap.size + 1, 6, none⟩ (.string e1.name)).setCell ⟨wr.heap.size + 1, 7, none⟩ (.slice a5 n5 q5))) (HBC.out) HMB.out.2.2.2.2.2
                have HXB : Hid (w2.cell? ⟨wr.heap.size, 1, none⟩ = some (.int .i64 x.a) ∧ w2.cell? ⟨wr.heap.size, 2, none⟩ = some (.int .i64 x.b) ∧ w2.cell? ⟨wr.heap.size, 3, none⟩ = some (.int .i64 x.n)) := ⟨HMB.out.2.2.2.2.2.cellS (HXC.out).1, HMB.out.2.2.2.2.2.cellS (HXC.out).2.1, HMB.out.2.2.2.2.2.cellS (HXC.out).2.2⟩
                have HKB : Hid (Kept wr w2) := Kept.then (a := wr) (b := ((((w1.setCell ⟨wr.heap.size + 1, 4, none⟩ (.int .i64 e1.kind)).setCell ⟨wr.heap.size + 1, 5, none⟩ (.int .i64 e1.n)).setCell ⟨wr.heap.size + 1, 6, none⟩ (.string e1.name)).setCell ⟨wr.heap.size + 1, 7, none⟩ (.slice a5 n5 q5))) ((Below.setCells HK1.out.1 (by omega) [.int .i64 e1.kind, .int .i64 e1.n, .string e1.name, .slice a5 n5 q5] 4 : Below _ wr (w1.setCells (wr.heap.size + 1) 4 [.int .i64 e1.kind, .int .i64 e1.n, .string e1.name, .slice a5 n5 q5]))) HMB.out.2.2.2.2.2
                have HEB : Hid (ExsIn w2 (wr.heap.size + 2) w1.heap.size e1.of (.slice a5 n5 q5)) := HEC.out.stays (HMB.out.2.2.2.2.2.stays (Nat.le_of_eq HSC1.out.symm))
                have hzw2 : wr.heap.size + 1 < w2.heap.size := HBB.out.lt
                have hzw2b : wr.heap.size < w2.heap.size := by omega
                have hz12 : w1.heap.size ≤ w2.heap.size := Nat.le_trans (Nat.le_of_eq HSC1.out.symm) HMB.out.2.2.2.2.2.size
                have HSB : Hid (StsIn w2 (wr.heap.size + 2) w2.heap.size ssB (.slice aB6 nB6 qB6)) := HMB.out.1.mono (Rng.up (Nat.le_trans HK1.out.2 (Nat.le_of_eq HSC1.out.symm)) (Nat.le_refl _))
                clear y0 y1 y2 y3 y4 y5 y6 y7 y8 y9 y10 yf w1x1 w1x2 w1x3
                have z0 : w2.cell? ⟨wr.heap.size + 1, 0, none⟩ = some (.int .i64 7) := HBB.out.rng 0 _ rfl
                have z1 : w2.cell? ⟨wr.heap.size + 1, 1, none⟩ = some (.string ⟨#[]⟩) := HBB.out.rng 1 _ rfl
                have z2 : w2.cell? ⟨wr.heap.size + 1, 2, none⟩ = some (.string ⟨#[]⟩) := HBB.out.rng 2 _ rfl
                have z3 : w2.cell? ⟨wr.heap.size + 1, 3, none⟩ = some (.int .i64 0) := HBB.out.rng 3 _ rfl
                have z4 : w2.cell? ⟨wr.heap.size + 1, 4, none⟩ = some (.int .i64 e1.kind) := HBB.out.rng 4 _ rfl
                have z5 : w2.cell? ⟨wr.heap.size + 1, 5, none⟩ = some (.int .i64 e1.n) := HBB.out.rng 5 _ rfl
                have z6 : w2.cell? ⟨wr.heap.size + 1, 6, none⟩ = some (.string e1.name) := HBB.out.rng 6 _ rfl
                have z7 : w2.cell? ⟨wr.heap.size + 1, 7, none⟩ = some (.slice a5 n5 q5) := HBB.out.rng 7 _ rfl
                have z8 : w2.cell? ⟨wr.heap.size + 1, 8, none⟩ = some (.slice none 0 0) := HBB.out.rng 8 _ rfl
                have z9 : w2.cell? ⟨wr.heap.size + 1, 9, none⟩ = some (.slice none 0 0) := HBB.out.rng 9 _ rfl
                have z10 : w2.cell? ⟨wr.heap.size + 1, 10, none⟩ = some (.complex .f64 0 0) := HBB.out.rng 10 _ rfl
                have zf : ∀ j, w2.frozen? ⟨wr.heap.size + 1, j, none⟩ = false := HBB.out.fz
                have w2x1 : w2.cell? ⟨wr.heap.size, 1, none⟩ = some (.int .i64 x.a) := HXB.out.1
                have w2x2 : w2.cell? ⟨wr.heap.size, 2, none⟩ = some (.int .i64 x.b) := HXB.out.2.1
                have w2x3 : w2.cell? ⟨wr.heap.size, 3, none⟩ = some (.int .i64 x.n) := HXB.out.2.2
                have sw28 : (w2.setCell ⟨wr.heap.size + 1, 8, none⟩ (.slice aB6 nB6 qB6)).cell? ⟨wr.heap.size + 1, 8, none⟩ = some (.slice aB6 nB6 qB6) := World.cell?_setCell_same _ _ _ z8
                go_wp2_with fail
                refine (uP.out _).mono ?_
                rintro e w' ⟨rfl, rfl⟩
                have HBC2 : Hid (BoxS (w2.setCell ⟨wr.heap.size + 1, 8, none⟩ (.slice aB6 nB6 qB6)) (wr.heap.size + 1) [.int .i64 7, .string ⟨#[]⟩, .string ⟨#[]⟩, .int .i64 0, .int .i64 e1.kind, .int .i64 e1.n, .string e1.name, .slice a5 n5 q5, .slice aB6 nB6 qB6, .slice none 0 0, .complex .f64 0 0]) := HBB.out.set 8 [.slice aB6 nB6 qB6] (by simp)
                have HXC2 : Hid ((w2.setCell ⟨wr.heap.size + 1, 8, none⟩ (.slice aB6 nB6 qB6)).cell? ⟨wr.heap.size, 1, none⟩ = some (.int .i64 x.a) ∧ (w2.setCell ⟨wr.heap.size + 1, 8, none⟩ (.slice aB6 nB6 qB6)).cell? ⟨wr.heap.size, 2, none⟩ = some (.int .i64 x.b) ∧ (w2.setCell ⟨wr.heap.size + 1, 8, none⟩ (.slice aB6 nB6 qB6)).cell? ⟨wr.heap.size, 3, none⟩ = some (.int .i64 x.n)) := by
                  refine ⟨?_, ?_, ?_⟩
                  · rw [World.cell?_setCell_other _ _ _ _ (by simp)]; exact w2x1
                  · rw [World.cell?_setCell_other _ _ _ _ (by simp)]; exact w2x2
                  · rw [World.cell?_setCell_other _ _ _ _ (by simp)]; exact w2x3
                have hsC2 : (w2.setCell ⟨wr.heap.size + 1, 8, none⟩ (.slice aB6 nB6 qB6)).heap.size = w2.heap.size := size_setCells (wr.heap.size + 1) [.slice aB6 nB6 qB6] 8 w2
                have HSC2 : Hid _ := hsC2
                clear hsC2
                have HEC2 : Hid (ExsIn (w2.setCell ⟨wr.heap.size + 1, 8, none⟩ (.slice aB6 nB6 qB6)) (wr.heap.size + 2) w1.heap.size e1.of (.slice a5 n5 q5)) := HEB.out.stays (w' := w2.setCells (wr.heap.size + 1) 8 [.slice aB6 nB6 qB6]) (fun i hi => heap_setCells (wr.heap.size + 1) [.slice aB6 nB6 qB6] 8 w2 i (by have := hi.1; omega))
                have HSC : Hid (StsIn (w2.setCell ⟨wr.heap.size + 1, 8, none⟩ (.slice aB6 nB6 qB6)) (wr.heap.size + 2) w2.heap.size ssB (.slice aB6 nB6 qB6)) := HSB.out.stays (w' := w2.setCells (wr.heap.size + 1) 8 [.slice aB6 nB6 qB6]) (fun i hi => heap_setCells (wr.heap.size + 1) [.slice aB6 nB6 qB6] 8 w2 i (by have := hi.1; omega))
                go_wp2_with fail
                refine (PB.out _ _ _ uk ((Below.setCells HKB.out (by omega) [.slice aB6 nB6 qB6] 8 : Below _ wr (w2.setCells (wr.heap.size + 1) 8 [.slice aB6 nB6 qB6]))) (HMB.out.2.1.below (Below.setCells (Below.refl hi w2) (by omega) [.slice aB6 nB6 qB6] 8 : Below _ w2 (w2.setCells (wr.heap.size + 1) 8 [.slice aB6 nB6 qB6]))) (by have h1 := HR.out.2; have h2 := HMB.out.2.2.1; omega) (by omega)).mono ?_
                rintro r w3 ⟨ssE, aE6, nE6, qE6, restE, aE7, nE7, qE7, rfl, HME⟩
                have HBE : Hid (BoxS w3 (wr.heap.size + 1) [.int .i64 7, .string ⟨#[]⟩, .string ⟨#[]⟩, .int .i64 0, .int .i64 e1.kind, .int .i64 e1.n, .string e1.name, .slice a5 n5 q5, .slice aB6 nB6 qB6, .slice none 0 0, .complex .f64 0 0]) := BoxS.kept (w := (w2.setCell ⟨wr.heap.size + 1, 8, none⟩ (.slice aB6 nB6 qB6))) (HBC2.out) HME.out.2.2.2.2.2
                have HXE : Hid (w3.cell? ⟨wr.heap.size, 1, none⟩ = some (.int .i64 x.a) ∧ w3.cell? ⟨wr.heap.size, 2, none⟩ = some (.int .i64 x.b) ∧ w3.cell? ⟨wr.heap.size, 3, none⟩ = some (.int .i64 x.n)) := ⟨HME.out.2.2.2.2.2.cellS (HXC2.out).1, HME.out.2.2.2.2.2.cellS (HXC2.out).2.1, HME.out.2.2.2.2.2.cellS (HXC2.out).2.2⟩
                have HKE : Hid (Kept wr w3) := Kept.then (a := wr) (b := (w2.setCell ⟨wr.heap.size + 1, 8, none⟩ (.slice aB6 nB6 qB6))) ((Below.setCells HKB.out (by omega) [.slice aB6 nB6 qB6] 8 : Below _ wr (w2.setCells (wr.heap.size + 1) 8 [.slice aB6 nB6 qB6]))) HME.out.2.2.2.2.2
                have hz23 : w2.heap.size ≤ w3.heap.size := Nat.le_trans (Nat.le_of_eq HSC2.out.symm) HME.out.2.2.2.2.2.size
                have hzw3 : wr.heap.size + 1 < w3.heap.size := HBE.out.lt
                have hzw3b : wr.heap.size < w3.heap.size := by omega
                have HEE : Hid (ExsIn w3 (wr.heap.size + 2) w1.heap.size e1.of (.slice a5 n5 q5)) := HEC2.out.stays (HME.out.2.2.2.2.2.stays (Nat.le_trans hz12 (Nat.le_of_eq HSC2.out.symm)))
                have HSE1 : Hid (StsIn w3 (wr.heap.size + 2) w2.heap.size ssB (.slice aB6 nB6 qB6)) := HSC.out.stays (HME.out.2.2.2.2.2.stays (Nat.le_of_eq HSC2.out.symm))
                have HSE2 : Hid (StsIn w3 (wr.heap.size + 2) w3.heap.size ssE (.slice aE6 nE6 qE6)) := HME.out.1.mono (Rng.up (Nat.le_trans hzw2 (Nat.le_of_eq HSC2.out.symm)) (Nat.le_refl _))
                clear z0 z1 z2 z3 z4 z5 z6 z7 z8 z9 z10 zf w2x1 w2x2 w2x3 sw28
                have t0 : w3.cell? ⟨wr.heap.size + 1, 0, none⟩ = some (.int .i64 7) := HBE.out.rng 0 _ rfl
                have t1 : w3.cell? ⟨wr.heap.size + 1, 1, none⟩ = some (.string ⟨#[]⟩) := HBE.out.rng 1 _ rfl
                have t2 : w3.cell? ⟨wr.heap.size + 1, 2, none⟩ = some (.string ⟨#[]⟩) := HBE.out.rng 2 _ rfl
                have t3 : w3.cell? ⟨wr.heap.size + 1, 3, none⟩ = some (.int .i64 0) := HBE.out.rng 3 _ rfl
                have t4 : w3.cell? ⟨wr.heap.size + 1, 4, none⟩ = some (.int .i64 e1.kind) := HBE.out.rng 4 _ rfl
                have t5 : w3.cell? ⟨wr.heap.size + 1, 5, none⟩ = some (.int .i64 e1.n) := HBE.out.rng 5 _ rfl
                have t6 : w3.cell? ⟨wr.heap.size + 1, 6, none⟩ = some (.string e1.name) := HBE.out.rng 6 _ rfl
                have t7 : w3.cell? ⟨wr.heap.size + 1, 7, none⟩ = some (.slice a5 n5 q5) := HBE.out.rng 7 _ rfl
                have t8 : w3.cell? ⟨wr.heap.size + 1, 8, none⟩ = some (.slice aB6 nB6 qB6) := HBE.out.rng 8 _ rfl
                have t9 : w3.cell? ⟨wr.heap.size + 1, 9, none⟩ = some (.slice none 0 0) := HBE.out.rng 9 _ rfl
                have t10 : w3.cell? ⟨wr.heap.size + 1, 10, none⟩ = some (.complex .f64 0 0) := HBE.out.rng 10 _ rfl
                have tf : ∀ j, w3.frozen? ⟨wr.heap.size + 1, j, none⟩ = false := HBE.out.fz
                have sw39 : (w3.setCell ⟨wr.heap.size + 1, 9, none⟩ (.slice aE6 nE6 qE6)).cell? ⟨wr.heap.size + 1, 9, none⟩ = some (.slice aE6 nE6 qE6) := World.cell?_setCell_same _ _ _ t9
                have HKK : Hid (Kept wr (w3.setCell ⟨wr.heap.size + 1, 9, none⟩ (.slice aE6 nE6 qE6))) := (Below.setCells HKE.out (by omega) [.slice aE6 nE6 qE6] 9 : Below _ wr (w3.setCells (wr.heap.size + 1) 9 [.slice aE6 nE6 qE6]))
                have HOO : Hid (SwO wr (w3.setCell ⟨wr.heap.size + 1, 9, none⟩ (.slice aE6 nE6 qE6)) hi ls.length (Ed deep) ⟨(.mk 7 ⟨#[]⟩ ⟨#[]⟩ 0 e1 ssB ssE 0 0), .slice a5 n5 q5, .slice aB6 nB6 qB6, .slice aE6 nE6 qE6⟩ restE _) := ⟨HBE.out.set 9 [.slice aE6 nE6 qE6] (by simp), ⟨((HEE.out.stays (w' := w3.setCells (wr.heap.size + 1) 9 [.slice aE6 nE6 qE6]) (fun i hi => heap_setCells (wr.heap.size + 1) [.slice aE6 nE6 qE6] 9 w3 i (by have := hi.1; omega))).mono (Rng.up (by omega) (Nat.le_trans (by omega) (Nat.le_of_eq (size_setCells (wr.heap.size + 1) [.slice aE6 nE6 qE6] 9 w3).symm)))), ((HSE1.out.stays (w' := w3.setCells (wr.heap.size + 1) 9 [.slice aE6 nE6 qE6]) (fun i hi => heap_setCells (wr.heap.size + 1) [.slice aE6 nE6 qE6] 9 w3 i (by have := hi.1; omega))).mono (Rng.up (by omega) (Nat.le_trans (by omega) (Nat.le_of_eq (size_setCells (wr.heap.size + 1) [.slice aE6 nE6 qE6] 9 w3).symm)))), ((HSE2.out.stays (w' := w3.setCells (wr.heap.size + 1) 9 [.slice aE6 nE6 qE6]) (fun i hi => heap_setCells (wr.heap.size + 1) [.slice aE6 nE6 qE6] 9 w3 i (by have := hi.1; omega))).mono (Rng.up (by omega) (Nat.le_trans (by omega) (Nat.le_of_eq (size_setCells (wr.heap.size + 1) [.slice aE6 nE6 qE6] 9 w3).symm))))⟩, HKK.out, HME.out.2.1.below (Below.setCells (Below.refl hi w3) (by omega) [.slice aE6 nE6 qE6] 9 : Below _ w3 (w3.setCells (wr.heap.size + 1) 9 [.slice aE6 nE6 qE6])), by have h1 := HR.out.2; have h2 := HMB.out.2.2.1; have h3 := HME.out.2.2.1; rw [St.size_eq]; show 1 + (St.sizes ssB + St.sizes ssE) + _ ≤ _; omega, OKs.cond hdp HE1.out.2 HMB.out.2.2.2.1 HME.out.2.2.2.1⟩
                go_wp2_with fail
                go_meet
                case rel => exact ⟨_, _, _, _, _, _, _, _, _, _, _, _, _, _, rfl, HOO⟩
              · have gels : (x.b.tmod 3 == 0) = false := by rw [beq_eq_false_iff_ne]; exact hels
                have PB : Hid (∀ (W : World) (l' : List Ac) (lv : Value) (m : Nat), Kept wr W → ActsR W hi l' lv → l'.length ≤ ls.length - 1 → m ≤ 2 → Calls Try.prog 28 #[lv, .int .i64 (1 + (m : Int)), .int .i64 (deep + 1)] W fun r w' => MadeS W hi l'.length (1 + (m : Int)) (Ed (deep + 1)) r w') := by
                  intro W l' lv m hW hl' hle hm
                  exact HH.out (n - 1) (by omega) l' W hi lv _ _ (by omega) (by omega) (Nat.le_trans (Nat.le_trans hhi hKw) hW.size) hl' (by omega) (by omega) (by omega) (by omega)
                obtain ⟨vk, vhk, -, vhp⟩ := pick_nat x.a 2 (by omega) (by omega)
                have vP : Hid (∀ w, Calls Try.prog 16 #[.int .i64 x.a, .int .i64 2] w fun e w' => e = .returned (.int .i64 (vk : Int)) ∧ w' = w) := vhp
                have vhi : (vk : Int) < 2 := by omega
                clear vhp
                go_wp2_with fail
                refine (PS.out _ (((Kept.refl wr).al _).al _)).mono ?_
                rintro r w1 ⟨e1, a5, n5, q5, rfl, HV⟩
                have HB1 : Hid (BoxS w1 (wr.heap.size + 1) [.int .i64 7, .string ⟨#[]⟩, .string ⟨#[]⟩, .int .i64 0, .int .i64 0, .int .i64 0, .string ⟨#[]⟩, .slice none 0 0, .slice none 0 0, .slice none 0 0, .complex .f64 0 0]) := BoxS.kept (w := ((wr.alloc (.cells #[.int .i64 x.what, .int .i64 x.a, .int .i64 x.b, .int .i64 x.n, .slice ax nx qx] 79)).alloc (.cells #[.int .i64 7, .string ⟨#[]⟩, .string ⟨#[]⟩, .int .i64 0, .int .i64 0, .int .i64 0, .string ⟨#[]⟩, .slice none 0 0, .slice none 0 0, .slice none 0 0, .complex .f64 0 0] 46))) ⟨fun j v hv => by
                    match j, hv with
                    | 0, hv => simp at hv; subst hv; simp
                    | 1, hv => simp at hv; subst hv; simp
                    | 2, hv => simp at hv; subst hv; simp
                    | 3, hv => simp at hv; subst hv; simp
                    | 4, hv => simp at hv; subst hv; simp
                    | 5, hv => simp at hv; subst hv; simp
                    | 6, hv => simp at hv; subst hv; simp
                    | 7, hv => simp at hv; subst hv; simp
                    | 8, hv => simp at hv; subst hv; simp
                    | 9, hv => simp at hv; subst hv; simp
                    | 10, hv => simp at hv; subst hv; simp, fun j => by simp, by simp⟩ HV.out.2.2
                have HX1 : Hid (w1.cell? ⟨wr.heap.size, 0, none⟩ = some (.int .i64 x.what) ∧ w1.cell? ⟨wr.heap.size, 1, none⟩ = some (.int .i64 x.a) ∧ w1.cell? ⟨wr.heap.size, 2, none⟩ = some (.int .i64 x.b) ∧ w1.cell? ⟨wr.heap.size, 3, none⟩ = some (.int .i64 x.n)) := ⟨HV.out.2.2.cellS (by simp), HV.out.2.2.cellS (by simp), HV.out.2.2.cellS (by simp), HV.out.2.2.cellS (by simp)⟩
                have HK1 : Hid (Kept wr w1 ∧ wr.heap.size + 2 ≤ w1.heap.size) := ⟨(((Kept.refl wr).al _).al _).then HV.out.2.2, by have := HV.out.2.2.size; simpa using this⟩
                have HE1 : Hid (ExsIn w1 (wr.heap.size + 2) w1.heap.size e1.of (.slice a5 n5 q5) ∧ (e1.size ≤ 7 ∧ Px.Sx e1)) := ⟨HV.out.1.mono (Rng.up (by simp) (Nat.le_refl _)), HV.out.2.1⟩
                clear HV
                have y0 : w1.cell? ⟨wr.heap.size + 1, 0, none⟩ = some (.int .i64 7) := HB1.out.rng 0 _ rfl
                have y1 : w1.cell? ⟨wr.heap.size + 1, 1, none⟩ = some (.string ⟨#[]⟩) := HB1.out.rng 1 _ rfl
                have y2 : w1.cell? ⟨wr.heap.size + 1, 2, none⟩ = some (.string ⟨#[]⟩) := HB1.out.rng 2 _ rfl
                have y3 : w1.cell? ⟨wr.heap.size + 1, 3, none⟩ = some (.int .i64 0) := HB1.out.rng 3 _ rfl
                have y4 : w1.cell? ⟨wr.heap.size + 1, 4, none⟩ = some (.int .i64 0) := HB1.out.rng 4 _ rfl
                have y5 : w1.cell? ⟨wr.heap.size + 1, 5, none⟩ = some (.int .i64 0) := HB1.out.rng 5 _ rfl
                have y6 : w1.cell? ⟨wr.heap.size + 1, 6, none⟩ = some (.string ⟨#[]⟩) := HB1.out.rng 6 _ rfl
                have y7 : w1.cell? ⟨wr.heap.size + 1, 7, none⟩ = some (.slice none 0 0) := HB1.out.rng 7 _ rfl
                have y8 : w1.cell? ⟨wr.heap.size + 1, 8, none⟩ = some (.slice none 0 0) := HB1.out.rng 8 _ rfl
                have y9 : w1.cell? ⟨wr.heap.size + 1, 9, none⟩ = some (.slice none 0 0) := HB1.out.rng 9 _ rfl
                have y10 : w1.cell? ⟨wr.heap.size + 1, 10, none⟩ = some (.complex .f64 0 0) := HB1.out.rng 10 _ rfl
                have yf : ∀ j, w1.frozen? ⟨wr.heap.size + 1, j, none⟩ = false := HB1.out.fz
                have HXX : Hid (w1.cell? ⟨wr.heap.size, 1, none⟩ = some (.int .i64 x.a) ∧ w1.cell? ⟨wr.heap.size, 2, none⟩ = some (.int .i64 x.b) ∧ w1.cell? ⟨wr.heap.size, 3, none⟩ = some (.int .i64 x.n)) := ⟨HX1.out.2.1, HX1.out.2.2.1, HX1.out.2.2.2⟩
                have w1x1 : w1.cell? ⟨wr.heap.size, 1, none⟩ = some (.int .i64 x.a) := HXX.out.1
                have w1x2 : w1.cell? ⟨wr.heap.size, 2, none⟩ = some (.int .i64 x.b) := HXX.out.2.1
                have w1x3 : w1.cell? ⟨wr.heap.size, 3, none⟩ = some (.int .i64 x.n) := HXX.out.2.2
                have hz1 : wr.heap.size + 1 < w1.heap.size := HB1.out.lt
                have hz1b : wr.heap.size < w1.heap.size := by omega
                go_wp2_with fail
                refine (vP.out _).mono ?_
                rintro e w' ⟨rfl, rfl⟩
                have HBC : Hid (BoxS ((((w1.setCell ⟨wr.heap.size + 1, 4, none⟩ (.int .i64 e1.kind)).setCell ⟨wr.heap.size + 1, 5, none⟩ (.int .i64 e1.n)).setCell ⟨wr.heap.size + 1, 6, none⟩ (.string e1.name)).setCell ⟨wr.heap.size + 1, 7, none⟩ (.slice a5 n5 q5)) (wr.heap.size + 1) [.int .i64 7, .string ⟨#[]⟩, .string ⟨#[]⟩, .int .i64 0, .int .i64 e1.kind, .int .i64 e1.n, .string e1.name, .slice a5 n5 q5, .slice none 0 0, .slice none 0 0, .complex .f64 0 0]) := HB1.out.set 4 [.int .i64 e1.kind, .int .i64 e1.n, .string e1.name, .slice a5 n5 q5] (by simp)
                have HXC : Hid (((((w1.setCell ⟨wr.heap.size + 1, 4, none⟩ (.int .i64 e1.kind)).setCell ⟨wr.heap.size + 1, 5, none⟩ (.int .i64 e1.n)).setCell ⟨wr.heap.size + 1, 6, none⟩ (.string e1.name)).setCell ⟨wr.heap.size + 1, 7, none⟩ (.slice a5 n5 q5)).cell? ⟨wr.heap.size, 1, none⟩ = some (.int .i64 x.a) ∧ ((((w1.setCell ⟨wr.heap.size + 1, 4, none⟩ (.int .i64 e1.kind)).setCell ⟨wr.heap.size + 1, 5, none⟩ (.int .i64 e1.n)).setCell ⟨wr.heap.size + 1, 6, none⟩ (.string e1.name)).setCell ⟨wr.heap.size + 1, 7, none⟩ (.slice a5 n5 q5)).cell? ⟨wr.heap.size, 2, none⟩ = some (.int .i64 x.b) ∧ ((((w1.setCell ⟨wr.heap.size + 1, 4, none⟩ (.int .i64 e1.kind)).setCell ⟨wr.heap.size + 1, 5, none⟩ (.int .i64 e1.n)).setCell ⟨wr.heap.size + 1, 6, none⟩ (.string e1.name)).setCell ⟨wr.heap.size + 1, 7, none⟩ (.slice a5 n5 q5)).cell? ⟨wr.heap.size, 3, none⟩ = some (.int .i64 x.n)) := by
                  refine ⟨?_, ?_, ?_⟩
                  · rw [World.cell?_setCell_other _ _ _ _ (by simp), World.cell?_setCell_other _ _ _ _ (by simp), World.cell?_setCell_other _ _ _ _ (by simp), World.cell?_setCell_other _ _ _ _ (by simp)]; exact w1x1
                  · rw [World.cell?_setCell_other _ _ _ _ (by simp), World.cell?_setCell_other _ _ _ _ (by simp), World.cell?_setCell_other _ _ _ _ (by simp), World.cell?_setCell_other _ _ _ _ (by simp)]; exact w1x2
                  · rw [World.cell?_setCell_other _ _ _ _ (by simp), World.cell?_setCell_other _ _ _ _ (by simp), World.cell?_setCell_other _ _ _ _ (by simp), World.cell?_setCell_other _ _ _ _ (by simp)]; exact w1x3
                have hsC1 : ((((w1.setCell ⟨wr.heap.size + 1, 4, none⟩ (.int .i64 e1.kind)).setCell ⟨wr.heap.size + 1, 5, none⟩ (.int .i64 e1.n)).setCell ⟨wr.heap.size + 1, 6, none⟩ (.string e1.name)).setCell ⟨wr.heap.size + 1, 7, none⟩ (.slice a5 n5 q5)).heap.size = w1.heap.size := size_setCells (wr.heap.size + 1) [.int .i64 e1.kind, .int .i64 e1.n, .string e1.name, .slice a5 n5 q5] 4 w1
                have HSC1 : Hid _ := hsC1
                clear hsC1
                have HEC : Hid (ExsIn ((((w1.setCell ⟨wr.heap.size + 1, 4, none⟩ (.int .i64 e1.kind)).setCell ⟨wr.heap.size + 1, 5, none⟩ (.int .i64 e1.n)).setCell ⟨wr.heap.size + 1, 6, none⟩ (.string e1.name)).setCell ⟨wr.heap.size + 1, 7, none⟩ (.slice a5 n5 q5)) (wr.heap.size + 2) w1.heap.size e1.of (.slice a5 n5 q5)) := HE1.out.1.stays (w' := w1.setCells (wr.heap.size + 1) 4 [.int .i64 e1.kind, .int .i64 e1.n, .string e1.name, .slice a5 n5 q5]) fun i hi => heap_setCells _ _ _ _ i (by have := hi.1; omega)
                go_wp2_with fail
                refine (PB.out _ _ _ vk ((Below.setCells HK1.out.1 (by omega) [.int .i64 e1.kind, .int .i64 e1.n, .string e1.name, .slice a5 n5 q5] 4 : Below _ wr (w1.setCells (wr.heap.size + 1) 4 [.int .i64 e1.kind, .int .i64 e1.n, .string e1.name, .slice a5 n5 q5]))) (HR.out.1.kept ((Below.setCells HK1.out.1 (by omega) [.int .i64 e1.kind, .int .i64 e1.n, .string e1.name, .slice a5 n5 q5] 4 : Below _ wr (w1.setCells (wr.heap.size + 1) 4 [.int .i64 e1.kind, .int .i64 e1.n, .string e1.name, .slice a5 n5 q5])))) (by have := HR.out.2; omega) (by omega)).mono ?_
                rintro r w2 ⟨ssB, aB6, nB6, qB6, restB, aB7, nB7, qB7, rfl, HMB⟩
                have HBB : Hid (BoxS w2 (wr.heap.size + 1) [.int .i64 7, .string ⟨#[]⟩, .string ⟨#[]⟩, .int .i64 0, .int .i64 e1.kind, .int .i64 e1.n, .string e1.name, .slice a5 n5 q5, .slice none 0 0, .slice none 0 0, .complex .f64 0 0]) := BoxS.kept (w := ((((w1.setCell ⟨wr.heap.size + 1, 4, none⟩ (.int .i64 e1.kind)).setCell ⟨wr.heap.size + 1, 5, none⟩ (.int .i64 e1.n)).setCell ⟨wr.heap.size + 1, 6, none⟩ (.string e1.name)).setCell ⟨wr.heap.size + 1, 7, none⟩ (.slice a5 n5 q5))) (HBC.out) HMB.out.2.2.2.2.2
                have HXB : Hid (w2.cell? ⟨wr.heap.size, 1, none⟩ = some (.int .i64 x.a) ∧ w2.cell? ⟨wr.heap.size, 2, none⟩ = some (.int .i64 x.b) ∧ w2.cell? ⟨wr.heap.size, 3, none⟩ = some (.int .i64 x.n)) := ⟨HMB.out.2.2.2.2.2.cellS (HXC.out).1, HMB.out.2.2.2.2.2.cellS (HXC.out).2.1, HMB.out.2.2.2.2.2.cellS (HXC.out).2.2⟩
                have HKB : Hid (Kept wr w2) := Kept.then (a := wr) (b := ((((w1.setCell ⟨wr.heap.size + 1, 4, none⟩ (.int .i64 e1.kind)).setCell ⟨wr.heap.size + 1, 5, none⟩ (.int .i64 e1.n)).setCell ⟨wr.heap.size + 1, 6, none⟩ (.string e1.name)).setCell ⟨wr.heap.size + 1, 7, none⟩ (.slice a5 n5 q5))) ((Below.setCells HK1.out.1 (by omega) [.int .i64 e1.kind, .int .i64 e1.n, .string e1.name, .slice a5 n5 q5] 4 : Below _ wr (w1.setCells (wr.heap.size + 1) 4 [.int .i64 e1.kind, .int .i64 e1.n, .string e1.name, .slice a5 n5 q5]))) HMB.out.2.2.2.2.2
                have HEB : Hid (ExsIn w2 (wr.heap.size + 2) w1.heap.size e1.of (.slice a5 n5 q5)) := HEC.out.stays (HMB.out.2.2.2.2.2.stays (Nat.le_of_eq HSC1.out.symm))
                have hzw2 : wr.heap.size + 1 < w2.heap.size := HBB.out.lt
                have hzw2b : wr.heap.size < w2.heap.size := by omega
                have hz12 : w1.heap.size ≤ w2.heap.size := Nat.le_trans (Nat.le_of_eq HSC1.out.symm) HMB.out.2.2.2.2.2.size
                have HSB : Hid (StsIn w2 (wr.heap.size + 2) w2.heap.size ssB (.slice aB6 nB6 qB6)) := HMB.out.1.mono (Rng.up (Nat.le_trans HK1.out.2 (Nat.le_of_eq HSC1.out.symm)) (Nat.le_refl _))
                clear y0 y1 y2 y3 y4 y5 y6 y7 y8 y9 y10 yf w1x1 w1x2 w1x3
                have z0 : w2.cell? ⟨wr.heap.size + 1, 0, none⟩ = some (.int .i64 7) := HBB.out.rng 0 _ rfl
                have z1 : w2.cell? ⟨wr.heap.size + 1, 1, none⟩ = some (.string ⟨#[]⟩) := HBB.out.rng 1 _ rfl
                have z2 : w2.cell? ⟨wr.heap.size + 1, 2, none⟩ = some (.string ⟨#[]⟩) := HBB.out.rng 2 _ rfl
                have z3 : w2.cell? ⟨wr.heap.size + 1, 3, none⟩ = some (.int .i64 0) := HBB.out.rng 3 _ rfl
                have z4 : w2.cell? ⟨wr.heap.size + 1, 4, none⟩ = some (.int .i64 e1.kind) := HBB.out.rng 4 _ rfl
                have z5 : w2.cell? ⟨wr.heap.size + 1, 5, none⟩ = some (.int .i64 e1.n) := HBB.out.rng 5 _ rfl
                have z6 : w2.cell? ⟨wr.heap.size + 1, 6, none⟩ = some (.string e1.name) := HBB.out.rng 6 _ rfl
                have z7 : w2.cell? ⟨wr.heap.size + 1, 7, none⟩ = some (.slice a5 n5 q5) := HBB.out.rng 7 _ rfl
                have z8 : w2.cell? ⟨wr.heap.size + 1, 8, none⟩ = some (.slice none 0 0) := HBB.out.rng 8 _ rfl
                have z9 : w2.cell? ⟨wr.heap.size + 1, 9, none⟩ = some (.slice none 0 0) := HBB.out.rng 9 _ rfl
                have z10 : w2.cell? ⟨wr.heap.size + 1, 10, none⟩ = some (.complex .f64 0 0) := HBB.out.rng 10 _ rfl
                have zf : ∀ j, w2.frozen? ⟨wr.heap.size + 1, j, none⟩ = false := HBB.out.fz
                have w2x1 : w2.cell? ⟨wr.heap.size, 1, none⟩ = some (.int .i64 x.a) := HXB.out.1
                have w2x2 : w2.cell? ⟨wr.heap.size, 2, none⟩ = some (.int .i64 x.b) := HXB.out.2.1
                have w2x3 : w2.cell? ⟨wr.heap.size, 3, none⟩ = some (.int .i64 x.n) := HXB.out.2.2
                have sw28 : (w2.setCell ⟨wr.heap.size + 1, 8, none⟩ (.slice aB6 nB6 qB6)).cell? ⟨wr.heap.size + 1, 8, none⟩ = some (.slice aB6 nB6 qB6) := World.cell?_setCell_same _ _ _ z8
                have HKK : Hid (Kept wr (w2.setCell ⟨wr.heap.size + 1, 8, none⟩ (.slice aB6 nB6 qB6))) := (Below.setCells HKB.out (by omega) [.slice aB6 nB6 qB6] 8 : Below _ wr (w2.setCells (wr.heap.size + 1) 8 [.slice aB6 nB6 qB6]))
                have HOO : Hid (SwO wr (w2.setCell ⟨wr.heap.size + 1, 8, none⟩ (.slice aB6 nB6 qB6)) hi ls.length (Ed deep) ⟨(.mk 7 ⟨#[]⟩ ⟨#[]⟩ 0 e1 ssB [] 0 0), .slice a5 n5 q5, .slice aB6 nB6 qB6, .slice none 0 0⟩ restB _) := ⟨HBB.out.set 8 [.slice aB6 nB6 qB6] (by simp), ⟨((HEB.out.stays (w' := w2.setCells (wr.heap.size + 1) 8 [.slice aB6 nB6 qB6]) (fun i hi => heap_setCells (wr.heap.size + 1) [.slice aB6 nB6 qB6] 8 w2 i (by have := hi.1; omega))).mono (Rng.up (by omega) (Nat.le_trans (by omega) (Nat.le_of_eq (size_setCells (wr.heap.size + 1) [.slice aB6 nB6 qB6] 8 w2).symm)))), ((HSB.out.stays (w' := w2.setCells (wr.heap.size + 1) 8 [.slice aB6 nB6 qB6]) (fun i hi => heap_setCells (wr.heap.size + 1) [.slice aB6 nB6 qB6] 8 w2 i (by have := hi.1; omega))).mono (Rng.up (by omega) (Nat.le_of_eq (size_setCells (wr.heap.size + 1) [.slice aB6 nB6 qB6] 8 w2).symm))), StsD.nil _ _⟩, HKK.out, HMB.out.2.1.below (Below.setCells (Below.refl hi w2) (by omega) [.slice aB6 nB6 qB6] 8 : Below _ w2 (w2.setCells (wr.heap.size + 1) 8 [.slice aB6 nB6 qB6])), by have h1 := HR.out.2; have h2 := HMB.out.2.2.1; rw [St.size_eq]; show 1 + (St.sizes ssB + St.sizes []) + _ ≤ _; simp [St.sizes]; omega, OKs.cond hdp HE1.out.2 HMB.out.2.2.2.1 (OKs.nil _)⟩
                go_wp2_with fail
                go_meet
                case rel => exact ⟨_, _, _, _, _, _, _, _, _, _, _, _, _, _, rfl, HOO⟩
            · have f21 : (k : Int) < 21 := by omega
              have f22 : (k : Int) < 22 := by omega
              obtain ⟨vk, vhk, -, vhp⟩ := pick_nat x.a 2 (by omega) (by omega)
              obtain ⟨S, vhO, vhX⟩ := index_two ⟨#[108]⟩ ⟨#[107]⟩ vk vhk
              have HNS : Hid (Nam S) := Nam.two vhO (nam1 _ (by decide)) (nam1 _ (by decide))
              have vP : Hid (∀ w, Calls Try.prog 16 #[.int .i64 x.a, .int .i64 2] w fun e w' => e = .returned (.int .i64 (vk : Int)) ∧ w' = w) := vhp
              clear vhp vhO
              go_wp2_with fail
              refine (vP.out _).mono ?_
              rintro e w' ⟨rfl, rfl⟩
              have HBX : Hid (BoxS ((wr.alloc (.cells #[.int .i64 x.what, .int .i64 x.a, .int .i64 x.b, .int .i64 x.n, .slice ax nx qx] 79)).alloc (.cells #[.int .i64 9, .string S, .string ⟨#[]⟩, .int .i64 0, .int .i64 0, .int .i64 0, .string ⟨#[]⟩, .slice none 0 0, .slice none 0 0, .slice none 0 0, .complex .f64 0 0] 46)) (wr.heap.size + 1) [.int .i64 9, .string S, .string ⟨#[]⟩, .int .i64 0, .int .i64 0, .int .i64 0, .string ⟨#[]⟩, .slice none 0 0, .slice none 0 0, .slice none 0 0, .complex .f64 0 0]) := ⟨fun j v hv => by
                  match j, hv with
                  | 0, hv => simp at hv; subst hv; simp
                  | 1, hv => simp at hv; subst hv; simp
                  | 2, hv => simp at hv; subst hv; simp
                  | 3, hv => simp at hv; subst hv; simp
                  | 4, hv => simp at hv; subst hv; simp
                  | 5, hv => simp at hv; subst hv; simp
                  | 6, hv => simp at hv; subst hv; simp
                  | 7, hv => simp at hv; subst hv; simp
                  | 8, hv => simp at hv; subst hv; simp
                  | 9, hv => simp at hv; subst hv; simp
                  | 10, hv => simp at hv; subst hv; simp, fun j => by simp, by simp⟩
              have HKK : Hid (Kept wr ((wr.alloc (.cells #[.int .i64 x.what, .int .i64 x.a, .int .i64 x.b, .int .i64 x.n, .slice ax nx qx] 79)).alloc (.cells #[.int .i64 9, .string S, .string ⟨#[]⟩, .int .i64 0, .int .i64 0, .int .i64 0, .string ⟨#[]⟩, .slice none 0 0, .slice none 0 0, .slice none 0 0, .complex .f64 0 0] 46))) := (((Kept.refl wr).al _).al _)
              have HOO : Hid (SwO wr ((wr.alloc (.cells #[.int .i64 x.what, .int .i64 x.a, .int .i64 x.b, .int .i64 x.n, .slice ax nx qx] 79)).alloc (.cells #[.int .i64 9, .string S, .string ⟨#[]⟩, .int .i64 0, .int .i64 0, .int .i64 0, .string ⟨#[]⟩, .slice none 0 0, .slice none 0 0, .slice none 0 0, .complex .f64 0 0] 46)) hi ls.length (Ed deep) ⟨(.mk 9 S ⟨#[]⟩ 0 (.mk 0 0 ⟨#[]⟩ []) [] [] 0 0), .slice none 0 0, .slice none 0 0, .slice none 0 0⟩ rest _) := ⟨HBX.out, ⟨ExsD.nil _ _, StsD.nil _ _, StsD.nil _ _⟩, HKK.out, HR.out.1.kept HKK.out, by have := HR.out.2; rw [St.size_eq]; show 1 + (St.sizes [] + St.sizes []) + _ ≤ _; simp [St.sizes]; omega, OKs.word (by decide) HNS.out⟩
              go_wp2_with fail
              go_meet
              case rel => exact ⟨_, _, _, _, _, _, _, _, _, _, _, _, _, _, rfl, HOO⟩
          have f20 : decide ((k : Int) < 20) = false := decide_eq_false (by omega)
          by_cases k21 : k < 21
          · have f21 : (k : Int) < 21 := by omega
            by_cases hdp : deep < 3
            · skip
              have PB : Hid (∀ (W : World) (l' : List Ac) (lv : Value) (m : Nat), Kept wr W → ActsR W hi l' lv → l'.length ≤ ls.length - 1 → m ≤ 2 → Calls Try.prog 28 #[lv, .int .i64 (1 + (m : Int)), .int .i64 (deep + 1)] W fun r w' => MadeS W hi l'.length (1 + (m : Int)) (Ed (deep + 1)) r w') := by
                intro W l' lv m hW hl' hle hm
                exact HH.out (n - 1) (by omega) l' W hi lv _ _ (by omega) (by omega) (Nat.le_trans (Nat.le_trans hhi hKw) hW.size) hl' (by omega) (by omega) (by omega) (by omega)
              obtain ⟨vnk, vnhk, -, vnhp⟩ := pick_nat x.n 3 (by omega) (by omega)
              have vnP : Hid (∀ w, Calls Try.prog 16 #[.int .i64 x.n, .int .i64 3] w fun e w' => e = .returned (.int .i64 (vnk : Int)) ∧ w' = w) := vnhp
              have vnhi : (vnk : Int) < 3 := by omega
              clear vnhp
              obtain ⟨vk, vhk, -, vhp⟩ := pick_nat x.a 2 (by omega) (by omega)
              have vP : Hid (∀ w, Calls Try.prog 16 #[.int .i64 x.a, .int .i64 2] w fun e w' => e = .returned (.int .i64 (vk : Int)) ∧ w' = w) := vhp
              have vhi : (vk : Int) < 2 := by omega
              clear vhp
              go_wp2_with fail
              refine (vnP.out _).mono ?_
              rintro e w' ⟨rfl, rfl⟩
              go_wp2_with fail
              refine (vP.out _).mono ?_
              rintro e w' ⟨rfl, rfl⟩
              have HBC : Hid (BoxS ((wr.alloc (.cells #[.int .i64 x.what, .int .i64 x.a, .int .i64 x.b, .int .i64 x.n, .slice ax nx qx] 79)).alloc (.cells #[.int .i64 8, .string ⟨#[]⟩, .string ⟨#[]⟩, .int .i64 (vnk : Int), .int .i64 0, .int .i64 0, .string ⟨#[]⟩, .slice none 0 0, .slice none 0 0, .slice none 0 0, .complex .f64 0 0] 46)) (wr.heap.size + 1) [.int .i64 8, .string ⟨#[]⟩, .string ⟨#[]⟩, .int .i64 (vnk : Int), .int .i64 0, .int .i64 0, .string ⟨#[]⟩, .slice none 0 0, .slice none 0 0, .slice none 0 0, .complex .f64 0 0]) := ⟨fun j v hv => by
                  match j, hv with
                  | 0, hv => simp at hv; subst hv; simp
                  | 1, hv => simp at hv; subst hv; simp
                  | 2, hv => simp at hv; subst hv; simp
                  | 3, hv => simp at hv; subst hv; simp
                  | 4, hv => simp at hv; subst hv; simp
                  | 5, hv => simp at hv; subst hv; simp
                  | 6, hv => simp at hv; subst hv; simp
                  | 7, hv => simp at hv; subst hv; simp
                  | 8, hv => simp at hv; subst hv; simp
                  | 9, hv => simp at hv; subst hv; simp
                  | 10, hv => simp at hv; subst hv; simp, fun j => by simp, by simp⟩
              have HXC : Hid (((wr.alloc (.cells #[.int .i64 x.what, .int .i64 x.a, .int .i64 x.b, .int .i64 x.n, .slice ax nx qx] 79)).alloc (.cells #[.int .i64 8, .string ⟨#[]⟩, .string ⟨#[]⟩, .int .i64 (vnk : Int), .int .i64 0, .int .i64 0, .string ⟨#[]⟩, .slice none 0 0, .slice none 0 0, .slice none 0 0, .complex .f64 0 0] 46)).cell? ⟨wr.heap.size, 1, none⟩ = some (.int .i64 x.a) ∧ ((wr.alloc (.cells #[.int .i64 x.what, .int .i64 x.a, .int .i64 x.b, .int .i64 x.n, .slice ax nx qx] 79)).alloc (.cells #[.int .i64 8, .string ⟨#[]⟩, .string ⟨#[]⟩, .int .i64 (vnk : Int), .int .i64 0, .int .i64 0, .string ⟨#[]⟩, .slice none 0 0, .slice none 0 0, .slice none 0 0, .complex .f64 0 0] 46)).cell? ⟨wr.heap.size, 2, none⟩ = some (.int .i64 x.b) ∧ ((wr.alloc (.cells #[.int .i64 x.what, .int .i64 x.a, .int .i64 x.b, .int .i64 x.n, .slice ax nx qx] 79)).alloc (.cells #[.int .i64 8, .string ⟨#[]⟩, .string ⟨#[]⟩, .int .i64 (vnk : Int), .int .i64 0, .int .i64 0, .string ⟨#[]⟩, .slice none 0 0, .slice none 0 0, .slice none 0 0, .complex .f64 0 0] 46)).cell? ⟨wr.heap.size, 3, none⟩ = some (.int .i64 x.n)) := ⟨by simp, by simp, by simp⟩
              go_wp2_with fail
              refine (PB.out _ _ _ vk (((Kept.refl wr).al _).al _) (HR.out.1.kept (((Kept.refl wr).al _).al _)) (by have := HR.out.2; omega) (by omega)).mono ?_
              rintro r w2 ⟨ssB, aB6, nB6, qB6, restB, aB7, nB7, qB7, rfl, HMB⟩
              have HBB : Hid (BoxS w2 (wr.heap.size + 1) [.int .i64 8, .string ⟨#[]⟩, .string ⟨#[]⟩, .int .i64 (vnk : Int), .int .i64 0, .int .i64 0, .string ⟨#[]⟩, .slice none 0 0, .slice none 0 0, .slice none 0 0, .complex .f64 0 0]) := BoxS.kept (w := ((wr.alloc (.cells #[.int .i64 x.what, .int .i64 x.a, .int .i64 x.b, .int .i64 x.n, .slice ax nx qx] 79)).alloc (.cells #[.int .i64 8, .string ⟨#[]⟩, .string ⟨#[]⟩, .int .i64 (vnk : Int), .int .i64 0, .int .i64 0, .string ⟨#[]⟩, .slice none 0 0, .slice none 0 0, .slice none 0 0, .complex .f64 0 0] 46))) (HBC.out) HMB.out.2.2.2.2.2
              have HXB : Hid (w2.cell? ⟨wr.heap.size, 1, none⟩ = some (.int .i64 x.a) ∧ w2.cell? ⟨wr.heap.size, 2, none⟩ = some (.int .i64 x.b) ∧ w2.cell? ⟨wr.heap.size, 3, none⟩ = some (.int .i64 x.n)) := ⟨HMB.out.2.2.2.2.2.cellS (HXC.out).1, HMB.out.2.2.2.2.2.cellS (HXC.out).2.1, HMB.out.2.2.2.2.2.cellS (HXC.out).2.2⟩
              have HKB : Hid (Kept wr w2) := Kept.then (a := wr) (b := ((wr.alloc (.cells #[.int .i64 x.what, .int .i64 x.a, .int .i64 x.b, .int .i64 x.n, .slice ax nx qx] 79)).alloc (.cells #[.int .i64 8, .string ⟨#[]⟩, .string ⟨#[]⟩, .int .i64 (vnk : Int), .int .i64 0, .int .i64 0, .string ⟨#[]⟩, .slice none 0 0, .slice none 0 0, .slice none 0 0, .complex .f64 0 0] 46))) (((Kept.refl wr).al _).al _) HMB.out.2.2.2.2.2
              have hzw2 : wr.heap.size + 1 < w2.heap.size := HBB.out.lt
              have hzw2b : wr.heap.size < w2.heap.size := by omega
              have HSB : Hid (StsIn w2 (wr.heap.size + 2) w2.heap.size ssB (.slice aB6 nB6 qB6)) := HMB.out.1.mono (Rng.up (by simp) (Nat.le_refl _))
              have z0 : w2.cell? ⟨wr.heap.size + 1, 0, none⟩ = some (.int .i64 8) := HBB.out.rng 0 _ rfl
              have z1 : w2.cell? ⟨wr.heap.size + 1, 1, none⟩ = some (.string ⟨#[]⟩) := HBB.out.rng 1 _ rfl
              have z2 : w2.cell? ⟨wr.heap.size + 1, 2, none⟩ = some (.string ⟨#[]⟩) := HBB.out.rng 2 _ rfl
              have z3 : w2.cell? ⟨wr.heap.size + 1, 3, none⟩ = some (.int .i64 (vnk : Int)) := HBB.out.rng 3 _ rfl
              have z4 : w2.cell? ⟨wr.heap.size + 1, 4, none⟩ = some (.int .i64 0) := HBB.out.rng 4 _ rfl
              have z5 : w2.cell? ⟨wr.heap.size + 1, 5, none⟩ = some (.int .i64 0) := HBB.out.rng 5 _ rfl
              have z6 : w2.cell? ⟨wr.heap.size + 1, 6, none⟩ = some (.string ⟨#[]⟩) := HBB.out.rng 6 _ rfl
              have z7 : w2.cell? ⟨wr.heap.size + 1, 7, none⟩ = some (.slice none 0 0) := HBB.out.rng 7 _ rfl
              have z8 : w2.cell? ⟨wr.heap.size + 1, 8, none⟩ = some (.slice none 0 0) := HBB.out.rng 8 _ rfl
              have z9 : w2.cell? ⟨wr.heap.size + 1, 9, none⟩ = some (.slice none 0 0) := HBB.out.rng 9 _ rfl
              have z10 : w2.cell? ⟨wr.heap.size + 1, 10, none⟩ = some (.complex .f64 0 0) := HBB.out.rng 10 _ rfl
              have zf : ∀ j, w2.frozen? ⟨wr.heap.size + 1, j, none⟩ = false := HBB.out.fz
              have sw28 : (w2.setCell ⟨wr.heap.size + 1, 8, none⟩ (.slice aB6 nB6 qB6)).cell? ⟨wr.heap.size + 1, 8, none⟩ = some (.slice aB6 nB6 qB6) := World.cell?_setCell_same _ _ _ z8
              have HKK : Hid (Kept wr (w2.setCell ⟨wr.heap.size + 1, 8, none⟩ (.slice aB6 nB6 qB6))) := (Below.setCells HKB.out (by omega) [.slice aB6 nB6 qB6] 8 : Below _ wr (w2.setCells (wr.heap.size + 1) 8 [.slice aB6 nB6 qB6]))
              have HOO : Hid (SwO wr (w2.setCell ⟨wr.heap.size + 1, 8, none⟩ (.slice aB6 nB6 qB6)) hi ls.length (Ed deep) ⟨(.mk 8 ⟨#[]⟩ ⟨#[]⟩ (vnk : Int) (.mk 0 0 ⟨#[]⟩ []) ssB [] 0 0), .slice none 0 0, .slice aB6 nB6 qB6, .slice none 0 0⟩ restB _) := ⟨HBB.out.set 8 [.slice aB6 nB6 qB6] (by simp), ⟨ExsD.nil _ _, ((HSB.out.stays (w' := w2.setCells (wr.heap.size + 1) 8 [.slice aB6 nB6 qB6]) (fun i hi => heap_setCells (wr.heap.size + 1) [.slice aB6 nB6 qB6] 8 w2 i (by have := hi.1; omega))).mono (Rng.up (by omega) (Nat.le_of_eq (size_setCells (wr.heap.size + 1) [.slice aB6 nB6 qB6] 8 w2).symm))), StsD.nil _ _⟩, HKK.out, HMB.out.2.1.below (Below.setCells (Below.refl hi w2) (by omega) [.slice aB6 nB6 qB6] 8 : Below _ w2 (w2.setCells (wr.heap.size + 1) 8 [.slice aB6 nB6 qB6])), by have h1 := HR.out.2; have h2 := HMB.out.2.2.1; rw [St.size_eq]; show 1 + (St.sizes ssB + St.sizes []) + _ ≤ _; simp [St.sizes]; omega, OKs.rep hdp (by omega) HMB.out.2.2.2.1⟩
              go_wp2_with fail
              go_meet
              case rel => exact ⟨_, _, _, _, _, _, _, _, _, _, _, _, _, _, rfl, HOO⟩
            · have f22 : (k : Int) < 22 := by omega
              obtain ⟨vk, vhk, -, vhp⟩ := pick_nat x.a 2 (by omega) (by omega)
              obtain ⟨S, vhO, vhX⟩ := index_two ⟨#[108]⟩ ⟨#[107]⟩ vk vhk
              have HNS : Hid (Nam S) := Nam.two vhO (nam1 _ (by decide)) (nam1 _ (by decide))
              have vP : Hid (∀ w, Calls Try.prog 16 #[.int .i64 x.a, .int .i64 2] w fun e w' => e = .returned (.int .i64 (vk : Int)) ∧ w' = w) := vhp
              clear vhp vhO
              go_wp2_with fail
              refine (vP.out _).mono ?_
              rintro e w' ⟨rfl, rfl⟩
              have HBX : Hid (BoxS ((wr.alloc (.cells #[.int .i64 x.what, .int .i64 x.a, .int .i64 x.b, .int .i64 x.n, .slice ax nx qx] 79)).alloc (.cells #[.int .i64 9, .string S, .string ⟨#[]⟩, .int .i64 0, .int .i64 0, .int .i64 0, .string ⟨#[]⟩, .slice none 0 0, .slice none 0 0, .slice none 0 0, .complex .f64 0 0] 46)) (wr.heap.size + 1) [.int .i64 9, .string S, .string ⟨#[]⟩, .int .i64 0, .int .i64 0, .int .i64 0, .string ⟨#[]⟩, .slice none 0 0, .slice none 0 0, .slice none 0 0, .complex .f64 0 0]) := ⟨fun j v hv => by
                  match j, hv with
                  | 0, hv => simp at hv; subst hv; simp
                  | 1, hv => simp at hv; subst hv; simp
                  | 2, hv => simp at hv; subst hv; simp
                  | 3, hv => simp at hv; subst hv; simp
                  | 4, hv => simp at hv; subst hv; simp
                  | 5, hv => simp at hv; subst hv; simp
                  | 6, hv => simp at hv; subst hv; simp
                  | 7, hv => simp at hv; subst hv; simp
                  | 8, hv => simp at hv; subst hv; simp
                  | 9, hv => simp at hv; subst hv; simp
                  | 10, hv => simp at hv; subst hv; simp, fun j => by simp, by simp⟩
              have HKK : Hid (Kept wr ((wr.alloc (.cells #[.int .i64 x.what, .int .i64 x.a, .int .i64 x.b, .int .i64 x.n, .slice ax nx qx] 79)).alloc (.cells #[.int .i64 9, .string S, .string ⟨#[]⟩, .int .i64 0, .int .i64 0, .int .i64 0, .string ⟨#[]⟩, .slice none 0 0, .slice none 0 0, .slice none 0 0, .complex .f64 0 0] 46))) := (((Kept.refl wr).al _).al _)
              have HOO : Hid (SwO wr ((wr.alloc (.cells #[.int .i64 x.what, .int .i64 x.a, .int .i64 x.b, .int .i64 x.n, .slice ax nx qx] 79)).alloc (.cells #[.int .i64 9, .string S, .string ⟨#[]⟩, .int .i64 0, .int .i64 0, .int .i64 0, .string ⟨#[]⟩, .slice none 0 0, .slice none 0 0, .slice none 0 0, .complex .f64 0 0] 46)) hi ls.length (Ed deep) ⟨(.mk 9 S ⟨#[]⟩ 0 (.mk 0 0 ⟨#[]⟩ []) [] [] 0 0), .slice none 0 0, .slice none 0 0, .slice none 0 0⟩ rest _) := ⟨HBX.out, ⟨ExsD.nil _ _, StsD.nil _ _, StsD.nil _ _⟩, HKK.out, HR.out.1.kept HKK.out, by have := HR.out.2; rw [St.size_eq]; show 1 + (St.sizes [] + St.sizes []) + _ ≤ _; simp [St.sizes]; omega, OKs.word (by decide) HNS.out⟩
              go_wp2_with fail
              go_meet
              case rel => exact ⟨_, _, _, _, _, _, _, _, _, _, _, _, _, _, rfl, HOO⟩
          have f21 : decide ((k : Int) < 21) = false := decide_eq_false (by omega)
          by_cases k22 : k < 22
          · have f22 : (k : Int) < 22 := by omega
            obtain ⟨vk, vhk, -, vhp⟩ := pick_nat x.a 2 (by omega) (by omega)
            obtain ⟨S, vhO, vhX⟩ := index_two ⟨#[108]⟩ ⟨#[107]⟩ vk vhk
            have HNS : Hid (Nam S) := Nam.two vhO (nam1 _ (by decide)) (nam1 _ (by decide))
            have vP : Hid (∀ w, Calls Try.prog 16 #[.int .i64 x.a, .int .i64 2] w fun e w' => e = .returned (.int .i64 (vk : Int)) ∧ w' = w) := vhp
            clear vhp vhO
            go_wp2_with fail
            refine (vP.out _).mono ?_
            rintro e w' ⟨rfl, rfl⟩
            have HBX : Hid (BoxS ((wr.alloc (.cells #[.int .i64 x.what, .int .i64 x.a, .int .i64 x.b, .int .i64 x.n, .slice ax nx qx] 79)).alloc (.cells #[.int .i64 9, .string S, .string ⟨#[]⟩, .int .i64 0, .int .i64 0, .int .i64 0, .string ⟨#[]⟩, .slice none 0 0, .slice none 0 0, .slice none 0 0, .complex .f64 0 0] 46)) (wr.heap.size + 1) [.int .i64 9, .string S, .string ⟨#[]⟩, .int .i64 0, .int .i64 0, .int .i64 0, .string ⟨#[]⟩, .slice none 0 0, .slice none 0 0, .slice none 0 0, .complex .f64 0 0]) := ⟨fun j v hv => by
                match j, hv with
                | 0, hv => simp at hv; subst hv; simp
                | 1, hv => simp at hv; subst hv; simp
                | 2, hv => simp at hv; subst hv; simp
                | 3, hv => simp at hv; subst hv; simp
                | 4, hv => simp at hv; subst hv; simp
                | 5, hv => simp at hv; subst hv; simp
                | 6, hv => simp at hv; subst hv; simp
                | 7, hv => simp at hv; subst hv; simp
                | 8, hv => simp at hv; subst hv; simp
                | 9, hv => simp at hv; subst hv; simp
                | 10, hv => simp at hv; subst hv; simp, fun j => by simp, by simp⟩
            have HKK : Hid (Kept wr ((wr.alloc (.cells #[.int .i64 x.what, .int .i64 x.a, .int .i64 x.b, .int .i64 x.n, .slice ax nx qx] 79)).alloc (.cells #[.int .i64 9, .string S, .string ⟨#[]⟩, .int .i64 0, .int .i64 0, .int .i64 0, .string ⟨#[]⟩, .slice none 0 0, .slice none 0 0, .slice none 0 0, .complex .f64 0 0] 46))) := (((Kept.refl wr).al _).al _)
            have HOO : Hid (SwO wr ((wr.alloc (.cells #[.int .i64 x.what, .int .i64 x.a, .int .i64 x.b, .int .i64 x.n, .slice ax nx qx] 79)).alloc (.cells #[.int .i64 9, .string S, .string ⟨#[]⟩, .int .i64 0, .int .i64 0, .int .i64 0, .string ⟨#[]⟩, .slice none 0 0, .slice none 0 0, .slice none 0 0, .complex .f64 0 0] 46)) hi ls.length (Ed deep) ⟨(.mk 9 S ⟨#[]⟩ 0 (.mk 0 0 ⟨#[]⟩ []) [] [] 0 0), .slice none 0 0, .slice none 0 0, .slice none 0 0⟩ rest _) := ⟨HBX.out, ⟨ExsD.nil _ _, StsD.nil _ _, StsD.nil _ _⟩, HKK.out, HR.out.1.kept HKK.out, by have := HR.out.2; rw [St.size_eq]; show 1 + (St.sizes [] + St.sizes []) + _ ≤ _; simp [St.sizes]; omega, OKs.word (by decide) HNS.out⟩
            go_wp2_with fail
            go_meet
            case rel => exact ⟨_, _, _, _, _, _, _, _, _, _, _, _, _, _, rfl, HOO⟩
          have f22 : ¬ (k : Int) < 22 := by omega
          by_cases k23 : k < 23
          · have f23 : (k : Int) < 23 := by omega
            obtain ⟨vk, vhk, -, vhp⟩ := pick_nat x.a 2 (by omega) (by omega)
            obtain ⟨S, vhO, vhX⟩ := index_two ⟨#[108]⟩ ⟨#[107]⟩ vk vhk
            have HNS : Hid (Nam S) := Nam.two vhO (nam1 _ (by decide)) (nam1 _ (by decide))
            have vP : Hid (∀ w, Calls Try.prog 16 #[.int .i64 x.a, .int .i64 2] w fun e w' => e = .returned (.int .i64 (vk : Int)) ∧ w' = w) := vhp
            clear vhp vhO
            go_wp2_with fail
            refine (vP.out _).mono ?_
            rintro e w' ⟨rfl, rfl⟩
            have HBX : Hid (BoxS ((wr.alloc (.cells #[.int .i64 x.what, .int .i64 x.a, .int .i64 x.b, .int .i64 x.n, .slice ax nx qx] 79)).alloc (.cells #[.int .i64 10, .string S, .string ⟨#[]⟩, .int .i64 0, .int .i64 0, .int .i64 0, .string ⟨#[]⟩, .slice none 0 0, .slice none 0 0, .slice none 0 0, .complex .f64 0 0] 46)) (wr.heap.size + 1) [.int .i64 10, .string S, .string ⟨#[]⟩, .int .i64 0, .int .i64 0, .int .i64 0, .string ⟨#[]⟩, .slice none 0 0, .slice none 0 0, .slice none 0 0, .complex .f64 0 0]) := ⟨fun j v hv => by
                match j, hv with
                | 0, hv => simp at hv; subst hv; simp
                | 1, hv => simp at hv; subst hv; simp
                | 2, hv => simp at hv; subst hv; simp
                | 3, hv => simp at hv; subst hv; simp
                | 4, hv => simp at hv; subst hv; simp
                | 5, hv => simp at hv; subst hv; simp
                | 6, hv => simp at hv; subst hv; simp
                | 7, hv => simp at hv; subst hv; simp
                | 8, hv => simp at hv; subst hv; simp
                | 9, hv => simp at hv; subst hv; simp
                | 10, hv => simp at hv; subst hv; simp, fun j => by simp, by simp⟩
            have HKK : Hid (Kept wr ((wr.alloc (.cells #[.int .i64 x.what, .int .i64 x.a, .int .i64 x.b, .int .i64 x.n, .slice ax nx qx] 79)).alloc (.cells #[.int .i64 10, .string S, .string ⟨#[]⟩, .int .i64 0, .int .i64 0, .int .i64 0, .string ⟨#[]⟩, .slice none 0 0, .slice none 0 0, .slice none 0 0, .complex .f64 0 0] 46))) := (((Kept.refl wr).al _).al _)
            have HOO : Hid (SwO wr ((wr.alloc (.cells #[.int .i64 x.what, .int .i64 x.a, .int .i64 x.b, .int .i64 x.n, .slice ax nx qx] 79)).alloc (.cells #[.int .i64 10, .string S, .string ⟨#[]⟩, .int .i64 0, .int .i64 0, .int .i64 0, .string ⟨#[]⟩, .slice none 0 0, .slice none 0 0, .slice none 0 0, .complex .f64 0 0] 46)) hi ls.length (Ed deep) ⟨(.mk 10 S ⟨#[]⟩ 0 (.mk 0 0 ⟨#[]⟩ []) [] [] 0 0), .slice none 0 0, .slice none 0 0, .slice none 0 0⟩ rest _) := ⟨HBX.out, ⟨ExsD.nil _ _, StsD.nil _ _, StsD.nil _ _⟩, HKK.out, HR.out.1.kept HKK.out, by have := HR.out.2; rw [St.size_eq]; show 1 + (St.sizes [] + St.sizes []) + _ ≤ _; simp [St.sizes]; omega, OKs.word (by decide) HNS.out⟩
            go_wp2_with fail
            go_meet
            case rel => exact ⟨_, _, _, _, _, _, _, _, _, _, _, _, _, _, rfl, HOO⟩
          · have f23 : ¬ (k : Int) < 23 := by omega
            go_wp2_with fail
            refine (PS.out _ (((Kept.refl wr).al _).al _)).mono ?_
            rintro r w1 ⟨e1, a5, n5, q5, rfl, HV⟩
            have HB1 : Hid (BoxS w1 (wr.heap.size + 1) [.int .i64 1, .string ⟨#[116]⟩, .string ⟨#[]⟩, .int .i64 0, .int .i64 0, .int .i64 0, .string ⟨#[]⟩, .slice none 0 0, .slice none 0 0, .slice none 0 0, .complex .f64 0 0]) := BoxS.kept (w := ((wr.alloc (.cells #[.int .i64 x.what, .int .i64 x.a, .int .i64 x.b, .int .i64 x.n, .slice ax nx qx] 79)).alloc (.cells #[.int .i64 1, .string ⟨#[116]⟩, .string ⟨#[]⟩, .int .i64 0, .int .i64 0, .int .i64 0, .string ⟨#[]⟩, .slice none 0 0, .slice none 0 0, .slice none 0 0, .complex .f64 0 0] 46))) ⟨fun j v hv => by
                match j, hv with
                | 0, hv => simp at hv; subst hv; simp
                | 1, hv => simp at hv; subst hv; simp
                | 2, hv => simp at hv; subst hv; simp
                | 3, hv => simp at hv; subst hv; simp
                | 4, hv => simp at hv; subst hv; simp
                | 5, hv => simp at hv; subst hv; simp
                | 6, hv => simp at hv; subst hv; simp
                | 7, hv => simp at hv; subst hv; simp
                | 8, hv => simp at hv; subst hv; simp
                | 9, hv => simp at hv; subst hv; simp
                | 10, hv => simp at hv; subst hv; simp, fun j => by simp, by simp⟩ HV.out.2.2
            have HX1 : Hid (w1.cell? ⟨wr.heap.size, 0, none⟩ = some (.int .i64 x.what) ∧ w1.cell? ⟨wr.heap.size, 1, none⟩ = some (.int .i64 x.a) ∧ w1.cell? ⟨wr.heap.size, 2, none⟩ = some (.int .i64 x.b) ∧ w1.cell? ⟨wr.heap.size, 3, none⟩ = some (.int .i64 x.n)) := ⟨HV.out.2.2.cellS (by simp), HV.out.2.2.cellS (by simp), HV.out.2.2.cellS (by simp), HV.out.2.2.cellS (by simp)⟩
            have HK1 : Hid (Kept wr w1 ∧ wr.heap.size + 2 ≤ w1.heap.size) := ⟨(((Kept.refl wr).al _).al _).then HV.out.2.2, by have := HV.out.2.2.size; simpa using this⟩
            have HE1 : Hid (ExsIn w1 (wr.heap.size + 2) w1.heap.size e1.of (.slice a5 n5 q5) ∧ (e1.size ≤ 7 ∧ Px.Sx e1)) := ⟨HV.out.1.mono (Rng.up (by simp) (Nat.le_refl _)), HV.out.2.1⟩
            clear HV
            have y0 : w1.cell? ⟨wr.heap.size + 1, 0, none⟩ = some (.int .i64 1) := HB1.out.rng 0 _ rfl
            have y1 : w1.cell? ⟨wr.heap.size + 1, 1, none⟩ = some (.string ⟨#[116]⟩) := HB1.out.rng 1 _ rfl
            have y2 : w1.cell? ⟨wr.heap.size + 1, 2, none⟩ = some (.string ⟨#[]⟩) := HB1.out.rng 2 _ rfl
            have y3 : w1.cell? ⟨wr.heap.size + 1, 3, none⟩ = some (.int .i64 0) := HB1.out.rng 3 _ rfl
            have y4 : w1.cell? ⟨wr.heap.size + 1, 4, none⟩ = some (.int .i64 0) := HB1.out.rng 4 _ rfl
            have y5 : w1.cell? ⟨wr.heap.size + 1, 5, none⟩ = some (.int .i64 0) := HB1.out.rng 5 _ rfl
            have y6 : w1.cell? ⟨wr.heap.size + 1, 6, none⟩ = some (.string ⟨#[]⟩) := HB1.out.rng 6 _ rfl
            have y7 : w1.cell? ⟨wr.heap.size + 1, 7, none⟩ = some (.slice none 0 0) := HB1.out.rng 7 _ rfl
            have y8 : w1.cell? ⟨wr.heap.size + 1, 8, none⟩ = some (.slice none 0 0) := HB1.out.rng 8 _ rfl
            have y9 : w1.cell? ⟨wr.heap.size + 1, 9, none⟩ = some (.slice none 0 0) := HB1.out.rng 9 _ rfl
            have y10 : w1.cell? ⟨wr.heap.size + 1, 10, none⟩ = some (.complex .f64 0 0) := HB1.out.rng 10 _ rfl
            have yf : ∀ j, w1.frozen? ⟨wr.heap.size + 1, j, none⟩ = false := HB1.out.fz
            have s4 : (w1.setCell ⟨wr.heap.size + 1, 4, none⟩ (.int .i64 e1.kind)).cell? ⟨wr.heap.size + 1, 4, none⟩ = some (.int .i64 e1.kind) := World.cell?_setCell_same _ _ _ y4
            have s5 : ((w1.setCell ⟨wr.heap.size + 1, 4, none⟩ (.int .i64 e1.kind)).setCell ⟨wr.heap.size + 1, 5, none⟩ (.int .i64 e1.n)).cell? ⟨wr.heap.size + 1, 5, none⟩ = some (.int .i64 e1.n) := World.cell?_setCell_same _ _ _ ((World.cell?_setCell_other _ _ _ _ (by simp)).trans y5)
            have s6 : (((w1.setCell ⟨wr.heap.size + 1, 4, none⟩ (.int .i64 e1.kind)).setCell ⟨wr.heap.size + 1, 5, none⟩ (.int .i64 e1.n)).setCell ⟨wr.heap.size + 1, 6, none⟩ (.string e1.name)).cell? ⟨wr.heap.size + 1, 6, none⟩ = some (.string e1.name) := World.cell?_setCell_same _ _ _ ((World.cell?_setCell_other _ _ _ _ (by simp)).trans ((World.cell?_setCell_other _ _ _ _ (by simp)).trans y6))
            have s7 : ((((w1.setCell ⟨wr.heap.size + 1, 4, none⟩ (.int .i64 e1.kind)).setCell ⟨wr.heap.size + 1, 5, none⟩ (.int .i64 e1.n)).setCell ⟨wr.heap.size + 1, 6, none⟩ (.string e1.name)).setCell ⟨wr.heap.size + 1, 7, none⟩ (.slice a5 n5 q5)).cell? ⟨wr.heap.size + 1, 7, none⟩ = some (.slice a5 n5 q5) := World.cell?_setCell_same _ _ _ ((World.cell?_setCell_other _ _ _ _ (by simp)).trans ((World.cell?_setCell_other _ _ _ _ (by simp)).trans ((World.cell?_setCell_other _ _ _ _ (by simp)).trans y7)))
            have hz1 : wr.heap.size + 1 < w1.heap.size := HB1.out.lt
            have HKK : Hid (Kept wr ((((w1.setCell ⟨wr.heap.size + 1, 4, none⟩ (.int .i64 e1.kind)).setCell ⟨wr.heap.size + 1, 5, none⟩ (.int .i64 e1.n)).setCell ⟨wr.heap.size + 1, 6, none⟩ (.string e1.name)).setCell ⟨wr.heap.size + 1, 7, none⟩ (.slice a5 n5 q5))) := (Below.setCells HK1.out.1 (by omega) [.int .i64 e1.kind, .int .i64 e1.n, .string e1.name, .slice a5 n5 q5] 4 : Below _ wr (w1.setCells (wr.heap.size + 1) 4 [.int .i64 e1.kind, .int .i64 e1.n, .string e1.name, .slice a5 n5 q5]))
            have HOO : Hid (SwO wr ((((w1.setCell ⟨wr.heap.size + 1, 4, none⟩ (.int .i64 e1.kind)).setCell ⟨wr.heap.size + 1, 5, none⟩ (.int .i64 e1.n)).setCell ⟨wr.heap.size + 1, 6, none⟩ (.string e1.name)).setCell ⟨wr.heap.size + 1, 7, none⟩ (.slice a5 n5 q5)) hi ls.length (Ed deep) ⟨(.mk 1 ⟨#[116]⟩ ⟨#[]⟩ 0 e1 [] [] 0 0), .slice a5 n5 q5, .slice none 0 0, .slice none 0 0⟩ rest _) := ⟨HB1.out.set 4 [.int .i64 e1.kind, .int .i64 e1.n, .string e1.name, .slice a5 n5 q5] (by simp), ⟨(HE1.out.1.stays (w' := w1.setCells (wr.heap.size + 1) 4 [.int .i64 e1.kind, .int .i64 e1.n, .string e1.name, .slice a5 n5 q5]) fun i hi => heap_setCells _ _ _ _ i (by have := hi.1; omega)).mono (Rng.up (by omega) (Nat.le_of_eq (size_setCells (wr.heap.size + 1) [.int .i64 e1.kind, .int .i64 e1.n, .string e1.name, .slice a5 n5 q5] 4 w1).symm)), StsD.nil _ _, StsD.nil _ _⟩, HKK.out, HR.out.1.kept HKK.out, by have := HR.out.2; rw [St.size_eq]; show 1 + (St.sizes [] + St.sizes []) + _ ≤ _; simp [St.sizes]; omega, OKs.assign (nam1 116 (by decide)) HE1.out.2⟩
            go_wp2_with fail
            go_meet
            case rel => exact ⟨_, _, _, _, _, _, _, _, _, _, _, _, _, _, rfl, HOO⟩
        case rest =>
          obtain ⟨st, a5, n5, q5, a6, n6, q6, a7, n7, q7, rest, ar, nr, qr, rfl, HOO⟩ := hcut
          have y0 : wc.cell? ⟨wr.heap.size + 1, 0, none⟩ = some (.int .i64 st.kind) := HOO.out.box.rng 0 _ rfl
          have y1 : wc.cell? ⟨wr.heap.size + 1, 1, none⟩ = some (.string st.name) := HOO.out.box.rng 1 _ rfl
          have y2 : wc.cell? ⟨wr.heap.size + 1, 2, none⟩ = some (.string st.other) := HOO.out.box.rng 2 _ rfl
          have y3 : wc.cell? ⟨wr.heap.size + 1, 3, none⟩ = some (.int .i64 st.n) := HOO.out.box.rng 3 _ rfl
          have y4 : wc.cell? ⟨wr.heap.size + 1, 4, none⟩ = some (.int .i64 st.e.kind) := HOO.out.box.rng 4 _ rfl
          have y5 : wc.cell? ⟨wr.heap.size + 1, 5, none⟩ = some (.int .i64 st.e.n) := HOO.out.box.rng 5 _ rfl
          have y6 : wc.cell? ⟨wr.heap.size + 1, 6, none⟩ = some (.string st.e.name) := HOO.out.box.rng 6 _ rfl
          have y7 : wc.cell? ⟨wr.heap.size + 1, 7, none⟩ = some (.slice a5 n5 q5) := HOO.out.box.rng 7 _ rfl
          have y8 : wc.cell? ⟨wr.heap.size + 1, 8, none⟩ = some (.slice a6 n6 q6) := HOO.out.box.rng 8 _ rfl
          have y9 : wc.cell? ⟨wr.heap.size + 1, 9, none⟩ = some (.slice a7 n7 q7) := HOO.out.box.rng 9 _ rfl
          have y10 : wc.cell? ⟨wr.heap.size + 1, 10, none⟩ = some (.complex .f64 st.re st.im) := HOO.out.box.rng 10 _ rfl
          have hz : wr.heap.size + 1 < wc.heap.size := HOO.out.box.lt
          have HOW : Hid (OwnK (wc.alloc (.cells #[.int .i64 st.kind, .string st.name, .string st.other, .int .i64 st.n, .int .i64 st.e.kind, .int .i64 st.e.n, .string st.e.name, .slice a5 n5 q5, .slice a6 n6 q6, .slice a7 n7 q7, .complex .f64 st.re st.im] 46)) w.heap.size (Far w.heap.size wr (.slice a2 ps.length q2)) ps (.slice a2 ps.length q2)) := HI.out.own.kept (Kept.al HOO.out.kept _) fun i hi => hi.2.1
          go_wp2_with (at_builtin; refine wpList_append_rows (base := w.heap.size) (n := ps.length) (xs := itCells ps) (by rfl) _ _ _ (by rfl) elemSt (by rfl) HOW.out.row (by rfl) (own_lit 0 46 11 _ (by rfl) (Nat.zero_le _)) ?one (by omega) ?len HOW.out.le ?_)
          case one => (repeat' apply And.intro) <;> rfl
          case len => unfold maxLen; omega
          intro ad cp w4 HG
          have NX := SmI.next (p := ⟨st, .slice a5 n5 q5, .slice a6 n6 q6, .slice a7 n7 q7⟩) HI.out (Kept.al HOO.out.kept _) ((HOO.out.kids.stays (((Kept.refl wc).al _).stays (Nat.le_refl _))).mono (Rng.up (Nat.le_refl _) (by simp))) HG.out (HOO.out.acts.kept ((Kept.refl wc).al _)) hhi HOO.out.size HOO.out.ok hout
          have HNX : Hid _ := NX.rel HOO.out.acts.len rfl
          have HMS : Hid (nr < ls.length) := by have h1 := HOO.out.size; have h2 := HOO.out.acts.len; have h3 := St.size_pos st; have h4 : St.size st + rest.length ≤ ls.length := h1; show nr < ls.length; omega
          clear HG NX HOW y0 y1 y2 y3 y4 y5 y6 y7 y8 y9 y10
          go_wp2_with fail
          go_roundw
          case rel => exact HNX.out
          case measure => have := HMS.out; simp [sliceLen]; omega
      · have gl : ¬ (0 : Int) < (ls.length : Int) := by omega
        go_wp2_with fail
        go_ret2
        exact HI.out.done
    · have go : decide ((ps.length : Int) < most) = false := decide_eq_false hout
      go_wp2_with fail
      go_ret2
      exact HI.out.done
theorem stmts_any (n : Nat) : PSm n := by
  induction n using Nat.strongRecOn with
  | _ n ih => exact stmts_of n ih
end Go.Proofs.Ytnfkjmafhaecgaa
namespace Go.Proofs.Ytnfkjmafhaecgaa
open Go.RowKit
attribute [local go_sem] run_store_complex
/-- What the maker promises of a program. -/
structure GoodP (d : List Dc) (t : List (List St)) (most : Int) (nc : Nat) : Prop where
  dl : d.length = 8 ∧ ∀ x ∈ d, Ps.GdD x
  two : 2 ≤ t.length
  three : t.length ≤ 3
  just : 4 < most ∨ nc = 0 → t.length = 2
  ok : ∀ x ∈ t, OKs 2 x ∧ St.sizes x ≤ 16
theorem index_three (a1 a2 a3 : Option Addr) (n1 q1 n2 q2 n3 q3 : Nat) (k : Nat) (hk : k < 3) : ∃ a n q, (Value.slice a n q = .slice a1 n1 q1 ∨ Value.slice a n q = .slice a2 n2 q2 ∨ Value.slice a n q = .slice a3 n3 q3) ∧ ∀ w, (Instr.index 56 (.agg #[.slice a1 n1 q1, .slice a2 n2 q2, .slice a3 n3 q3]) (.int .i64 (k : Int))).run Try.prog w = .ok (.slice a n q) w := by
  have h9 := Try.sizeOf23
  have ha := Try.isAgg23
  match k, hk with
  | 0, _ => exact ⟨_, _, _, .inl rfl, fun w => by simp [Instr.index, go_sem, h9, ha]⟩
  | 1, _ => exact ⟨_, _, _, .inr (.inl rfl), fun w => by simp [Instr.index, go_sem, h9, ha]⟩
  | 2, _ => exact ⟨_, _, _, .inr (.inr rfl), fun w => by simp [Instr.index, go_sem, h9, ha]⟩
/-- What stmts answers, as Prog asks it. -/
def AskS : Prop := ∀ (l : List Ac) (W : World) (hi : Nat) (v : Value) (most : Int), l.length ≤ 16 → hi ≤ W.heap.size → ActsR W hi l v → most ≤ 1000 → -1000 ≤ most →
  Calls Try.prog 28 #[v, .int .i64 most, .int .i64 1] W fun r w' => MadeS W hi l.length most 2 r w'
/-- Where Prog stands before a round. -/
structure PrI (w W1 wr : World) (d : List Dc) (dv : Value) (ps : List (List St × Value)) (v : Value) : Prop where
  c0 : wr.cell? ⟨W1.heap.size, 0, none⟩ = some dv
  c1 : wr.cell? ⟨W1.heap.size, 1, none⟩ = some v
  fz : ∀ j, wr.frozen? ⟨W1.heap.size, j, none⟩ = false
  below : Below W1.heap.size W1 wr
  own : OwnB wr (W1.heap.size + 1) (Far (W1.heap.size + 1) wr v) ps v
  ok : ∀ p ∈ ps, OKs 2 p.1 ∧ St.sizes p.1 ≤ 16
end Go.Proofs.Ytnfkjmafhaecgaa
namespace Go.Proofs.Ytnfkjmafhaecgaa
open Go.RowKit
end Go.Proofs.Ytnfkjmafhaecgaa
