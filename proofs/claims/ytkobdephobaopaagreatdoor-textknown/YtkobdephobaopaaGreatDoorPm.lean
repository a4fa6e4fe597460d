/- The walk of the reader's method program. -/
import Derived.Test.YtkobdephobaopaaGreatDoorPaD
import Derived.Deep.RegionWith
import Derived.Laws.ResultCell
namespace Go.Proofs.YtkobdephobaopaaGreatDoor
open Go.RowKit
attribute [local go_sem] run_store_complex field_kind field_text field_place
attribute [local go_sem ↓] Go.wp_at_zero Go.wp_at_succ

theorem Pp.bind_eq {α β : Type} {p p2 : Pp.R α} {f : α → Pp.R β} {l l2 : List Lx.Core} (h : p2 l2 = p l) : Pp.bind p f l = Pp.bind p2 f l2 := by unfold Pp.bind; rw [h]
/-- What program leaves. -/
def GotP (R g cap : Nat) (s : ByteArray) (ts : List Lx.Tk) (w : World) (r : Option (List Dc × List (List St))) (m : List Lx.Core) (e : Ending) (w' : World) : Prop :=
  ∃ (a1 : Option Addr) (n1 q1 : Nat) (a2 : Option Addr) (n2 q2 : Nat), e = .returned (.tuple #[.agg #[.slice a1 n1 q1, .slice a2 n2 q2], .bool r.isSome]) ∧ Bu (· = R) w w' ∧ (∃ d', Rd w' R g cap s ts (ts.length - m.length) d') ∧
    ∀ d t, r = some (d, t) → DsIn w' w.heap.size w'.heap.size d (.slice a1 n1 q1) ∧ TsIn w' w.heap.size w'.heap.size t (.slice a2 n2 q2)
theorem esizePr : (Tryz.prog.info? 27).map (·.size) = some 2 := by kernel_rfl
theorem ret_prog {fn : Func} {p u : Tmp} (h : fn.results = #[.cell p 27, .tmp u]) (tmps : Array Value) {w : World} {B : Nat} {x y : Value} {b : Bool} (hp : tmps.getD p undef = .pointer (some ⟨B, 0, none⟩)) (hu : tmps.getD u undef = .bool b) (hB : w.rangeAt B 0 [x, y]) :
    (results fn tmps).run Tryz.prog w = .ok (.tuple #[.agg #[x, y], .bool b]) w := by
  rw [results_cell_tmp h, hp, hu]
  have := run_loadVar_mid (P := Tryz.prog) w B 0 27 _ _ hB Tryz.underlying27 rfl esizePr
  simp [asAddr, Result.andThen, this]
def W2 (w : World) : World := (w.alloc (.cells #[.slice none 0 0, .slice none 0 0] 27)).alloc (.cells #[.slice none 0 0, .slice none 0 0] 27)
theorem W2_kept (w : World) : Kept w (W2 w) := ((Kept.refl _).al _).al _
theorem W2_size (w : World) : (W2 w).heap.size = w.heap.size + 2 := by unfold W2; simp
theorem W2_box (w : World) : BoxS (W2 w) w.heap.size [.slice none 0 0, .slice none 0 0] ∧ BoxS (W2 w) (w.heap.size + 1) [.slice none 0 0, .slice none 0 0] := by
  unfold W2
  constructor
  · refine ⟨fun j v hv => ?_, fun j => by simp, by simp; omega⟩
    rw [Nat.zero_add]
    match j, hv with
    | 0, hv => cases hv; simp
    | 1, hv => cases hv; simp
  · refine ⟨fun j v hv => ?_, fun j => by simp, by simp⟩
    rw [Nat.zero_add]
    match j, hv with
    | 0, hv => cases hv; simp
    | 1, hv => cases hv; simp
theorem bu_low {R : Nat} {w wr : World} (b : Bu (RB R (w.heap.size + 1)) (W2 w) wr) : Bu (· = R) w wr := by
  have k := W2_kept w
  have hz := W2_size w
  exact ⟨b.os.trans k.os, b.tape.trans k.tape, b.output.trans k.output, Nat.le_trans k.size b.size, fun i hi hn => (b.block i (by omega) fun c => c.elim hn fun e => by omega).trans (k.block i hi)⟩
theorem box_res {R : Nat} {w wr : World} (hR : R < w.heap.size) (b : Bu (RB R (w.heap.size + 1)) (W2 w) wr) : BoxS wr w.heap.size [.slice none 0 0, .slice none 0 0] :=
  (W2_box w).1.off (b.block _ (by rw [W2_size]; omega) fun c => c.elim (fun e => by omega) fun e => by omega) b.size
/-- Where it fails. -/
theorem GotP.fail {R g cap : Nat} {s : ByteArray} {ts : List Lx.Tk} {w wr : World} {m : List Lx.Core} (hR : R < w.heap.size) (hg : g < w.heap.size) (b : Bu (RB R (w.heap.size + 1)) (W2 w) wr) (hd : ∃ d', Rd wr R g cap s ts (ts.length - m.length) d') :
    GotP R g cap s ts w none m (.returned (.tuple #[.agg #[.slice none 0 0, .slice none 0 0], .bool false])) (wr.setCells w.heap.size 0 [.slice none 0 0, .slice none 0 0]) ∧ (wr.setCells w.heap.size 0 [.slice none 0 0, .slice none 0 0]).rangeAt w.heap.size 0 [.slice none 0 0, .slice none 0 0] := by
  obtain ⟨d', h⟩ := hd
  refine ⟨⟨none, 0, 0, none, 0, 0, rfl, (bu_low b).sets (.inr (Nat.le_refl _)) _ _, ⟨d', h.sets (by omega) (by omega) _ _⟩, fun d t c => by cases c⟩, ?_⟩
  exact World.rangeAt_setCells_same _ _ _ _ ((box_res hR b).there 0 2 (by decide))
/-- Where it ends. -/
theorem GotP.done {R g cap : Nat} {s : ByteArray} {ts : List Lx.Tk} {w w1 wr wf : World} {l : List Lx.Core} {ds : List Dc} {a1 : Option Addr} {n1 q1 : Nat} {a2 : Option Addr} {n2 q2 : Nat} {ps : List (List St × Value)} (hR : R < w.heap.size) (hg : g < w.heap.size) (h : PrT R g cap s ts (w.heap.size + 1) (W2 w) w1 wr l ds (.slice a1 n1 q1) ps (.slice a2 n2 q2)) (k : Kept wr wf) (b : Bool) (hb : (decide (ps ≠ [] ∧ (Px.hd l).1 = 4)) = b) :
    GotP R g cap s ts w (Pp.ended ds (ps.map (·.1)) l).1 (Pp.ended ds (ps.map (·.1)) l).2 (.returned (.tuple #[.agg #[.slice a1 n1 q1, .slice a2 n2 q2], .bool b])) (wf.setCells w.heap.size 0 [.slice a1 n1 q1, .slice a2 n2 q2]) ∧ (wf.setCells w.heap.size 0 [.slice a1 n1 q1, .slice a2 n2 q2]).rangeAt w.heap.size 0 [.slice a1 n1 q1, .slice a2 n2 q2] := by
  have hz := W2_size w
  have hz0 := h.bu0.size
  have hz1 := h.bu.size
  have b01 : Bu (RB R (w.heap.size + 1)) (W2 w) wf := (h.bu0.then h.bu).then (Bu.of k)
  have hbx := box_res hR b01
  have e1 : Pp.ended ds (ps.map (·.1)) l = (if b then some (ds, ps.map (·.1)) else none, l) := by
    unfold Pp.ended
    by_cases c : ps ≠ [] ∧ (Px.hd l).1 = 4
    · rw [decide_eq_true c] at hb
      subst hb
      rw [if_pos ⟨by simpa using c.1, c.2⟩]; rfl
    · rw [decide_eq_false c] at hb
      subst hb
      rw [if_neg (fun c' => c ⟨by simpa using c'.1, c'.2⟩)]; rfl
  rw [e1]
  refine ⟨⟨a1, n1, q1, a2, n2, q2, by cases b <;> rfl, (bu_low b01).sets (.inr (Nat.le_refl _)) _ _, ⟨0, (h.at'.rd.kept k).sets (by omega) (by omega) _ _⟩, fun d t c => ?_⟩, World.rangeAt_setCells_same _ _ _ _ (hbx.there 0 2 (by decide))⟩
  cases b with
  | false => cases c
  | true =>
    have c' : some (ds, ps.map (·.1)) = some (d, t) := c
    injection c' with c'
    injection c' with c1 c2
    subst c1 c2
    have st : ∀ j, w.heap.size + 2 ≤ j → j < wr.heap.size → (wf.setCells w.heap.size 0 [.slice a1 n1 q1, .slice a2 n2 q2]).heap[j]? = wr.heap[j]? := fun j h1 h2 => (heap_setCells _ _ _ _ j (by omega)).trans (k.block j h2)
    have hsz : wr.heap.size ≤ (wf.setCells w.heap.size 0 [.slice a1 n1 q1, .slice a2 n2 q2]).heap.size := by rw [size_setCells]; exact k.size
    constructor
    · refine ((h.ds.stays (w' := wr) fun j hj => h.bu.block j hj.2 fun c => ?_).stays fun j hj => st j (by have := hj.1; omega) (by have := hj.2; omega)).mono (Rng.up (by omega) (by omega))
      have := hj.1
      rcases c with c | c <;> omega
    · have ht := h.own.ts (D' := Rng w1.heap.size wr.heap.size) (fun j hj => ⟨hj.1, hj.2.1⟩) (fun j hj => h.own.row.lt j hj)
      exact (ht.stays fun j hj => st j (by have := hj.1; omega) hj.2).mono (Rng.up (by omega) (by omega))
theorem PrT.start {R g cap : Nat} {s : ByteArray} {ts : List Lx.Tk} {P : Nat} {w0 wr : World} {l : List Lx.Core} {ds : List Dc} {v : Value} (h : PrD R g cap s ts P w0 wr l ds v) : PrT R g cap s ts P w0 wr wr l ds v [] (.slice none 0 0) :=
  ⟨h.at', OwnB.nil _ _ _ (Nat.le_refl _), h.own.ds fun k hk => ⟨(h.own.row.lt k hk).1, (h.own.row.lt k hk).2⟩, Bu.refl _ _, h.bu, h.lR, h.lP, h.lg⟩

set_option maxRecDepth 100000 in
set_option maxHeartbeats 4000000 in
theorem program_any (R g cap : Nat) (s : ByteArray) (ts : List Lx.Tk) (w : World) (l0 : List Lx.Core) (h : Rd w R g cap s ts (ts.length - l0.length) 0) (he : left ts (ts.length - l0.length) = l0) (ha : Pp.Alive l0) (r : Option (List Dc × List (List St))) (m : List Lx.Core) (hr : Pp.prog (plOf s ts) l0 = (r, m)) :
    Calls Tryz.prog 28 #[.pointer (some ⟨R, 0, none⟩)] w fun e' w' => GotP R g cap s ts w r m e' w' := by
  have hRw := h.rlt
  have hgw := h.lt
  have H0 : Hid (PrD R g cap s ts (w.heap.size + 1) (W2 w) (W2 w) l0 [] (.slice none 0 0)) := hide ⟨⟨h.kept (W2_kept w), he, ha, (W2_box w).2, by omega, by omega⟩, OwnD.nil _ _ (Nat.le_refl _), Bu.refl _ _, by rw [W2_size]; omega, by rw [W2_size]; omega, by rw [W2_size]; omega⟩
  have HRR := hide hr
  have HGW := hide hgw
  clear h he ha hr
  go_enter Tryz.func28, Tryz.ntmps28
  go_wp2_with fail
  go_loopw [5] (fun _ wr => ∃ l ds v, Hid (PrD R g cap s ts (w.heap.size + 1) (W2 w) wr l ds v) ∧ Hid (∃ f, f + ds.length = 24 ∧ Pp.bind (Pp.decls (plOf s ts) f ds) (fun d => Pp.bind (Pp.threads (plOf s ts) 4 []) fun t => Pp.ended d t) l = (r, m))) (fun _ wr => 6002 - atOf wr R)
  case atStart => exact ⟨l0, [], .slice none 0 0, H0, hide ⟨24, rfl, unhide HRR⟩⟩
  case round =>
    obtain ⟨l, ds, v, HI, HF⟩ := hrel
    have hI := unhide HI
    obtain ⟨av, cv, rfl, hslc⟩ := own_slice hI.own.row
    have hds : ds.length ≤ 24 := by obtain ⟨f, hf, _⟩ := unhide HF; omega
    have hlt := alive_lt (ts := ts) (a := ts.length - l.length) (by rw [hI.at'.eq]; exact hI.at'.al)
    have p0 := hI.at'.box.cell 0 rfl
    have p1 := hI.at'.box.cell 1 rfl
    have pf := hI.at'.box.fz 0
    have pf1 := hI.at'.box.fz 1
    have hPl := hI.at'.box.lt
    obtain ⟨kd, tx, n, ht⟩ : ∃ kd tx n, Px.hd l = (kd, tx, n) := ⟨_, _, _, rfl⟩
    have HT := hide (ptoken_any (kd := kd) (tx := tx) (n := n) hI.at'.rd hlt (by rw [hI.at'.eq]; exact ht))
    obtain ⟨tb, htb⟩ : ∃ tb : ByteArray, ⟨tx.toArray⟩ = tb := ⟨_, rfl⟩
    have HDK := hide (fun W => declKind_any tx W)
    rw [htb] at HT HDK
    generalize (plOf s ts (left ts (ts.length - l.length)).length).1 = X at *
    generalize (plOf s ts (left ts (ts.length - l.length)).length).2 = Y at *
    have HTX := hide ht
    clear ht hlt hslc htb hI
    by_cases h24 : ds.length < 24
    · have h24' : (ds.length : Int) < 24 := by omega
      by_cases hdk : Pp.dk tx = 0
      · rw [hdk] at HDK
        have HF2 : Hid (Pp.bind (Pp.threads (plOf s ts) 4 []) (fun t => Pp.ended ds t) l = (r, m)) := by
          obtain ⟨f, hf, he⟩ := unhide HF
          cases f with
          | zero => omega
          | succ f =>
            rw [Pp.bind_some (x := ds) (m := l) (by rw [Pp.decls, unhide HTX, if_pos hdk])] at he
            exact hide he
        go_wp2_with fail
        refine (unhide HT).mono ?_
        rintro e' w2 ⟨rfl, k2⟩
        have HI2 : Hid (PrT R g cap s ts (w.heap.size + 1) (W2 w) w2 w2 l ds (.slice av ds.length cv) [] (.slice none 0 0)) := hide (PrT.start ((unhide HI).next (Nat.le_refl _) (Bu.of k2) ((unhide HI).at'.rd.kept k2) (List.suffix_refl _) (unhide HI).at'.al))
        clear k2
        go_wp2_with fail
        refine (unhide HDK _).mono ?_
        rintro e' w3 ⟨rfl, rfl⟩
        go_wp2_with fail
        have HFW : Hid (∃ f, f + ([] : List (List St × Value)).length = 4 ∧ Pp.bind (Pp.threads (plOf s ts) f (([] : List (List St × Value)).map (·.1))) (fun t => Pp.ended ds t) l = (r, m)) := hide ⟨4, rfl, unhide HF2⟩
        clear HF HI HF2 HT HDK p0 p1 pf pf1 H0 HRR
        obtain ⟨wo, rfl⟩ : ∃ wo, wo = w3 := ⟨_, rfl⟩
        go_loopw [6] (fun _ wr => ∃ l ps v, Hid (PrT R g cap s ts (w.heap.size + 1) (W2 w) wo wr l ds (.slice av ds.length cv) ps v) ∧ Hid (∃ f, f + ps.length = 4 ∧ Pp.bind (Pp.threads (plOf s ts) f (ps.map (·.1))) (fun t => Pp.ended ds t) l = (r, m))) (fun _ wr => 6002 - atOf wr R)
        case atStart => exact ⟨l, [], .slice none 0 0, HI2, HFW⟩
        case round =>
          clear HFW HI2
          obtain ⟨l2, ps, v, HI, HF⟩ := hrel
          have hI := unhide HI
          obtain ⟨aw, cw, rfl, hslc⟩ := own_slice hI.own.row
          have hps : ps.length ≤ 4 := by obtain ⟨f, hf, _⟩ := unhide HF; omega
          have p0 := hI.at'.box.cell 0 rfl
          have p1 := hI.at'.box.cell 1 rfl
          have pf1 := hI.at'.box.fz 1
          have hPl2 := hI.at'.box.lt
          have hal := hI.at'.al
          by_cases h4 : ps.length < 4
          · have h4' : (ps.length : Int) < 4 := by omega
            cases hb : ((Px.hd l2).2.1 == Pp.tGo) with
            | false =>
              have HFX : Hid (Pp.ended ds (ps.map (·.1)) l2 = (r, m)) := by
                obtain ⟨f, hf, he⟩ := unhide HF
                cases f with
                | zero => omega
                | succ f =>
                  rw [Pp.bind_some (x := ps.map (·.1)) (m := l2) (by rw [Pp.threads, if_neg (by simpa using hb)])] at he
                  exact hide he
              have HC := hide (skip_l hI.at' Pp.tGo (by decide) false hb)
              clear hI hslc hal hb
              go_wp2_with fail
              refine (unhide HC).mono ?_
              rintro e' w5 ⟨rfl, b5, h5⟩
              have HIX : Hid (PrT R g cap s ts (w.heap.size + 1) (W2 w) wo w5 l2 ds (.slice av ds.length cv) ps (.slice aw ps.length cw)) := hide ⟨h5, (unhide HI).own.bu b5 (fun k h1 h2 c => by have e1 := (unhide HI).bu0.size; have e2 := (unhide HI).lR; have e3 := (unhide HI).lP; rcases c with c | c <;> omega), (unhide HI).ds, (unhide HI).bu.then b5, (unhide HI).bu0, (unhide HI).lR, (unhide HI).lP, (unhide HI).lg⟩
              clear b5 h5 HC p0 p1 pf1 hPl2 HI HF
              go_wp2_with fail
              have HK4 : Hid (∀ b, decide (ps ≠ [] ∧ (Px.hd l2).1 = 4) = b → ∀ wf, Kept w5 wf → GotP R g cap s ts w r m (.returned (.tuple #[.agg #[.slice av ds.length cv, .slice aw ps.length cw], .bool b])) (wf.setCells w.heap.size 0 [.slice av ds.length cv, .slice aw ps.length cw]) ∧ (wf.setCells w.heap.size 0 [.slice av ds.length cv, .slice aw ps.length cw]).rangeAt w.heap.size 0 [.slice av ds.length cv, .slice aw ps.length cw]) := hide fun b hb wf k => by
                have := GotP.done hRw hgw (unhide HIX) k b hb
                rw [unhide HFX] at this
                exact this
              have q0 := (unhide HIX).at'.box.cell 0 rfl
              have q1 := (unhide HIX).at'.box.cell 1 rfl
              have hPx := (unhide HIX).at'.box.lt
              have hbr := box_res hRw ((unhide HIX).bu0.then (unhide HIX).bu)
              have s0 := hbr.cell 0 rfl
              have s1 := hbr.cell 1 rfl
              have sf0 := hbr.fz 0
              have sf1 := hbr.fz 1
              have hrl := hbr.lt
              have hlt2 := alive_lt (ts := ts) (a := ts.length - l2.length) (by rw [(unhide HIX).at'.eq]; exact (unhide HIX).at'.al)
              obtain ⟨kd2, tx2, nn2, ht2⟩ : ∃ kd tx n, Px.hd l2 = (kd, tx, n) := ⟨_, _, _, rfl⟩
              have HTK : Hid (∀ W, Kept w5 W → Calls Tryz.prog 29 #[.pointer (some ⟨R, 0, none⟩)] W fun e w' => e = .returned (.agg #[.int .i64 (kd2 : Int), .string ⟨tx2.toArray⟩, .int .i64 (nn2 : Int), .complex .f64 (plOf s ts (left ts (ts.length - l2.length)).length).1 (plOf s ts (left ts (ts.length - l2.length)).length).2]) ∧ Kept w5 w') := hide fun W hW =>
                (ptoken_any (kd := kd2) (tx := tx2) (n := nn2) ((unhide HIX).at'.rd.kept hW) hlt2 (by rw [(unhide HIX).at'.eq]; exact ht2)).mono fun e w' ⟨h1, h2⟩ => ⟨h1, hW.then h2⟩
              generalize (plOf s ts (left ts (ts.length - l2.length)).length).1 = X2 at *
              generalize (plOf s ts (left ts (ts.length - l2.length)).length).2 = Y2 at *
              have HT2 := hide ht2
              clear hlt2 ht2 hbr
              by_cases hz0 : 0 < ps.length
              · have hz1 : (0 : Int) < (ps.length : Int) := by omega
                have HNP : Hid (ps ≠ []) := hide (List.length_pos_iff.1 hz0)
                obtain ⟨b4, hb4⟩ : ∃ b4, ((kd2 : Int) == 4) = b4 := ⟨_, rfl⟩
                have HB4 : Hid (decide (ps ≠ [] ∧ (Px.hd l2).1 = 4) = b4) := by
                  rw [unhide HT2]
                  by_cases c : kd2 = 4
                  · subst c; rw [decide_eq_true ⟨unhide HNP, rfl⟩]; exact hide hb4
                  · rw [ne_int (by omega)] at hb4
                    subst hb4
                    exact hide (decide_eq_false fun c' => c c'.2)
                go_region_with (go_at_call 29; refine (unhide HTK _ (by first | exact Kept.refl _ | exact (Kept.refl _).dr)).mono ?_; rintro e w9 ⟨rfl, k9⟩; obtain ⟨hcc, hff⟩ := bcell k9; have hz9 := k9.size; have K9 := hide k9; clear k9)
                all_goals
                  go_wp2_with fail
                  obtain ⟨g1, g2⟩ := unhide HK4 b4 (unhide HB4) w9 (unhide K9)
                  exact bodyPost_ret (ret_prog Tryz.results28 _ rfl rfl g2) rfl g1
              · have hz1 : ¬ (0 : Int) < (ps.length : Int) := by omega
                have HB4 : Hid (decide (ps ≠ [] ∧ (Px.hd l2).1 = 4) = false) := hide (decide_eq_false fun c => hz0 (List.length_pos_iff.2 c.1))
                go_region
                all_goals
                  go_wp2_with fail
                  obtain ⟨g1, g2⟩ := unhide HK4 false (unhide HB4) _ (Kept.refl w5).dr
                  exact bodyPost_ret (ret_prog Tryz.results28 _ rfl rfl g2) rfl g1
            | true =>
              obtain ⟨r5, m5, h5⟩ : ∃ r m, Pp.block (plOf s ts) 8 l2.tail = (r, m) := ⟨_, _, rfl⟩
              have H5 := hide h5
              have HGO := hide (show (Px.hd l2).2.1 = Pp.tGo by simpa using hb)
              have HC := hide (skip_l hI.at' Pp.tGo (by decide) true hb)
              clear hI hslc hal hb h5
              go_wp2_with fail
              refine (unhide HC).mono ?_
              rintro e' w5 ⟨rfl, b5, h5⟩
              have h5 : AtB R g cap s ts 0 (w.heap.size + 1) w5 l2.tail [.slice av ds.length cv, .slice aw ps.length cw] := h5
              have HI5 : Hid (PrT R g cap s ts (w.heap.size + 1) (W2 w) wo w5 l2.tail ds (.slice av ds.length cv) ps (.slice aw ps.length cw)) := hide ⟨h5, (unhide HI).own.bu b5 (fun k h1 h2 c => by have e1 := (unhide HI).bu0.size; have e2 := (unhide HI).lR; have e3 := (unhide HI).lP; rcases c with c | c <;> omega), (unhide HI).ds, (unhide HI).bu.then b5, (unhide HI).bu0, (unhide HI).lR, (unhide HI).lP, (unhide HI).lg⟩
              have k5 : Kept w5 (w5.alloc (.cells #[.slice none 0 0] 38)) := (Kept.refl _).al _
              have hR5 := h5.rd.rlt
              have hg5 := h5.rd.lt
              have HC5 := hide (block_any 8 (Nat.le_refl _) R g cap s ts (ts.length - l2.tail.length) w5.heap.size 0 (w5.alloc (.cells #[.slice none 0 0] 38)) (h5.rd.kept k5) (by rw [h5.eq]; exact h5.al) (by simp) (by simp) (by omega) (by omega) r5 m5 (by rw [h5.eq]; exact unhide H5))
              have hkeep := Pp.block_keeps (plOf s ts) 8 l2.tail h5.al
              rw [unhide H5] at hkeep
              have HKP := hide hkeep
              clear b5 h5 HC k5 hkeep
              go_wp2_with fail
              refine (unhide HC5).mono ?_
              rintro e' w6 ⟨rfl, b6, ⟨d6, h6, h6d⟩, h6v⟩
              have k5 : Kept w5 (w5.alloc (.cells #[.slice none 0 0] 38)) := (Kept.refl _).al _
              have b56 : Bu (RB R w5.heap.size) w5 w6 := (Bu.of k5).then b6
              cases r5 with
              | none =>
                have hrm : r = none ∧ m = m5 := by
                  obtain ⟨f, hf, he⟩ := unhide HF
                  cases f with
                  | zero => omega
                  | succ f =>
                    rw [Pp.bind_none (m := m5) (by rw [Pp.threads, if_pos (unhide HGO), unhide H5])] at he
                    injection he with e1 e2; exact ⟨e1.symm, e2.symm⟩
                obtain ⟨rfl, rfl⟩ := hrm
                have b06 : Bu (RB R (w.heap.size + 1)) (W2 w) w6 := ((unhide HI5).bu0.then (unhide HI5).bu).then (b56.up fun i hi c => c.elim .inl fun e => by omega)
                have HE := hide (GotP.fail hRw hgw b06 ⟨d6, h6⟩)
                have hbr := box_res hRw b06
                have s0 := hbr.cell 0 rfl
                have s1 := hbr.cell 1 rfl
                have sf0 := hbr.fz 0
                have sf1 := hbr.fz 1
                have hrl := hbr.lt
                clear b6 h6v h6 h6d HC5 b56 k5 b06 hbr p0 p1 pf1
                go_wp2_with fail
                exact bodyPost_ret (ret_prog Tryz.results28 _ rfl rfl (unhide HE).2) rfl (unhide HE).1
              | some b =>
                obtain ⟨vs, ⟨xv, rfl, hSt⟩, hPut⟩ := h6v b rfl
                obtain rfl := h6d rfl
                have HI6 : Hid (PrT R g cap s ts (w.heap.size + 1) (W2 w) wo w6 m5 ds (.slice av ds.length cv) ps (.slice aw ps.length cw)) := hide ((unhide HI5).next (Nat.le_refl _) b56 h6 (unhide HKP).1 (unhide HKP).2)
                obtain ⟨a3, n3, q3, rfl⟩ := hSt.form
                have cx : w6.cell? ⟨w5.heap.size, 0, none⟩ = some (.slice a3 n3 q3) := hPut.cells 0 _ rfl
                have HSF : Hid (StsD w6 (Far wo.heap.size w6 (.slice aw ps.length cw)) b (.slice a3 n3 q3)) := hide (hSt.mono fun k hk => by
                  have e1 := hk.1
                  have e2 := k5.size
                  have e3 := (unhide HI5).bu.size
                  refine ⟨by omega, hk.2, fun c => ?_⟩
                  have e4 := ((unhide HI5).own.row.lt k c.symm).2
                  omega)
                have HHF : Hid (∃ f, f + (ps.length + 1) = 4 ∧ Pp.bind (Pp.threads (plOf s ts) f (ps.map (·.1) ++ [b])) (fun t => Pp.ended ds t) m5 = (r, m)) := by
                  obtain ⟨f, hf, he⟩ := unhide HF
                  cases f with
                  | zero => omega
                  | succ f =>
                    refine hide ⟨f, by omega, ?_⟩
                    rw [← he]
                    exact Pp.bind_eq (by rw [Pp.threads.eq_2, if_pos (unhide HGO), unhide H5])
                have hle2 : l2.length ≤ ts.length := by have := congrArg List.length (unhide HI).at'.eq; rw [left_len] at this; omega
                have HLT : Hid (m5.length < l2.length ∧ l2.length ≤ ts.length) := hide ⟨by have e1 := (unhide HKP).1.length_le; have e2 := (unhide HI).at'.al.pos; simp only [List.length_tail] at e1; omega, hle2⟩
                have HOW : Hid (OwnB (w6.alloc (.cells #[.slice a3 n3 q3] 38)) wo.heap.size (Far wo.heap.size (w6.alloc (.cells #[.slice a3 n3 q3] 38)) (.slice aw ps.length cw)) ps (.slice aw ps.length cw)) := hide ((unhide HI6).own.bu (M := fun _ => False) (Bu.of ((Kept.refl _).al _)) fun _ _ _ c => c)
                replace p0 := (unhide HI6).at'.box.cell 0 rfl
                replace p1 := (unhide HI6).at'.box.cell 1 rfl
                replace pf1 := (unhide HI6).at'.box.fz 1
                have hPl6 := (unhide HI6).at'.box.lt
                have hcx := block_lt_of_cell cx
                clear b6 h6v h6 HC5 b56 k5 hSt hPut
                go_wp2_with (at_builtin; refine wpList_append_rows (base := wo.heap.size) (n := ps.length) (xs := ps.map (·.2)) (by rfl) _ _ _ (by rfl) elemTs (by rfl) (unhide HOW).row (by rfl) (own_lit 0 38 1 _ (by rfl) (Nat.zero_le _)) ?one (by omega) ?len (unhide HOW).le ?_)
                case one => rfl
                case len => unfold maxLen; omega
                intro ad cp wa HG
                obtain ⟨ca, fa⟩ := (unhide HI6).cellA ((Kept.refl _).al _) (unhide HG)
                have HE := hide ((unhide HI6).grown ((Kept.refl _).al _) (unhide HSF) (unhide HG))
                clear p0 p1 pf1 cx
                go_wp2_with fail
                go_roundw
                case rel =>
                  obtain ⟨f, h1, h2⟩ := unhide HHF
                  exact ⟨m5, ps ++ [(b, .slice a3 n3 q3)], _, HE, hide ⟨f, by rw [List.length_append, List.length_singleton]; exact h1, by rw [List.map_append]; exact h2⟩⟩
                case measure => exact less_at (unhide HI).at'.rd (unhide HE).at'.rd (unhide HLT).2 (unhide HLT).1
          · have h4' : ¬ (ps.length : Int) < 4 := by omega
            have HFX : Hid (Pp.ended ds (ps.map (·.1)) l2 = (r, m)) := by
              obtain ⟨f, hf, he⟩ := unhide HF
              cases f with
              | zero =>
                rw [Pp.bind_some (x := ps.map (·.1)) (m := l2) (by rw [Pp.threads])] at he
                exact hide he
              | succ f => omega
            have HIX := HI
            clear hI hslc hal HF HI
            go_wp2_with fail
            have HK4 : Hid (∀ b, decide (ps ≠ [] ∧ (Px.hd l2).1 = 4) = b → ∀ wf, Kept wr wf → GotP R g cap s ts w r m (.returned (.tuple #[.agg #[.slice av ds.length cv, .slice aw ps.length cw], .bool b])) (wf.setCells w.heap.size 0 [.slice av ds.length cv, .slice aw ps.length cw]) ∧ (wf.setCells w.heap.size 0 [.slice av ds.length cv, .slice aw ps.length cw]).rangeAt w.heap.size 0 [.slice av ds.length cv, .slice aw ps.length cw]) := hide fun b hb wf k => by
              have := GotP.done hRw hgw (unhide HIX) k b hb
              rw [unhide HFX] at this
              exact this
            have q0 := (unhide HIX).at'.box.cell 0 rfl
            have q1 := (unhide HIX).at'.box.cell 1 rfl
            have hPx := (unhide HIX).at'.box.lt
            have hbr := box_res hRw ((unhide HIX).bu0.then (unhide HIX).bu)
            have s0 := hbr.cell 0 rfl
            have s1 := hbr.cell 1 rfl
            have sf0 := hbr.fz 0
            have sf1 := hbr.fz 1
            have hrl := hbr.lt
            have hlt2 := alive_lt (ts := ts) (a := ts.length - l2.length) (by rw [(unhide HIX).at'.eq]; exact (unhide HIX).at'.al)
            obtain ⟨kd2, tx2, nn2, ht2⟩ : ∃ kd tx n, Px.hd l2 = (kd, tx, n) := ⟨_, _, _, rfl⟩
            have HTK : Hid (∀ W, Kept wr W → Calls Tryz.prog 29 #[.pointer (some ⟨R, 0, none⟩)] W fun e w' => e = .returned (.agg #[.int .i64 (kd2 : Int), .string ⟨tx2.toArray⟩, .int .i64 (nn2 : Int), .complex .f64 (plOf s ts (left ts (ts.length - l2.length)).length).1 (plOf s ts (left ts (ts.length - l2.length)).length).2]) ∧ Kept wr w') := hide fun W hW =>
              (ptoken_any (kd := kd2) (tx := tx2) (n := nn2) ((unhide HIX).at'.rd.kept hW) hlt2 (by rw [(unhide HIX).at'.eq]; exact ht2)).mono fun e w' ⟨h1, h2⟩ => ⟨h1, hW.then h2⟩
            generalize (plOf s ts (left ts (ts.length - l2.length)).length).1 = X2 at *
            generalize (plOf s ts (left ts (ts.length - l2.length)).length).2 = Y2 at *
            have HT2 := hide ht2
            clear hlt2 ht2 hbr
            by_cases hz0 : 0 < ps.length
            · have hz1 : (0 : Int) < (ps.length : Int) := by omega
              have HNP : Hid (ps ≠ []) := hide (List.length_pos_iff.1 hz0)
              obtain ⟨b4, hb4⟩ : ∃ b4, ((kd2 : Int) == 4) = b4 := ⟨_, rfl⟩
              have HB4 : Hid (decide (ps ≠ [] ∧ (Px.hd l2).1 = 4) = b4) := by
                rw [unhide HT2]
                by_cases c : kd2 = 4
                · subst c; rw [decide_eq_true ⟨unhide HNP, rfl⟩]; exact hide hb4
                · rw [ne_int (by omega)] at hb4
                  subst hb4
                  exact hide (decide_eq_false fun c' => c c'.2)
              go_region_with (go_at_call 29; refine (unhide HTK _ (by first | exact Kept.refl _ | exact (Kept.refl _).dr)).mono ?_; rintro e w9 ⟨rfl, k9⟩; obtain ⟨hcc, hff⟩ := bcell k9; have hz9 := k9.size; have K9 := hide k9; clear k9)
              all_goals
                go_wp2_with fail
                obtain ⟨g1, g2⟩ := unhide HK4 b4 (unhide HB4) w9 (unhide K9)
                exact bodyPost_ret (ret_prog Tryz.results28 _ rfl rfl g2) rfl g1
            · omega
      · skip

        obtain ⟨k2, hk2⟩ : ∃ k2, Pp.dk tx = k2 := ⟨_, rfl⟩
        rw [hk2] at HDK hdk
        have HK2 := hide hk2
        have hdk1 : ((k2 : Int) != 0) = true := by rw [bne_iff_ne]; omega
        have hdk2 : ((k2 : Int) == 0) = false := ne_int (by omega)
        go_wp2_with fail
        refine (unhide HT).mono ?_
        rintro e' w2 ⟨rfl, k3⟩
        have HI2 : Hid (PrD R g cap s ts (w.heap.size + 1) (W2 w) w2 l ds (.slice av ds.length cv)) := hide ((unhide HI).next (Nat.le_refl _) (Bu.of k3) ((unhide HI).at'.rd.kept k3) (List.suffix_refl _) (unhide HI).at'.al)
        clear k3
        go_wp2_with fail
        refine (unhide HDK _).mono ?_
        rintro e' w3 ⟨rfl, rfl⟩
        obtain ⟨r4, m4, h4⟩ : ∃ r m, Pp.decl (plOf s ts) l = (r, m) := ⟨_, _, rfl⟩
        have H4 := hide h4
        have hdl : Pp.dk (Px.hd l).2.1 ≠ 0 := by rw [unhide HTX]; show Pp.dk tx ≠ 0; rw [unhide HK2]; exact hdk
        have HDL := hide hdl
        have hAt : AtB R g cap s ts 0 w3.heap.size (w3.alloc (.cells #[.int .i64 0, .string ⟨#[]⟩, .int .i64 0, .complex .f64 0 0] 40)) l (z4 0 0 0) := by
          have hI2 := unhide HI2
          refine ⟨hI2.at'.rd.kept ((Kept.refl _).al _), hI2.at'.eq, hI2.at'.al, ⟨fun j v hv => ?_, fun j => by simp, by simp⟩, by have := hI2.at'.rd.rlt; omega, by have := hI2.at'.rd.lt; omega⟩
          rw [Nat.zero_add]
          simpa using hv
        have HC := hide (declaration_any R g cap w3.heap.size 0 s ts _ l hAt hdl r4 m4 h4)
        have hkeep := Pp.decl_keeps (plOf s ts) l (unhide HI).at'.al hdl
        rw [h4] at hkeep
        have HKP := hide hkeep
        clear hAt h4 hdl hkeep
        go_wp2_with fail
        refine (unhide HC).mono ?_
        rintro e' w4 ⟨rfl, b4, h4r, h4v⟩
        have k34 : Kept w3 (w3.alloc (.cells #[.int .i64 0, .string ⟨#[]⟩, .int .i64 0, .complex .f64 0 0] 40)) := (Kept.refl _).al _
        have b34 : Bu (RB R w3.heap.size) w3 w4 := (Bu.of k34).then b4
        cases r4 with
        | none =>
          have hrm : r = none ∧ m = m4 := by
            obtain ⟨f, hf, he⟩ := unhide HF
            cases f with
            | zero => omega
            | succ f =>
              rw [Pp.bind_none (m := m4) (by rw [Pp.decls, if_neg (unhide HDL), unhide H4])] at he
              injection he with e1 e2; exact ⟨e1.symm, e2.symm⟩
          obtain ⟨rfl, rfl⟩ := hrm
          have b04 : Bu (RB R (w.heap.size + 1)) (W2 w) w4 := (unhide HI2).bu.then (b34.up fun i hi c => c.elim .inl fun e => by omega)
          have HE := hide (GotP.fail hRw hgw b04 h4r)
          have hbr := box_res hRw b04
          have s0 := hbr.cell 0 rfl
          have s1 := hbr.cell 1 rfl
          have sf0 := hbr.fz 0
          have sf1 := hbr.fz 1
          have hrl := hbr.lt
          clear b4 h4r h4v HC b34 k34 b04 hbr p0 p1 pf pf1
          go_wp2_with fail
          exact bodyPost_ret (ret_prog Tryz.results28 _ rfl rfl (unhide HE).2) rfl (unhide HE).1
        | some x =>
          have hA4 := h4v x rfl
          have HI4 : Hid (PrD R g cap s ts (w.heap.size + 1) (W2 w) w4 m4 ds (.slice av ds.length cv)) := hide ((unhide HI2).next (Nat.le_refl _) b34 hA4.rd (unhide HKP).1 (unhide HKP).2)
          have c0 := hA4.box.cell 0 rfl
          have c1 := hA4.box.cell 1 rfl
          have c2 := hA4.box.cell 2 rfl
          have c3 := hA4.box.cell 3 rfl
          have hcl := hA4.box.lt
          have HHF : Hid (∃ f, f + (ds.length + 1) = 24 ∧ Pp.bind (Pp.decls (plOf s ts) f (ds ++ [x])) (fun d => Pp.bind (Pp.threads (plOf s ts) 4 []) fun t => Pp.ended d t) m4 = (r, m)) := by
            obtain ⟨f, hf, he⟩ := unhide HF
            cases f with
            | zero => omega
            | succ f =>
              refine hide ⟨f, by omega, ?_⟩
              rw [← he]
              exact Pp.bind_eq (by rw [Pp.decls.eq_2, if_neg (unhide HDL), unhide H4])
          have hle2 : l.length ≤ ts.length := by have := congrArg List.length (unhide HI).at'.eq; rw [left_len] at this; omega
          have HLT : Hid (m4.length < l.length ∧ l.length ≤ ts.length) := hide ⟨Pp.decl_eats (plOf s ts) l x m4 (unhide HI).at'.al (unhide HDL) (unhide H4), hle2⟩
          have HOW : Hid (OwnD (w4.alloc (.cells #[.int .i64 x.kind, .string x.name, .int .i64 x.n, .complex .f64 x.re x.im] 40)) (W2 w).heap.size ds (.slice av ds.length cv)) := hide ((unhide HI4).own.bu (M := fun _ => False) (Bu.of ((Kept.refl _).al _)) fun _ _ _ c => c)
          replace p0 := (unhide HI4).at'.box.cell 0 rfl
          replace p1 := (unhide HI4).at'.box.cell 1 rfl
          replace pf := (unhide HI4).at'.box.fz 0
          replace hPl := (unhide HI4).at'.box.lt
          clear b4 h4r h4v HC b34 k34 hA4 hle2 pf1 HT HDK
          go_wp2_with (at_builtin; refine wpList_append_rows (base := (W2 w).heap.size) (n := ds.length) (xs := dcs ds) (by rfl) _ _ _ (by rfl) elemDc (by rfl) (unhide HOW).row (by rfl) (own_lit 0 40 4 _ (by rfl) (Nat.zero_le _)) ?one (by omega) ?len (unhide HOW).le ?_)
          case one => (repeat' apply And.intro) <;> rfl
          case len => unfold maxLen; omega
          intro ad cp wa HG
          obtain ⟨ca, fa⟩ := (unhide HI4).cellA ((Kept.refl _).al _) (unhide HG)
          have HE := hide ((unhide HI4).grown ((Kept.refl _).al _) (d := x) (unhide HG))
          clear p0 p1 pf c0 c1 c2 c3
          go_wp2_with fail
          go_roundw
          case rel =>
            obtain ⟨f, h1, h2⟩ := unhide HHF
            exact ⟨m4, ds ++ [x], _, HE, hide ⟨f, by rw [List.length_append, List.length_singleton]; exact h1, h2⟩⟩
          case measure => exact less_at (unhide HI).at'.rd (unhide HE).at'.rd (unhide HLT).2 (unhide HLT).1
    · have h24' : ¬ (ds.length : Int) < 24 := by omega
      have HF2 : Hid (Pp.bind (Pp.threads (plOf s ts) 4 []) (fun t => Pp.ended ds t) l = (r, m)) := by
        obtain ⟨f, hf, he⟩ := unhide HF
        cases f with
        | zero =>
          rw [Pp.bind_some (x := ds) (m := l) (by rw [Pp.decls])] at he
          exact hide he
        | succ f => omega
      have HI2 : Hid (PrT R g cap s ts (w.heap.size + 1) (W2 w) wr wr l ds (.slice av ds.length cv) [] (.slice none 0 0)) := hide (PrT.start (unhide HI))
      go_wp2_with fail
      have HFW : Hid (∃ f, f + ([] : List (List St × Value)).length = 4 ∧ Pp.bind (Pp.threads (plOf s ts) f (([] : List (List St × Value)).map (·.1))) (fun t => Pp.ended ds t) l = (r, m)) := hide ⟨4, rfl, unhide HF2⟩
      clear HF HI HF2 HT HDK p0 p1 pf pf1 H0 HRR
      obtain ⟨wo, rfl⟩ : ∃ wo, wo = wr := ⟨_, rfl⟩
      go_loopw [6] (fun _ wr => ∃ l ps v, Hid (PrT R g cap s ts (w.heap.size + 1) (W2 w) wo wr l ds (.slice av ds.length cv) ps v) ∧ Hid (∃ f, f + ps.length = 4 ∧ Pp.bind (Pp.threads (plOf s ts) f (ps.map (·.1))) (fun t => Pp.ended ds t) l = (r, m))) (fun _ wr => 6002 - atOf wr R)
      case atStart => exact ⟨l, [], .slice none 0 0, HI2, HFW⟩
      case round =>
        clear HFW HI2
        obtain ⟨l2, ps, v, HI, HF⟩ := hrel
        have hI := unhide HI
        obtain ⟨aw, cw, rfl, hslc⟩ := own_slice hI.own.row
        have hps : ps.length ≤ 4 := by obtain ⟨f, hf, _⟩ := unhide HF; omega
        have p0 := hI.at'.box.cell 0 rfl
        have p1 := hI.at'.box.cell 1 rfl
        have pf1 := hI.at'.box.fz 1
        have hPl2 := hI.at'.box.lt
        have hal := hI.at'.al
        by_cases h4 : ps.length < 4
        · have h4' : (ps.length : Int) < 4 := by omega
          cases hb : ((Px.hd l2).2.1 == Pp.tGo) with
          | false =>
            have HFX : Hid (Pp.ended ds (ps.map (·.1)) l2 = (r, m)) := by
              obtain ⟨f, hf, he⟩ := unhide HF
              cases f with
              | zero => omega
              | succ f =>
                rw [Pp.bind_some (x := ps.map (·.1)) (m := l2) (by rw [Pp.threads, if_neg (by simpa using hb)])] at he
                exact hide he
            have HC := hide (skip_l hI.at' Pp.tGo (by decide) false hb)
            clear hI hslc hal hb
            go_wp2_with fail
            refine (unhide HC).mono ?_
            rintro e' w5 ⟨rfl, b5, h5⟩
            have HIX : Hid (PrT R g cap s ts (w.heap.size + 1) (W2 w) wo w5 l2 ds (.slice av ds.length cv) ps (.slice aw ps.length cw)) := hide ⟨h5, (unhide HI).own.bu b5 (fun k h1 h2 c => by have e1 := (unhide HI).bu0.size; have e2 := (unhide HI).lR; have e3 := (unhide HI).lP; rcases c with c | c <;> omega), (unhide HI).ds, (unhide HI).bu.then b5, (unhide HI).bu0, (unhide HI).lR, (unhide HI).lP, (unhide HI).lg⟩
            clear b5 h5 HC p0 p1 pf1 hPl2 HI HF
            go_wp2_with fail
            have HK4 : Hid (∀ b, decide (ps ≠ [] ∧ (Px.hd l2).1 = 4) = b → ∀ wf, Kept w5 wf → GotP R g cap s ts w r m (.returned (.tuple #[.agg #[.slice av ds.length cv, .slice aw ps.length cw], .bool b])) (wf.setCells w.heap.size 0 [.slice av ds.length cv, .slice aw ps.length cw]) ∧ (wf.setCells w.heap.size 0 [.slice av ds.length cv, .slice aw ps.length cw]).rangeAt w.heap.size 0 [.slice av ds.length cv, .slice aw ps.length cw]) := hide fun b hb wf k => by
              have := GotP.done hRw hgw (unhide HIX) k b hb
              rw [unhide HFX] at this
              exact this
            have q0 := (unhide HIX).at'.box.cell 0 rfl
            have q1 := (unhide HIX).at'.box.cell 1 rfl
            have hPx := (unhide HIX).at'.box.lt
            have hbr := box_res hRw ((unhide HIX).bu0.then (unhide HIX).bu)
            have s0 := hbr.cell 0 rfl
            have s1 := hbr.cell 1 rfl
            have sf0 := hbr.fz 0
            have sf1 := hbr.fz 1
            have hrl := hbr.lt
            have hlt2 := alive_lt (ts := ts) (a := ts.length - l2.length) (by rw [(unhide HIX).at'.eq]; exact (unhide HIX).at'.al)
            obtain ⟨kd2, tx2, nn2, ht2⟩ : ∃ kd tx n, Px.hd l2 = (kd, tx, n) := ⟨_, _, _, rfl⟩
            have HTK : Hid (∀ W, Kept w5 W → Calls Tryz.prog 29 #[.pointer (some ⟨R, 0, none⟩)] W fun e w' => e = .returned (.agg #[.int .i64 (kd2 : Int), .string ⟨tx2.toArray⟩, .int .i64 (nn2 : Int), .complex .f64 (plOf s ts (left ts (ts.length - l2.length)).length).1 (plOf s ts (left ts (ts.length - l2.length)).length).2]) ∧ Kept w5 w') := hide fun W hW =>
              (ptoken_any (kd := kd2) (tx := tx2) (n := nn2) ((unhide HIX).at'.rd.kept hW) hlt2 (by rw [(unhide HIX).at'.eq]; exact ht2)).mono fun e w' ⟨h1, h2⟩ => ⟨h1, hW.then h2⟩
            generalize (plOf s ts (left ts (ts.length - l2.length)).length).1 = X2 at *
            generalize (plOf s ts (left ts (ts.length - l2.length)).length).2 = Y2 at *
            have HT2 := hide ht2
            clear hlt2 ht2 hbr
            by_cases hz0 : 0 < ps.length
            · have hz1 : (0 : Int) < (ps.length : Int) := by omega
              have HNP : Hid (ps ≠ []) := hide (List.length_pos_iff.1 hz0)
              obtain ⟨b4, hb4⟩ : ∃ b4, ((kd2 : Int) == 4) = b4 := ⟨_, rfl⟩
              have HB4 : Hid (decide (ps ≠ [] ∧ (Px.hd l2).1 = 4) = b4) := by
                rw [unhide HT2]
                by_cases c : kd2 = 4
                · subst c; rw [decide_eq_true ⟨unhide HNP, rfl⟩]; exact hide hb4
                · rw [ne_int (by omega)] at hb4
                  subst hb4
                  exact hide (decide_eq_false fun c' => c c'.2)
              go_region_with (go_at_call 29; refine (unhide HTK _ (by first | exact Kept.refl _ | exact (Kept.refl _).dr)).mono ?_; rintro e w9 ⟨rfl, k9⟩; obtain ⟨hcc, hff⟩ := bcell k9; have hz9 := k9.size; have K9 := hide k9; clear k9)
              all_goals
                go_wp2_with fail
                obtain ⟨g1, g2⟩ := unhide HK4 b4 (unhide HB4) w9 (unhide K9)
                exact bodyPost_ret (ret_prog Tryz.results28 _ rfl rfl g2) rfl g1
            · have hz1 : ¬ (0 : Int) < (ps.length : Int) := by omega
              have HB4 : Hid (decide (ps ≠ [] ∧ (Px.hd l2).1 = 4) = false) := hide (decide_eq_false fun c => hz0 (List.length_pos_iff.2 c.1))
              go_region
              all_goals
                go_wp2_with fail
                obtain ⟨g1, g2⟩ := unhide HK4 false (unhide HB4) _ (Kept.refl w5).dr
                exact bodyPost_ret (ret_prog Tryz.results28 _ rfl rfl g2) rfl g1
          | true =>
            obtain ⟨r5, m5, h5⟩ : ∃ r m, Pp.block (plOf s ts) 8 l2.tail = (r, m) := ⟨_, _, rfl⟩
            have H5 := hide h5
            have HGO := hide (show (Px.hd l2).2.1 = Pp.tGo by simpa using hb)
            have HC := hide (skip_l hI.at' Pp.tGo (by decide) true hb)
            clear hI hslc hal hb h5
            go_wp2_with fail
            refine (unhide HC).mono ?_
            rintro e' w5 ⟨rfl, b5, h5⟩
            have h5 : AtB R g cap s ts 0 (w.heap.size + 1) w5 l2.tail [.slice av ds.length cv, .slice aw ps.length cw] := h5
            have HI5 : Hid (PrT R g cap s ts (w.heap.size + 1) (W2 w) wo w5 l2.tail ds (.slice av ds.length cv) ps (.slice aw ps.length cw)) := hide ⟨h5, (unhide HI).own.bu b5 (fun k h1 h2 c => by have e1 := (unhide HI).bu0.size; have e2 := (unhide HI).lR; have e3 := (unhide HI).lP; rcases c with c | c <;> omega), (unhide HI).ds, (unhide HI).bu.then b5, (unhide HI).bu0, (unhide HI).lR, (unhide HI).lP, (unhide HI).lg⟩
            have k5 : Kept w5 (w5.alloc (.cells #[.slice none 0 0] 38)) := (Kept.refl _).al _
            have hR5 := h5.rd.rlt
            have hg5 := h5.rd.lt
            have HC5 := hide (block_any 8 (Nat.le_refl _) R g cap s ts (ts.length - l2.tail.length) w5.heap.size 0 (w5.alloc (.cells #[.slice none 0 0] 38)) (h5.rd.kept k5) (by rw [h5.eq]; exact h5.al) (by simp) (by simp) (by omega) (by omega) r5 m5 (by rw [h5.eq]; exact unhide H5))
            have hkeep := Pp.block_keeps (plOf s ts) 8 l2.tail h5.al
            rw [unhide H5] at hkeep
            have HKP := hide hkeep
            clear b5 h5 HC k5 hkeep
            go_wp2_with fail
            refine (unhide HC5).mono ?_
            rintro e' w6 ⟨rfl, b6, ⟨d6, h6, h6d⟩, h6v⟩
            have k5 : Kept w5 (w5.alloc (.cells #[.slice none 0 0] 38)) := (Kept.refl _).al _
            have b56 : Bu (RB R w5.heap.size) w5 w6 := (Bu.of k5).then b6
            cases r5 with
            | none =>
              have hrm : r = none ∧ m = m5 := by
                obtain ⟨f, hf, he⟩ := unhide HF
                cases f with
                | zero => omega
                | succ f =>
                  rw [Pp.bind_none (m := m5) (by rw [Pp.threads, if_pos (unhide HGO), unhide H5])] at he
                  injection he with e1 e2; exact ⟨e1.symm, e2.symm⟩
              obtain ⟨rfl, rfl⟩ := hrm
              have b06 : Bu (RB R (w.heap.size + 1)) (W2 w) w6 := ((unhide HI5).bu0.then (unhide HI5).bu).then (b56.up fun i hi c => c.elim .inl fun e => by omega)
              have HE := hide (GotP.fail hRw hgw b06 ⟨d6, h6⟩)
              have hbr := box_res hRw b06
              have s0 := hbr.cell 0 rfl
              have s1 := hbr.cell 1 rfl
              have sf0 := hbr.fz 0
              have sf1 := hbr.fz 1
              have hrl := hbr.lt
              clear b6 h6v h6 h6d HC5 b56 k5 b06 hbr p0 p1 pf1
              go_wp2_with fail
              exact bodyPost_ret (ret_prog Tryz.results28 _ rfl rfl (unhide HE).2) rfl (unhide HE).1
            | some b =>
              obtain ⟨vs, ⟨xv, rfl, hSt⟩, hPut⟩ := h6v b rfl
              obtain rfl := h6d rfl
              have HI6 : Hid (PrT R g cap s ts (w.heap.size + 1) (W2 w) wo w6 m5 ds (.slice av ds.length cv) ps (.slice aw ps.length cw)) := hide ((unhide HI5).next (Nat.le_refl _) b56 h6 (unhide HKP).1 (unhide HKP).2)
              obtain ⟨a3, n3, q3, rfl⟩ := hSt.form
              have cx : w6.cell? ⟨w5.heap.size, 0, none⟩ = some (.slice a3 n3 q3) := hPut.cells 0 _ rfl
              have HSF : Hid (StsD w6 (Far wo.heap.size w6 (.slice aw ps.length cw)) b (.slice a3 n3 q3)) := hide (hSt.mono fun k hk => by
                have e1 := hk.1
                have e2 := k5.size
                have e3 := (unhide HI5).bu.size
                refine ⟨by omega, hk.2, fun c => ?_⟩
                have e4 := ((unhide HI5).own.row.lt k c.symm).2
                omega)
              have HHF : Hid (∃ f, f + (ps.length + 1) = 4 ∧ Pp.bind (Pp.threads (plOf s ts) f (ps.map (·.1) ++ [b])) (fun t => Pp.ended ds t) m5 = (r, m)) := by
                obtain ⟨f, hf, he⟩ := unhide HF
                cases f with
                | zero => omega
                | succ f =>
                  refine hide ⟨f, by omega, ?_⟩
                  rw [← he]
                  exact Pp.bind_eq (by rw [Pp.threads.eq_2, if_pos (unhide HGO), unhide H5])
              have hle2 : l2.length ≤ ts.length := by have := congrArg List.length (unhide HI).at'.eq; rw [left_len] at this; omega
              have HLT : Hid (m5.length < l2.length ∧ l2.length ≤ ts.length) := hide ⟨by have e1 := (unhide HKP).1.length_le; have e2 := (unhide HI).at'.al.pos; simp only [List.length_tail] at e1; omega, hle2⟩
              have HOW : Hid (OwnB (w6.alloc (.cells #[.slice a3 n3 q3] 38)) wo.heap.size (Far wo.heap.size (w6.alloc (.cells #[.slice a3 n3 q3] 38)) (.slice aw ps.length cw)) ps (.slice aw ps.length cw)) := hide ((unhide HI6).own.bu (M := fun _ => False) (Bu.of ((Kept.refl _).al _)) fun _ _ _ c => c)
              replace p0 := (unhide HI6).at'.box.cell 0 rfl
              replace p1 := (unhide HI6).at'.box.cell 1 rfl
              replace pf1 := (unhide HI6).at'.box.fz 1
              have hPl6 := (unhide HI6).at'.box.lt
              have hcx := block_lt_of_cell cx
              clear b6 h6v h6 HC5 b56 k5 hSt hPut
              go_wp2_with (at_builtin; refine wpList_append_rows (base := wo.heap.size) (n := ps.length) (xs := ps.map (·.2)) (by rfl) _ _ _ (by rfl) elemTs (by rfl) (unhide HOW).row (by rfl) (own_lit 0 38 1 _ (by rfl) (Nat.zero_le _)) ?one (by omega) ?len (unhide HOW).le ?_)
              case one => rfl
              case len => unfold maxLen; omega
              intro ad cp wa HG
              obtain ⟨ca, fa⟩ := (unhide HI6).cellA ((Kept.refl _).al _) (unhide HG)
              have HE := hide ((unhide HI6).grown ((Kept.refl _).al _) (unhide HSF) (unhide HG))
              clear p0 p1 pf1 cx
              go_wp2_with fail
              go_roundw
              case rel =>
                obtain ⟨f, h1, h2⟩ := unhide HHF
                exact ⟨m5, ps ++ [(b, .slice a3 n3 q3)], _, HE, hide ⟨f, by rw [List.length_append, List.length_singleton]; exact h1, by rw [List.map_append]; exact h2⟩⟩
              case measure => exact less_at (unhide HI).at'.rd (unhide HE).at'.rd (unhide HLT).2 (unhide HLT).1
        · have h4' : ¬ (ps.length : Int) < 4 := by omega
          have HFX : Hid (Pp.ended ds (ps.map (·.1)) l2 = (r, m)) := by
            obtain ⟨f, hf, he⟩ := unhide HF
            cases f with
            | zero =>
              rw [Pp.bind_some (x := ps.map (·.1)) (m := l2) (by rw [Pp.threads])] at he
              exact hide he
            | succ f => omega
          have HIX := HI
          clear hI hslc hal HF HI
          go_wp2_with fail
          have HK4 : Hid (∀ b, decide (ps ≠ [] ∧ (Px.hd l2).1 = 4) = b → ∀ wf, Kept wr wf → GotP R g cap s ts w r m (.returned (.tuple #[.agg #[.slice av ds.length cv, .slice aw ps.length cw], .bool b])) (wf.setCells w.heap.size 0 [.slice av ds.length cv, .slice aw ps.length cw]) ∧ (wf.setCells w.heap.size 0 [.slice av ds.length cv, .slice aw ps.length cw]).rangeAt w.heap.size 0 [.slice av ds.length cv, .slice aw ps.length cw]) := hide fun b hb wf k => by
            have := GotP.done hRw hgw (unhide HIX) k b hb
            rw [unhide HFX] at this
            exact this
          have q0 := (unhide HIX).at'.box.cell 0 rfl
          have q1 := (unhide HIX).at'.box.cell 1 rfl
          have hPx := (unhide HIX).at'.box.lt
          have hbr := box_res hRw ((unhide HIX).bu0.then (unhide HIX).bu)
          have s0 := hbr.cell 0 rfl
          have s1 := hbr.cell 1 rfl
          have sf0 := hbr.fz 0
          have sf1 := hbr.fz 1
          have hrl := hbr.lt
          have hlt2 := alive_lt (ts := ts) (a := ts.length - l2.length) (by rw [(unhide HIX).at'.eq]; exact (unhide HIX).at'.al)
          obtain ⟨kd2, tx2, nn2, ht2⟩ : ∃ kd tx n, Px.hd l2 = (kd, tx, n) := ⟨_, _, _, rfl⟩
          have HTK : Hid (∀ W, Kept wr W → Calls Tryz.prog 29 #[.pointer (some ⟨R, 0, none⟩)] W fun e w' => e = .returned (.agg #[.int .i64 (kd2 : Int), .string ⟨tx2.toArray⟩, .int .i64 (nn2 : Int), .complex .f64 (plOf s ts (left ts (ts.length - l2.length)).length).1 (plOf s ts (left ts (ts.length - l2.length)).length).2]) ∧ Kept wr w') := hide fun W hW =>
            (ptoken_any (kd := kd2) (tx := tx2) (n := nn2) ((unhide HIX).at'.rd.kept hW) hlt2 (by rw [(unhide HIX).at'.eq]; exact ht2)).mono fun e w' ⟨h1, h2⟩ => ⟨h1, hW.then h2⟩
          generalize (plOf s ts (left ts (ts.length - l2.length)).length).1 = X2 at *
          generalize (plOf s ts (left ts (ts.length - l2.length)).length).2 = Y2 at *
          have HT2 := hide ht2
          clear hlt2 ht2 hbr
          by_cases hz0 : 0 < ps.length
          · have hz1 : (0 : Int) < (ps.length : Int) := by omega
            have HNP : Hid (ps ≠ []) := hide (List.length_pos_iff.1 hz0)
            obtain ⟨b4, hb4⟩ : ∃ b4, ((kd2 : Int) == 4) = b4 := ⟨_, rfl⟩
            have HB4 : Hid (decide (ps ≠ [] ∧ (Px.hd l2).1 = 4) = b4) := by
              rw [unhide HT2]
              by_cases c : kd2 = 4
              · subst c; rw [decide_eq_true ⟨unhide HNP, rfl⟩]; exact hide hb4
              · rw [ne_int (by omega)] at hb4
                subst hb4
                exact hide (decide_eq_false fun c' => c c'.2)
            go_region_with (go_at_call 29; refine (unhide HTK _ (by first | exact Kept.refl _ | exact (Kept.refl _).dr)).mono ?_; rintro e w9 ⟨rfl, k9⟩; obtain ⟨hcc, hff⟩ := bcell k9; have hz9 := k9.size; have K9 := hide k9; clear k9)
            all_goals
              go_wp2_with fail
              obtain ⟨g1, g2⟩ := unhide HK4 b4 (unhide HB4) w9 (unhide K9)
              exact bodyPost_ret (ret_prog Tryz.results28 _ rfl rfl g2) rfl g1
          · omega
#print axioms program_any
end Go.Proofs.YtkobdephobaopaaGreatDoor
