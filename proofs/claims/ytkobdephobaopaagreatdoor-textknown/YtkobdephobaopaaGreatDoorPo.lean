/- What parse.Read answers. -/
import Derived.Test.YtkobdephobaopaaGreatDoorPm
namespace Go.Proofs.YtkobdephobaopaaGreatDoor
open Go.RowKit
attribute [local go_sem] run_store_complex field_kind field_text field_place

theorem toks_alive {l : List UInt8} {ts : List Lx.Tk} (h : Lx.toks l = .good ts) : Pp.Alive (ts.map Lx.Tk.core) := by
  obtain ⟨t, ht, h4⟩ := Px.toks_end h
  exact ⟨t.core, List.mem_map_of_mem ht, h4, (Lx.toks_fit _ _ h t ht).2.1 h4⟩

/-- What a text is read as: the program, or the byte at which something can't stand. -/
def Pp.out (s : ByteArray) : Option (List Dc × List (List St)) × Nat :=
  match Lx.toks s.data.toList with
  | .bad q => (none, q)
  | .good ts => ((Pp.prog (plOf s ts) (ts.map Lx.Tk.core)).1, (ts.getD (ts.length - (Pp.prog (plOf s ts) (ts.map Lx.Tk.core)).2.length) ⟨0, 0, [], 0⟩).at')
theorem Pp.out_bad {s : ByteArray} {q : Nat} (h : Lx.toks s.data.toList = .bad q) : Pp.out s = (none, q) := by unfold Pp.out; rw [h]
theorem Pp.out_good {s : ByteArray} {ts : List Lx.Tk} {r : Option (List Dc × List (List St))} {m : List Lx.Core} (h : Lx.toks s.data.toList = .good ts) (hr : Pp.prog (plOf s ts) (ts.map Lx.Tk.core) = (r, m)) : Pp.out s = (r, (ts.getD (ts.length - m.length) ⟨0, 0, [], 0⟩).at') := by unfold Pp.out; rw [h]; simp only [hr]

/-- What Read leaves. -/
def GotR (s : ByteArray) (w : World) (r : Option (List Dc × List (List St))) (q : Nat) (e : Ending) (w' : World) : Prop :=
  ∃ (a1 : Option Addr) (n1 q1 : Nat) (a2 : Option Addr) (n2 q2 : Nat) (X Y : Nat) (E : Int), e = .returned (.tuple #[.agg #[.slice a1 n1 q1, .slice a2 n2 q2], .complex .f64 X Y, .int .i64 E]) ∧
    Hid (Kept w w' ∧ (r = none → a1 = none ∧ n1 = 0 ∧ q1 = 0 ∧ a2 = none ∧ n2 = 0 ∧ q2 = 0 ∧ X = lineW s q ∧ Y = colW s q ∧ E = 2) ∧ (∀ d t, r = some (d, t) → X = 0 ∧ Y = 0 ∧ E = 0 ∧ DsIn w' w.heap.size w'.heap.size d (.slice a1 n1 q1) ∧ TsIn w' w.heap.size w'.heap.size t (.slice a2 n2 q2)))

theorem ret_read3 {fn : Func} {p u v : Tmp} (h : fn.results = #[.cell p 27, .tmp u, .tmp v]) (tmps : Array Value) {w : World} {B : Nat} {x y z1 z2 : Value} (hp : tmps.getD p undef = .pointer (some ⟨B, 0, none⟩)) (hu : tmps.getD u undef = z1) (hv : tmps.getD v undef = z2) (hB : w.rangeAt B 0 [x, y]) :
    (results fn tmps).run Tryz.prog w = .ok (.tuple #[.agg #[x, y], z1, z2]) w := by
  rw [results_cell_tmp2 h, hp, hu, hv]
  have := run_loadVar_mid (P := Tryz.prog) w B 0 27 _ _ hB Tryz.underlying27 rfl esizePr
  simp [asAddr, Result.andThen, this]
def Wz (w : World) : World := w.alloc (.cells #[.slice none 0 0, .slice none 0 0] 27)
theorem Wz_kept (w : World) : Kept w (Wz w) := (Kept.refl _).al _
theorem Wz_size (w : World) : (Wz w).heap.size = w.heap.size + 1 := by unfold Wz; simp
theorem Wz_box (w : World) : BoxS (Wz w) w.heap.size [.slice none 0 0, .slice none 0 0] := by
  unfold Wz
  refine ⟨fun j v hv => ?_, fun j => by simp, by simp⟩
  rw [Nat.zero_add]
  match j, hv with
  | 0, hv => cases hv; simp
  | 1, hv => cases hv; simp

set_option maxRecDepth 100000 in
set_option maxHeartbeats 1000000 in
theorem pread_any (s : ByteArray) (hs : s.size ≤ 1125899906842624) (w : World) (hE : Er w) (r : Option (List Dc × List (List St))) (q : Nat) (hr : Pp.out s = (r, q)) :
    Calls Tryz.prog 10 #[.string s] w fun e w' => GotR s w r q e w' := by
  have TOK : Hid (Calls Tryz.prog 27 #[.string s] (Wz w) fun e w' => ∃ v p q, e = .returned (.tuple #[v, p, q]) ∧ Told s (Wz w) (Lx.toks s.data.toList) v p q w') := tokens_any _ _ hs (hE.kept (Wz_kept w)) _ rfl
  have HRR := hide hr
  clear hs hE hr
  go_enter Tryz.func10, Tryz.ntmps10
  go_wp2_with fail
  refine TOK.out.mono ?_
  rintro e w1 ⟨v, pp, qq, rfl, htold⟩
  cases hto : Lx.toks s.data.toList with
  | bad p =>
    rw [hto] at htold
    obtain ⟨rfl, rfl, rfl, hb⟩ := htold
    have hb : Kept (Wz w) w1 := hb
    have hbx : BoxS w1 w.heap.size [.slice none 0 0, .slice none 0 0] := (Wz_box w).kept hb
    have HBX := hide hbx
    have s0 := hbx.cell 0 rfl
    have s1 := hbx.cell 1 rfl
    have sf0 := hbx.fz 0
    have sf1 := hbx.fz 1
    have hrl := hbx.lt
    have HK := hide ((Wz_kept w).then hb)
    have hrq := unhide HRR
    rw [Pp.out_bad hto] at hrq
    injection hrq with e1 e2
    subst e1 e2
    clear hb hto hbx
    go_wp2_with fail
    have hfin : GotR s w none p (.returned (.tuple #[.agg #[.slice none 0 0, .slice none 0 0], .complex .f64 (lineW s p) (colW s p), .int .i64 2])) (w1.setCells w.heap.size 0 [.slice none 0 0, .slice none 0 0]) :=
      ⟨none, 0, 0, none, 0, 0, _, _, _, rfl, hide ⟨Below.setCells (unhide HK) (Nat.le_refl _) _ _, fun _ => ⟨rfl, rfl, rfl, rfl, rfl, rfl, rfl, rfl, rfl⟩, fun d t c => by cases c⟩⟩
    exact bodyPost_ret (ret_read3 Tryz.results10 _ rfl rfl rfl (World.rangeAt_setCells_same _ _ _ _ ((unhide HBX).there 0 2 (by decide)))) rfl hfin
  | good ts =>
    rw [hto] at htold
    have hne : ts ≠ [] := Px.toks_ne _ _ hto
    obtain ⟨g, cap, rfl, rfl, rfl, hg0, hg1, hrow, hb⟩ := told_good htold hne
    have hal := toks_alive hto
    have hfew := Px.toks_count _ _ hto
    obtain ⟨r2, m, hp⟩ : ∃ r2 m, Pp.prog (plOf s ts) (ts.map Lx.Tk.core) = (r2, m) := ⟨_, _, rfl⟩
    have hrq := unhide HRR
    rw [Pp.out_good hto hp] at hrq
    injection hrq with e1 e2
    subst e1
    have HQ := hide e2
    have hl0 : left ts 0 = ts.map Lx.Tk.core := rfl
    obtain ⟨W, hW⟩ : ∃ W, w1.alloc (.cells #[.slice (some ⟨g, 0, none⟩) ts.length cap, .int .i64 0, .int .i64 0] 64) = W := ⟨_, rfl⟩
    have kW : Kept w1 W := by rw [← hW]; exact (Kept.refl _).al _
    have hsz : W.heap.size = w1.heap.size + 1 := by rw [← hW]; simp
    have hD : Rd W w1.heap.size g cap s ts (ts.length - (ts.map Lx.Tk.core).length) 0 := by
      rw [List.length_map, Nat.sub_self]
      refine ⟨?_, ?_, ?_, ?_, ?_, ⟨fun j hj => (kW.cell (p := ⟨g, j, none⟩) hg1).trans (hrow.cells j hj)⟩, by omega, Nat.lt_of_lt_of_le hg1 kW.size, hfew, Nat.zero_le _, by decide⟩
      all_goals (rw [← hW]; simp)
    have HC := hide (program_any w1.heap.size g cap s ts W (ts.map Lx.Tk.core) hD (by rw [List.length_map, Nat.sub_self]; exact hl0) hal r2 m hp)
    have hkm := (Pp.prog_keeps (plOf s ts) (ts.map Lx.Tk.core) hal)
    rw [hp] at hkm
    have HAM := hide (show Pp.Alive m ∧ left ts (ts.length - m.length) = m from ⟨hkm.2, suf_left (a := 0) hkm.1⟩)
    have hb : Kept (Wz w) w1 := hb
    have HK1 := hide ((Wz_kept w).then hb)
    have HBX := hide ((Wz_box w).kept hb)
    have hws : w.heap.size < w1.heap.size := (unhide HBX).lt
    have HG1 := hide (show (Wz w).heap.size ≤ g ∧ g < w1.heap.size from ⟨hg0, hg1⟩)
    obtain ⟨N, hN⟩ : ∃ N, ts.length = N := ⟨_, rfl⟩
    have HN := hide hN
    rw [hN] at hW
    have HW := hide hW
    have KW := hide kW
    clear hb hto hrow hal hfew hD hkm e2 hp hl0 kW hg0 hg1 hne hW
    rw [hN]
    clear hN
    go_wp2_with fail
    rw [show _ = W from unhide HW]
    refine (unhide HC).mono ?_
    rintro e w2 ⟨a1, n1, q1, a2, n2, q2, rfl, b2, h2, h2v⟩
    have hbx2 : BoxS w2 w.heap.size [.slice none 0 0, .slice none 0 0] := ((unhide HBX).kept (unhide KW)).off (b2.block _ (by omega) (by omega)) b2.size
    have hk2 : Kept w w2 := b2.kept ((unhide HK1).then (unhide KW)) fun i hi => by omega
    have HK2 := hide hk2
    have HBX2 := hide hbx2
    have s0 := hbx2.cell 0 rfl
    have s1 := hbx2.cell 1 rfl
    have sf0 := hbx2.fz 0
    have sf1 := hbx2.fz 1
    have hrl := hbx2.lt
    cases r2 with
    | none =>
      obtain ⟨d2, h2⟩ := h2
      obtain ⟨kd, tx, n, ht⟩ : ∃ kd tx n, Px.hd m = (kd, tx, n) := ⟨_, _, _, rfl⟩
      have hlt : ts.length - m.length < ts.length := alive_lt (by rw [(unhide HAM).2]; exact (unhide HAM).1)
      have HT : Hid (∀ W, Kept w2 W → Calls Tryz.prog 29 #[.pointer (some ⟨w1.heap.size, 0, none⟩)] W fun e w' => e = .returned (.agg #[.int .i64 (kd : Int), .string ⟨tx.toArray⟩, .int .i64 (n : Int), .complex .f64 (lineW s q) (colW s q)]) ∧ Kept w2 w') := hide fun W hW => by
        have := ptoken_any (kd := kd) (tx := tx) (n := n) (h2.kept hW) hlt (by rw [(unhide HAM).2]; exact ht)
        rw [plOf_at s ts _ hlt] at this
        have hq : ts[ts.length - m.length].at' = q := by
          rw [← unhide HQ]; simp [List.getD, hlt]
        rw [hq] at this
        exact this.mono fun e w' ⟨x1, x2⟩ => ⟨x1, hW.then x2⟩
      clear b2 h2 h2v hbx2 hk2 hlt ht HC
      go_wp2_with fail
      refine (unhide HT _ (by exact (Kept.refl _).al _)).mono ?_
      rintro e w3 ⟨rfl, k3⟩
      have HK3 := hide ((unhide HK2).then k3)
      have hbx3 := (unhide HBX2).kept k3
      have HBX3 := hide hbx3
      replace s0 := hbx3.cell 0 rfl
      replace s1 := hbx3.cell 1 rfl
      replace sf0 := hbx3.fz 0
      replace sf1 := hbx3.fz 1
      replace hrl := hbx3.lt
      clear k3 hbx3
      go_wp2_with fail
      have hfin : GotR s w none q (.returned (.tuple #[.agg #[.slice none 0 0, .slice none 0 0], .complex .f64 (lineW s q) (colW s q), .int .i64 2])) (w3.setCells w.heap.size 0 [.slice none 0 0, .slice none 0 0]) :=
        ⟨none, 0, 0, none, 0, 0, _, _, _, rfl, hide ⟨Below.setCells (unhide HK3) (Nat.le_refl _) _ _, fun _ => ⟨rfl, rfl, rfl, rfl, rfl, rfl, rfl, rfl, rfl⟩, fun d t c => by cases c⟩⟩
      exact bodyPost_ret (ret_read3 Tryz.results10 _ rfl rfl rfl (World.rangeAt_setCells_same _ _ _ _ ((unhide HBX3).there 0 2 (by decide)))) rfl hfin
    | some x =>
      obtain ⟨d, t⟩ := x
      obtain ⟨hds, hts⟩ := h2v d t rfl
      have HV := hide (show DsIn w2 W.heap.size w2.heap.size d (.slice a1 n1 q1) ∧ TsIn w2 W.heap.size w2.heap.size t (.slice a2 n2 q2) from ⟨hds, hts⟩)
      clear b2 h2 h2v hbx2 hk2 hds hts HC
      go_wp2_with fail
      obtain ⟨Wf, hWf⟩ : ∃ Wf, (w2.setCells w.heap.size 0 [.slice a1 n1 q1, .slice a2 n2 q2]).alloc (.cells #[.slice a1 n1 q1, .slice a2 n2 q2] 27) = Wf := ⟨_, rfl⟩
      have kk : Kept (w2.setCells w.heap.size 0 [.slice a1 n1 q1, .slice a2 n2 q2]) Wf := by rw [← hWf]; exact (Kept.refl _).al _
      have hs2 : (w2.setCells w.heap.size 0 [.slice a1 n1 q1, .slice a2 n2 q2]).heap.size = w2.heap.size := size_setCells ..
      have st : StaysD (Rng W.heap.size w2.heap.size) w2 Wf := fun j hj => (kk.block j (by rw [hs2]; exact hj.2)).trans (heap_setCells _ _ _ _ j (by have := hj.1; omega))
      have hszf : w2.heap.size ≤ Wf.heap.size := by have := kk.size; omega
      have hkf : Kept w Wf := Kept.then (b := w2.setCells w.heap.size 0 [.slice a1 n1 q1, .slice a2 n2 q2]) (Below.setCells (unhide HK2) (Nat.le_refl _) _ _) kk
      have hrg : Wf.rangeAt w.heap.size 0 [.slice a1 n1 q1, .slice a2 n2 q2] := fun j v hv => kk.cellS (World.rangeAt_setCells_same _ _ _ _ ((unhide HBX2).there 0 2 (by decide)) j v hv)
      have hv : ∀ d' t', some (d, t) = some (d', t') → (0 : Nat) = 0 ∧ (0 : Nat) = 0 ∧ (0 : Int) = 0 ∧ DsIn Wf w.heap.size Wf.heap.size d' (.slice a1 n1 q1) ∧ TsIn Wf w.heap.size Wf.heap.size t' (.slice a2 n2 q2) := by
        intro d' t' c
        injection c with c
        injection c with c1 c2
        subst c1 c2
        exact ⟨rfl, rfl, rfl, ((unhide HV).1.stays st).mono (Rng.up (by omega) hszf), ((unhide HV).2.stays st).mono (Rng.up (by omega) hszf)⟩
      have hno : (some (d, t) = none → a1 = none ∧ n1 = 0 ∧ q1 = 0 ∧ a2 = none ∧ n2 = 0 ∧ q2 = 0 ∧ 0 = lineW s q ∧ 0 = colW s q ∧ (0 : Int) = 2) := fun c => nomatch c
      have hfin : GotR s w (some (d, t)) q (.returned (.tuple #[.agg #[.slice a1 n1 q1, .slice a2 n2 q2], .complex .f64 0 0, .int .i64 0])) Wf := ⟨a1, n1, q1, a2, n2, q2, 0, 0, 0, rfl, hide ⟨hkf, hno, hv⟩⟩
      rw [← hWf] at hfin hrg
      exact bodyPost_ret (ret_read3 Tryz.results10 _ rfl rfl rfl hrg) rfl hfin
#print axioms pread_any
end Go.Proofs.YtkobdephobaopaaGreatDoor
