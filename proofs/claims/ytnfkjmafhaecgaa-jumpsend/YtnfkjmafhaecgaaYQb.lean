/- Qb -/
import Derived.Test.YtnfkjmafhaecgaaYQa
import Derived.Deep.RegionHeld3
import Derived.Deep.DeepCutAuto
import Derived.Deep.CutBlock

namespace Go.Proofs.Ytnfkjmafhaecgaa
open Go.RowKit
attribute [local go_sem] run_store_complex
/-- What holds behind the declarations. -/
def EndDs (s : ByteArray) (R g cap P : Nat) (ts : List Lx.Tk) (w4 : World) (r : Option (List Dc × List (List St))) (m : List Lx.Core) (wr : World) : Prop :=
  ∃ b fl b0 ds v, QrD R g cap P ts w4 wr b fl b0 ds v ∧ (fl = false → Pp.Alive (left ts b) ∧ toRun (plOf s ts) 4 ds [] (left ts b) = (r, m)) ∧ (fl = true → r = none ∧ b0 = ts.length - m.length)
/-- What holds ahead of each declaration. -/
def AtDs (s : ByteArray) (R g cap P : Nat) (ts : List Lx.Tk) (w4 : World) (r : Option (List Dc × List (List St))) (m : List Lx.Core) (wr : World) : Prop :=
  ∃ b fl b0 ds v, QrD R g cap P ts w4 wr b fl b0 ds v ∧ (fl = false → Pp.Alive (left ts b) ∧ ∃ f, f + ds.length = 24 ∧ toRead (plOf s ts) f ds (left ts b) = (r, m)) ∧ (fl = true → r = none ∧ b0 = ts.length - m.length)
/-- What holds behind the threads. -/
def EndTs (R g cap P : Nat) (ts : List Lx.Tk) (w4 : World) (r : Option (List Dc × List (List St))) (m : List Lx.Core) (wr : World) : Prop :=
  ∃ w5 b fl b0 ds dv ps v, QrT R g cap P ts w4 w5 wr b fl b0 ds dv v ∧ (fl = false → OwnB wr w5.heap.size (Far w5.heap.size wr v) ps v ∧ r = some (ds, ps.map (·.1))) ∧ (fl = true → r = none ∧ b0 = ts.length - m.length)
/-- What holds ahead of each thread. -/
def AtTs (s : ByteArray) (R g cap P : Nat) (ts : List Lx.Tk) (w4 w5 : World) (ds : List Dc) (dv : Value) (r : Option (List Dc × List (List St))) (m : List Lx.Core) (wr : World) : Prop :=
  ∃ b fl b0 ps v, QrT R g cap P ts w4 w5 wr b fl b0 ds dv v ∧ (fl = false → OwnB wr w5.heap.size (Far w5.heap.size wr v) ps v ∧ Pp.Alive (left ts b) ∧ ∃ f, f + ps.length = 4 ∧ toRun (plOf s ts) f ds (ps.map (·.1)) (left ts b) = (r, m)) ∧ (fl = true → r = none ∧ b0 = ts.length - m.length)
theorem toRead_rest {pl : Pp.Pl} {f : Nat} {ds : List Dc} {l : List Lx.Core} (h : Pp.dk (Px.hd l).2.1 = 0) : toRead pl f ds l = toRun pl 4 ds [] l := by
  cases f with
  | zero => exact toRead_full
  | succ f => exact toRead_none h
theorem alive_hd {ts : List Lx.Tk} {b : Nat} (h : Pp.Alive (left ts b)) (hn : (Px.hd (left ts b)).2.1 ≠ []) : Pp.Alive (left ts (b + 1)) := by
  have := h.tail (.inr hn)
  rwa [left_tail] at this
theorem lenq_left {ts : List Lx.Tk} {b : Nat} (h : b < ts.length) : ts.length - (left ts b).length = b := by rw [left_len]; omega
/-- What a declaration leaves. -/
theorem atds_next {s : ByteArray} {R g cap P : Nat} {ts : List Lx.Tk} {w4 W : World} {r : Option (List Dc × List (List St))} {m : List Lx.Core} {b f : Nat} {ds : List Dc} {v : Value} {d : Dc} {o : Option Dc} {l : List Lx.Core} {b1 : Nat} {fl : Bool} {b0 : Nat}
    (hq : QrD R g cap P ts w4 W b1 fl b0 (ds ++ [d]) v) (hf : f + 1 + ds.length = 24) (hr : toRead (plOf s ts) (f + 1) ds (left ts b) = (r, m)) (hk : Pp.dk (Px.hd (left ts b)).2.1 ≠ 0) (hd : Pp.decl (plOf s ts) (left ts b) = (o, l))
    (h1 : fl = false → o = some d ∧ l = left ts b1 ∧ Pp.Alive (left ts b1)) (h2 : fl = true → o = none ∧ b0 = ts.length - l.length) : AtDs s R g cap P ts w4 r m W := by
  refine ⟨b1, fl, b0, ds ++ [d], v, hq, fun h => ?_, fun h => ?_⟩
  · obtain ⟨rfl, rfl, ha⟩ := h1 h
    refine ⟨ha, f, by simp; omega, ?_⟩
    rw [← toRead_next hk hd]; exact hr
  · obtain ⟨rfl, e⟩ := h2 h
    rw [toRead_bad hk hd] at hr
    injection hr with e1 e2
    exact ⟨e1.symm, by rw [← e2]; exact e⟩
/-- A call of block by its contract, at a step of a region that draws its order. -/
theorem step_blk {w : World} {ops : Array Oper} {o : Oper} {a : Act} {K : Act → World → Prop} {Q : Exit → Act → World → Prop} {E : Prop} (hgd : o.guard = none) (s x y : Operand) (tys : Array TypeId)
    (ho : o.op = .call { callee := .value (.func 54), args := #[s, x, y], argTypes := tys }) (v1 v2 v3 : Value) (hs : a.eval s = v1) (hx : a.eval x = v2) (hy : a.eval y = v3) {R : Ending → World → Prop} (hc : Calls Try.prog 54 #[v1, v2, v3] w R)
    (h : ∀ e w', R e w' → ∃ v, e = .returned v ∧ K (a.put o.dst v) w') : if Region.wanted o (yielded ops a.tmps) = true then Oper.wp Try.prog o a w K Q else E := by
  have hw : Region.wanted o (yielded ops a.tmps) = true := by simp [Region.wanted, hgd]
  rw [if_pos hw]
  have key : (execOp a.eval o).run Try.prog w = .ok (.enter 54 #[v1, v2, v3]) w := by
    subst hs hx hy
    unfold execOp
    simp [ho, go_sem]
  unfold Oper.wp
  rw [key]
  refine hc.mono fun e w' hr => ?_
  obtain ⟨v, rfl, hk⟩ := h e w' hr
  exact hk
set_option maxRecDepth 100000 in
set_option maxHeartbeats 4000000 in
theorem rparse_good (s : ByteArray) (hs : s.size ≤ 1125899906842624) (w : World) (ts : List Lx.Tk) (h : Lx.toks s.data.toList = .good ts) (r : Option (List Dc × List (List St))) (m : List Lx.Core) (hr : Pp.prog (plOf s ts) (ts.map Lx.Tk.core) = (r, m)) :
    Calls Try.prog 37 #[.string s] w fun e w' => GotQ w r ((ts.getD (ts.length - m.length) ⟨0, 0, [], 0⟩).at') e w' := by
  have TK : Hid _ := rtokens_any s (Wz w) hs (.good ts) h
  have hne : ts ≠ [] := Px.toks_ne _ _ h
  have HFW : Hid (ts.length ≤ 6001) := Px.toks_count _ _ h
  have HOK : Hid (TkOk s ts) := tkok_of hs h
  have HAL : Hid (Pp.Alive (left ts 0)) := toks_alive h
  have HRR : Hid (toRead (plOf s ts) 24 [] (left ts 0) = (r, m)) := hr
  have HML : Hid (m.length ≤ ts.length ∧ ts.length - m.length < ts.length) := by
    have hk := Pp.prog_keeps (plOf s ts) _ (toks_alive h)
    rw [hr] at hk
    have h1 : m.length ≤ (ts.map Lx.Tk.core).length := hk.1.length_le
    have h2 : 0 < m.length := hk.2.pos
    rw [List.length_map] at h1
    exact ⟨h1, by omega⟩
  clear hs h hr
  go_enter Try.func37, Try.ntmps37
  go_wp2_with fail
  refine Calls.mono TK.out ?_
  rintro e w1 ⟨v, p, e', rfl, ht⟩
  obtain ⟨g, cap, rfl, rfl, rfl, hg0, hg1, hrow, hk⟩ := rtold_good ht hne
  obtain ⟨R, hR⟩ : ∃ R, w1.heap.size = R := ⟨_, rfl⟩
  have hq0 := rq_start (cap := cap) hrow hg1 hR (Kept.refl w1) HFW.out
  obtain ⟨W3, hW3⟩ : ∃ W, w1.alloc (.cells #[.slice (some ⟨g, 0, none⟩) ts.length cap, .int .i64 0, .bool false, .int .i64 0] 97) = W := ⟨_, rfl⟩
  rw [hW3] at hq0
  have hz3 : W3.heap.size = R + 1 := by rw [← hW3, ← hR]; simp
  have k3 : Kept w1 W3 := by rw [← hW3]; exact (Kept.refl _).al _
  obtain ⟨P, hP⟩ : ∃ P, W3.heap.size = P := ⟨_, rfl⟩
  obtain ⟨W4, hW4⟩ : ∃ W, W3.alloc (.cells #[.slice none 0 0, .slice none 0 0] 27) = W := ⟨_, rfl⟩
  have k4 : Kept W3 W4 := by rw [← hW4]; exact (Kept.refl _).al _
  have hz4 : W4.heap.size = P + 1 := by rw [← hW4, ← hP]; simp
  have hzw : (Wz w).heap.size = w.heap.size + 1 := Wz_size w
  have HBX : Hid (BoxS W4 w.heap.size [.slice none 0 0, .slice none 0 0]) := (((Wz_box w).kept hk).kept k3).kept k4
  have HK4 : Hid (Kept w W4) := (((Wz_kept w).then hk).then k3).then k4
  have HGW : Hid (w.heap.size < g ∧ g < R ∧ R < P ∧ P < W4.heap.size) := ⟨by omega, by omega, by omega, by omega⟩
  have HD : Hid (AtDs s R g cap P ts W4 r m W4) := by
    have hbx : BoxS W4 P [.slice none 0 0, .slice none 0 0] := by rw [← hW4, ← hP]; exact box_newQ _ #[.slice none 0 0, .slice none 0 0] _
    exact ⟨0, false, 0, [], .slice none 0 0, ⟨hq0.kept k4, List.length_pos_iff.2 hne, hbx, OwnD.nil _ _ (Nat.le_refl _), Bu.refl _ _, HGW.out.2.2.1, HGW.out.2.2.2, HGW.out.2.1⟩, fun _ => ⟨HAL.out, 24, rfl, HRR.out⟩, fun h => by cases h⟩
  have HW4 : Hid (W3.alloc (.cells #[.slice none 0 0, .slice none 0 0] 27) = W4) := hW4
  clear ht hne hg0 hg1 hrow hk hq0 hz3 k3 k4 hz4 hzw HAL HRR TK hW4
  go_upto_block 0 with fail
  rw [show _ = W4 from HW4.out]
  clear HW4 hW3 hP hR
  go_cut [] from 10 to 113 (fun wx => Hid (EndDs s R g cap P ts W4 r m wx))
  case first =>
    go_wp2_with fail
    go_loopw [] (fun wr => Hid (AtDs s R g cap P ts W4 r m wr)) (fun wr => measOf wr R)
    case atStart => exact HD
    case round =>
      obtain ⟨b, fl, b0, ds, v, hQ, hF, hT⟩ := hrel.out
      have HQ : Hid (QrD R g cap P ts W4 wr b fl b0 ds v) := hQ
      have HT : Hid (fl = true → r = none ∧ b0 = ts.length - m.length) := hT
      have HF : Hid (fl = false → Pp.Alive (left ts b) ∧ ∃ f, f + ds.length = 24 ∧ toRead (plOf s ts) f ds (left ts b) = (r, m)) := hF
      have c2 := hQ.rq.c2
      have hRl := hQ.rq.rlt
      clear hQ hT hF hrel HD
      cases fl with
      | true =>
        have HT1 : Hid (r = none ∧ b0 = ts.length - m.length) := HT.out rfl
        clear HT HF
        go_wp2_with fail
        go_quiet (fail)
        go_wp2_with fail
        go_meet
        exact ⟨b, true, b0, ds, v, HQ.out.kept ((Kept.refl _).drN _), fun h => (by cases h), fun _ => HT1.out⟩
      | false =>
        obtain ⟨hal, f, hf, hrd⟩ := HF.out rfl
        have HAL : Hid (Pp.Alive (left ts b)) := hal
        have HRD : Hid (toRead (plOf s ts) f ds (left ts b) = (r, m)) := hrd
        have HFL : Hid (f + ds.length = 24) := hf
        have HLT : Hid (b < ts.length) := HQ.out.lt
        obtain ⟨t0, t1, t2, t3⟩ := HQ.out.rq.tok b HLT.out
        have c0 := HQ.out.rq.c0
        have c1 := HQ.out.rq.c1
        have hgl := HQ.out.rq.lt
        have hbi : (b : Int) < (ts.length : Int) := by have := HLT.out; omega
        have HHD : Hid (Px.hd (left ts b) = (ts[b].kind, ts[b].text, ts[b].n)) := hd_in ts b HLT.out
        have HKD : Hid (ts[b].kind = kindOf ts[b].text) := HOK.out.kd _ (List.getElem_mem HLT.out)
        have hfw := HFW.out
        have PL : Hid (∀ W, Calls Try.prog 50 #[.string s, .int .i64 (ts[b].at' : Int)] W fun e w' => e = .returned (.complex .f64 (lineW s ts[b].at') (colW s ts[b].at')) ∧ w' = W) := fun W => place_in s _ HOK.out.sz (HOK.out.at' _ (List.getElem_mem HLT.out)) W
        have HPL : Hid (plOf s ts (left ts b).length = (lineW s ts[b].at', colW s ts[b].at')) := by
          have := plOf_at s ts b HLT.out
          exact this
        have DK : Hid (∀ W, Calls Try.prog 48 #[.string (Px.ba ts[b].text)] W fun e w' => e = .returned (.int .i64 (Pp.dk ts[b].text : Nat)) ∧ w' = W) := rdeclKind_any _
        clear hal hrd HF HT t2
        generalize ts[b].kind = kd at *
        generalize lineW s ts[b].at' = X at *
        generalize colW s ts[b].at' = Y at *
        generalize ts[b].at' = aa at *
        generalize ts[b].n = nn at *
        generalize ts[b].text = tx at *
        by_cases hk1 : kd = 1
        · subst hk1
          by_cases hdk : Pp.dk tx = 0
          · rw [hdk] at DK
            generalize Px.ba tx = TX at *
            have HDK : Hid (Pp.dk tx = 0) := hdk
            clear hdk
            go_wp2_with fail
            go_quiet ((go_at_call 48; exact Calls.quiet_of_same (DK.out _)))
            go_wp2_with fail
            go_meet
            refine ⟨b, false, b0, ds, v, HQ.out.kept ((Kept.refl _).drN _), fun _ => ⟨HAL.out, ?_⟩, fun h => (by cases h)⟩
            rw [← toRead_rest (f := f) (by rw [HHD.out]; exact HDK.out)]; exact HRD.out
          · have HDK : Hid (Pp.dk tx ≠ 0) := hdk
            have hdi : (0 : Int) < (Pp.dk tx : Int) := by omega
            have HHK : Hid (Pp.dk (Px.hd (left ts b)).2.1 = Pp.dk tx) := by rw [HHD.out]; rfl
            have HTX : Hid ((Px.hd (left ts b)).2.1 ≠ []) := by rw [HHD.out]; exact Pp.dk_ne hdk
            have HNG : Hid ((Px.hd (left ts b)).2.1 ≠ Pp.tGo) := by rw [HHD.out]; exact dk_go hdk
            generalize Pp.dk tx = kk at *
            generalize Px.ba tx = TX at *
            have p0 := HQ.out.box.cell 0 rfl
            have hPl := HQ.out.box.lt
            obtain ⟨av, cv, rfl, hslc⟩ := own_slice HQ.out.own.row
            have HSL : Hid _ := hslc
            clear hdk hslc HHD HKD
            go_wp2_with fail
            go_quiet ((go_at_call 48; exact Calls.quiet_of_same (DK.out _)))
            obtain ⟨W6, hW6⟩ : ∃ W, wr.drewN nq = W := ⟨_, rfl⟩
            have K6 : Hid (Kept wr W6) := by rw [← hW6]; exact (Kept.refl _).drN _
            rw [hW6]
            clear hW6
            have HQ6 : Hid (QrD R g cap P ts W4 W6 b false b0 ds (.slice av ds.length cv)) := HQ.out.kept K6.out
            have c0 := K6.out.cellS c0
            have c1 := K6.out.cellS c1
            have t1 := K6.out.cellS t1
            have t3 := K6.out.cellS t3
            have p0 := K6.out.cellS p0
            have hRl := HQ6.out.rq.rlt
            have hgl := HQ6.out.rq.lt
            have hPl := HQ6.out.box.lt
            by_cases h24 : ds.length = 24
            · have h24i : ((ds.length : Int) == 24) = true := by rw [h24]; rfl
              have FL : Hid (Calls Try.prog 49 #[.pointer (some ⟨R, 0, none⟩)] W6 fun e w' => (∃ v, e = .returned v) ∧ But R W6 w' ∧ Rq w' R g cap ts b true b) := fail_any HQ6.out.rq
              have HRM : Hid (r = none ∧ m = left ts b) := by
                obtain rfl : f = 0 := by have := HFL.out; omega
                have := HRD.out
                rw [toRead_full, rest_stop HNG.out] at this
                injection this with e1 e2
                exact ⟨e1.symm, e2.symm⟩
              clear c0 c1 t0 t1 t3 c2 K6 PL DK HPL
              go_wp2_with fail
              refine Calls.mono FL.out ?_
              rintro e w7 ⟨⟨vv, rfl⟩, hb7, hq7⟩
              have HQ7 : Hid (QrD R g cap P ts W4 w7 b true b ds (.slice av ds.length cv)) := HQ6.out.next hb7 hq7 HLT.out
              clear hb7 hq7
              go_wp2_with fail
              go_meet
              refine ⟨b, true, b, ds, _, HQ7.out, fun h => (by cases h), fun _ => ⟨HRM.out.1, ?_⟩⟩
              rw [HRM.out.2, lenq_left HLT.out]
            · have h24i : ((ds.length : Int) == 24) = false := ne_int (by omega)
              obtain ⟨f', rfl⟩ : ∃ f', f = f' + 1 := ⟨f - 1, by have := HFL.out; omega⟩
              have SS : Hid (∀ w', Kept W6 w' → Hid (Kept W6 w') ∧ w'.cell? ⟨R, 0, none⟩ = some (.slice (some ⟨g, 0, none⟩) ts.length cap) ∧ w'.cell? ⟨R, 1, none⟩ = some (.int .i64 (b : Int)) ∧ w'.cell? ⟨g, b * 4 + 1, none⟩ = some (.string TX) ∧ w'.cell? ⟨g, b * 4 + 3, none⟩ = some (.int .i64 (aa : Int))) := fun w' KK => ⟨KK, KK.cellS c0, KK.cellS c1, KK.cellS t1, KK.cellS t3⟩
              go_upto_region 9 with fail
              go_cut [10] from 26 to 113 (fun d wx => ∃ D, d = .pointer (some ⟨D, 0, none⟩) ∧ Hid (W6.heap.size ≤ D ∧ BoxS wx D [.int .i64 (kk : Int), .string ⟨#[]⟩, .int .i64 0, .complex .f64 X Y] ∧ Kept W6 wx))
              case first =>
                go_region_held3 (fun w' => Hid (Kept W6 w') ∧ w'.cell? ⟨R, 0, none⟩ = some (.slice (some ⟨g, 0, none⟩) ts.length cap) ∧ w'.cell? ⟨R, 1, none⟩ = some (.int .i64 (b : Int)) ∧ w'.cell? ⟨g, b * 4 + 1, none⟩ = some (.string TX) ∧ w'.cell? ⟨g, b * 4 + 3, none⟩ = some (.int .i64 (aa : Int)))
                  (first
                    | (refine SS.out _ ?_; repeat' first | exact Kept.refl _ | refine Kept.al ?_ _ | refine Kept.dr ?_ | refine Below.setCell ?_ ?_ _ | exact Nat.le_refl _))
                  (first
                    | (go_at_call 48; refine (DK.out _).mono ?_; rintro e w4' ⟨rfl, rfl⟩)
                    | (go_at_call 50; refine (PL.out _).mono ?_; rintro e w5' ⟨rfl, rfl⟩))
                all_goals
                  go_wp2_with fail
                  go_meet
                  exact ⟨_, rfl, Nat.le_refl _, (box_newQ W6 #[.int .i64 (kk : Int), .string ⟨#[]⟩, .int .i64 0, .complex .f64 X Y] _).kept (Kept.refl _).dr, ((Kept.refl _).al _).dr⟩
              case rest =>
                obtain ⟨D, rfl, HC⟩ := hcut
                have HQ9 : Hid (QrD R g cap P ts W4 wc b false b0 ds (.slice av ds.length cv)) := HQ6.out.kept HC.out.2.2
                have HDV : Hid (W4.heap.size ≤ D ∧ (Value.slice av ds.length cv).ownBlock ≠ some D ∧ R < D) := by
                  have e1 := HQ6.out.bu.size
                  have e2 := HC.out.1
                  have e3 := HQ6.out.lR
                  have e4 := HQ6.out.lP
                  exact ⟨by omega, fun c => by have := (HQ6.out.own.row.lt D c).2; omega, by omega⟩
                clear c0 c1 t0 t1 t3 c2 p0 K6 SS hRl hgl hPl
                have HAL1 : Hid (Pp.Alive (left ts (b + 1))) := alive_hd HAL.out HTX.out
                have HL1 : Hid (b + 1 < ts.length) := alive_lt HAL1.out
                have c1 := HQ9.out.rq.c1
                have f1 := HQ9.out.rq.z 1
                have hRl := HQ9.out.rq.rlt
                obtain ⟨W10, hW10⟩ : ∃ W, wc.setCell ⟨R, 1, none⟩ (.int .i64 ((b : Int) + 1)) = W := ⟨_, rfl⟩
                have hq10 := HQ9.out.rq.at' (b + 1) (Nat.le_of_lt HL1.out)
                rw [show ((b + 1 : Nat) : Int) = (b : Int) + 1 by omega, hW10] at hq10
                have hb10 : But R wc W10 := by rw [← hW10]; exact (But.refl _ _).set _ _
                have HQ10 : Hid (QrD R g cap P ts W4 W10 (b + 1) false b0 ds (.slice av ds.length cv)) := HQ9.out.next hb10 hq10 HL1.out
                have HX10 : Hid (BoxS W10 D [.int .i64 (kk : Int), .string ⟨#[]⟩, .int .i64 0, .complex .f64 X Y]) := HC.out.2.1.but hb10 (by have := HDV.out.2.2; omega)
                obtain ⟨ok, hok⟩ : ∃ ok, isNmT (Px.hd (left ts (b + 1))) = ok := ⟨_, rfl⟩
                have HNM : Hid (isNmT (Px.hd (left ts (b + 1))) = ok) := hok
                have NM : Hid _ := rname_any hq10 HL1.out (HOK.out.fit _ (List.getElem_mem HL1.out)) ok (by rw [hok]; rfl)
                have x1 := HX10.out.cell 1 rfl
                have xf := HX10.out.fz
                have xl := HX10.out.lt
                clear hq10 hb10 hok
                go_wp2_with fail
                refine Calls.mono NM.out ?_
                rintro e w11 ⟨⟨nv, rfl, hv⟩, hb11, hz11⟩
                have HV : Hid (ok = true → nv = Px.ba (Px.hd (left ts (b + 1))).2.1) := hv
                obtain ⟨b1, hb1⟩ : ∃ b1, (if ok = true then b + 1 + 1 else b + 1) = b1 := ⟨_, rfl⟩
                obtain ⟨z1, hz1⟩ : ∃ z1, (if false = true ∨ ok = true then b0 else b + 1) = z1 := ⟨_, rfl⟩
                have hq11 : Rq w11 R g cap ts b1 (!ok) z1 := by rw [← hb1, ← hz1]; exact hz11
                have HB1 : Hid ((if ok = true then b + 1 + 1 else b + 1) = b1 ∧ (if false = true ∨ ok = true then b0 else b + 1) = z1) := ⟨hb1, hz1⟩
                have HL2 : Hid (b1 < ts.length ∧ b < b1 ∧ Pp.Alive (left ts b1)) := by
                  cases ok with
                  | true =>
                    have ha : Pp.Alive (left ts (b + 1 + 1)) := alive_next HAL1.out (nmt_kind HNM.out)
                    have e : b + 1 + 1 = b1 := hb1
                    subst e
                    exact ⟨alive_lt ha, by omega, ha⟩
                  | false =>
                    have e : b + 1 = b1 := hb1
                    subst e
                    exact ⟨HL1.out, by omega, HAL1.out⟩
                have HQ11 : Hid (QrD R g cap P ts W4 w11 b1 (!ok) z1 ds (.slice av ds.length cv)) := HQ10.out.next hb11 hq11 HL2.out.1
                have HX11 : Hid (BoxS w11 D [.int .i64 (kk : Int), .string ⟨#[]⟩, .int .i64 0, .complex .f64 X Y]) := HX10.out.but hb11 (by have := HDV.out.2.2; omega)
                obtain ⟨W12, hW12⟩ : ∃ W, w11.setCell ⟨D, 1, none⟩ (.string nv) = W := ⟨_, rfl⟩
                have HQ12 : Hid (QrD R g cap P ts W4 W12 b1 (!ok) z1 ds (.slice av ds.length cv)) := by rw [← hW12]; exact HQ11.out.aside HDV.out.1 HDV.out.2.1 _ _
                have HX12 : Hid (BoxS W12 D [.int .i64 (kk : Int), .string nv, .int .i64 0, .complex .f64 X Y]) := by rw [← hW12]; exact HX11.out.setv 1 [.string nv] _ (by simp) rfl
                clear c1 f1 hRl hW10 x1 xf xl hv hb11 hz11 hb1 hz1 hq11
                have x1 := HX11.out.cell 1 rfl
                have xf := HX11.out.fz
                have xl := HX11.out.lt
                have u0 := HX12.out.cell 0 rfl
                have u2 := HX12.out.cell 2 rfl
                have uf := HX12.out.fz
                have ul := HX12.out.lt
                by_cases h6 : kk = 6
                · have h6i : ((kk : Int) == 6) = true := by rw [h6]; rfl
                  have H6 : Hid (kk = 6) := h6
                  obtain ⟨ok2, hok2⟩ : ∃ ok2, (!(!ok) && isNo 3 (Px.hd (left ts b1))) = ok2 := ⟨_, rfl⟩
                  have NO : Hid _ := rnumber_any HQ12.out.rq HL2.out.1 3 ok2 hok2
                  have HK2 : Hid ((!(!ok) && isNo 3 (Px.hd (left ts b1))) = ok2) := hok2
                  clear h6 hok2
                  go_wp2_with fail
                  refine Calls.mono NO.out ?_
                  rintro e w13 ⟨⟨n, rfl, hn⟩, hb13, hz13⟩
                  have HN : Hid (ok2 = true → n = (Px.hd (left ts b1)).2.2) := hn
                  obtain ⟨b2, hb2⟩ : ∃ b2, (if ok2 = true then b1 + 1 else b1) = b2 := ⟨_, rfl⟩
                  obtain ⟨f2, hf2⟩ : ∃ f2, (!ok || !ok2) = f2 := ⟨_, rfl⟩
                  obtain ⟨z2, hz2⟩ : ∃ z2, (if (!ok) = true ∨ ok2 = true then z1 else b1) = z2 := ⟨_, rfl⟩
                  have hq13 : Rq w13 R g cap ts b2 f2 z2 := by rw [← hb2, ← hf2, ← hz2]; exact hz13
                  have HB2 : Hid ((if ok2 = true then b1 + 1 else b1) = b2 ∧ (!ok || !ok2) = f2 ∧ (if (!ok) = true ∨ ok2 = true then z1 else b1) = z2) := ⟨hb2, hf2, hz2⟩
                  have HL3 : Hid (b2 < ts.length ∧ b < b2 ∧ Pp.Alive (left ts b2)) := by
                    cases ok2 with
                    | true =>
                      have hk := HK2.out
                      simp only [Bool.not_not, Bool.and_eq_true] at hk
                      have ha : Pp.Alive (left ts (b1 + 1)) := alive_next HL2.out.2.2 (no_kind hk.2)
                      have e : b1 + 1 = b2 := hb2
                      subst e
                      exact ⟨alive_lt ha, by have := HL2.out.2.1; omega, ha⟩
                    | false =>
                      have e : b1 = b2 := hb2
                      subst e
                      exact HL2.out
                  have HQ13 : Hid (QrD R g cap P ts W4 w13 b2 f2 z2 ds (.slice av ds.length cv)) := HQ12.out.next hb13 hq13 HL3.out.1
                  have HX13 : Hid (BoxS w13 D [.int .i64 (kk : Int), .string nv, .int .i64 0, .complex .f64 X Y]) := HX12.out.but hb13 (by have := HDV.out.2.2; omega)
                  obtain ⟨W14, hW14⟩ : ∃ W, w13.setCell ⟨D, 2, none⟩ (.int .i64 (n : Int)) = W := ⟨_, rfl⟩
                  have HQ14 : Hid (QrD R g cap P ts W4 W14 b2 f2 z2 ds (.slice av ds.length cv)) := by rw [← hW14]; exact HQ13.out.aside HDV.out.1 HDV.out.2.1 _ _
                  have HX14 : Hid (BoxS W14 D [.int .i64 (kk : Int), .string nv, .int .i64 (n : Int), .complex .f64 X Y]) := by rw [← hW14]; exact HX13.out.setv 2 [.int .i64 (n : Int)] _ (by simp) rfl
                  clear x1 xf xl u0 u2 uf ul hn hb13 hz13 hb2 hf2 hz2 hq13 hW12
                  have v2 := HX13.out.cell 2 rfl
                  have vf := HX13.out.fz
                  have vl := HX13.out.lt
                  have p0 := HQ14.out.box.cell 0 rfl
                  have pf := HQ14.out.box.fz 0
                  have hPl := HQ14.out.box.lt
                  have y0 := HX14.out.cell 0 rfl
                  have y1 := HX14.out.cell 1 rfl
                  have y2 := HX14.out.cell 2 rfl
                  have y3 := HX14.out.cell 3 rfl
                  have yl := HX14.out.lt
                  have HOW : Hid (OwnD (W14.alloc (.cells #[.int .i64 (kk : Int), .string nv, .int .i64 (n : Int), .complex .f64 X Y] 77)) W4.heap.size ds (.slice av ds.length cv)) := HQ14.out.own.bu (M := fun _ => False) (Bu.of ((Kept.refl _).al _)) fun _ _ _ c => c
                  have hcap := HSL.out.le
                  have hdl : ds.length ≤ 23 := by have := HFL.out; omega
                  go_wp2_with (at_builtin; refine wpList_append_rows (base := W4.heap.size) (n := ds.length) (xs := dcs ds) (by rfl) _ _ _ (by rfl) elemDc (by rfl) HOW.out.row (by rfl) (own_lit 0 77 4 _ (by rfl) (Nat.zero_le _)) ?one (by omega) ?len HOW.out.le ?_)
                  case one => (repeat' apply And.intro) <;> rfl
                  case len => unfold maxLen; omega
                  intro ad cp wa HG
                  obtain ⟨ca, fa⟩ := HQ14.out.cellA ((Kept.refl _).al _) HG.out
                  have HE : Hid _ := HQ14.out.grown ((Kept.refl _).al _) (d := ⟨kk, nv, n, X, Y⟩) HG.out
                  clear p0 pf y0 y1 y2 y3 HG HOW
                  go_wp2_with fail
                  go_roundw
                  case rel =>
                    have hdc : ∃ o l, Pp.decl (plOf s ts) (left ts b) = (o, l) := ⟨_, _, rfl⟩
                    obtain ⟨o, l, hdc⟩ := hdc
                    refine atds_next (f := f') (b := b) (o := o) (l := l) HE.out HFL.out HRD.out (by rw [HHK.out]; omega) hdc (fun e => ?_) fun e => ?_
                    · have e2 := HB2.out.2.1
                      rw [e] at e2
                      simp at e2
                      obtain ⟨rfl, rfl⟩ := e2
                      have hk := HK2.out
                      simp only [Bool.not_not, Bool.and_eq_true] at hk
                      have e3 : b + 1 + 1 = b1 := HB1.out.1
                      have e4 : b1 + 1 = b2 := HB2.out.1
                      subst e3 e4
                      rw [decl_chan (by rw [HHK.out]; exact H6.out) (by rw [left_tail]; exact HNM.out) (by rw [left_tail, left_tail]; exact hk.2), left_tail, left_tail, left_tail] at hdc
                      injection hdc with d1 d2
                      refine ⟨?_, d2.symm, HL3.out.2.2⟩
                      rw [← d1, HPL.out, HV.out rfl, HN.out rfl, H6.out]; rfl
                    · have e2 := HB2.out.2.1
                      cases ok with
                      | false =>
                        have e3 : b + 1 = b1 := HB1.out.1
                        have e5 : b + 1 = z1 := HB1.out.2
                        have e6 : z1 = z2 := HB2.out.2.2
                        rw [decl_no (by rw [left_tail]; exact nm_no HOK.out HL1.out HNM.out), left_tail] at hdc
                        injection hdc with d1 d2
                        refine ⟨d1.symm, ?_⟩
                        rw [← d2, lenq_left HL1.out]; omega
                      | true =>
                        rw [e] at e2
                        simp at e2
                        subst e2
                        have e3 : b + 1 + 1 = b1 := HB1.out.1
                        subst e3
                        have e6 : b + 1 + 1 = z2 := HB2.out.2.2
                        have hk := HK2.out
                        simp only [Bool.not_not, Bool.true_and] at hk
                        rw [decl_chan_no (by rw [HHK.out]; exact H6.out) (by rw [left_tail]; exact HNM.out) (by rw [left_tail, left_tail]; exact hk), left_tail, left_tail] at hdc
                        injection hdc with d1 d2
                        refine ⟨d1.symm, ?_⟩
                        rw [← d2, lenq_left HL2.out.1]; omega
                  case measure =>
                    rw [HE.out.rq.meas, HQ.out.rq.meas]
                    have e1 := HL3.out
                    have e2 := HFW.out
                    cases f2 <;> simp <;> omega
                · have h6i : ((kk : Int) == 6) = false := ne_int (by omega)
                  have H6 : Hid (kk ≠ 6) := h6
                  clear h6
                  have p0 := HQ12.out.box.cell 0 rfl
                  have pf := HQ12.out.box.fz 0
                  have hPl := HQ12.out.box.lt
                  have y0 := HX12.out.cell 0 rfl
                  have y1 := HX12.out.cell 1 rfl
                  have y2 := HX12.out.cell 2 rfl
                  have y3 := HX12.out.cell 3 rfl
                  have yl := HX12.out.lt
                  have HOW : Hid (OwnD (W12.alloc (.cells #[.int .i64 (kk : Int), .string nv, .int .i64 (0 : Int), .complex .f64 X Y] 77)) W4.heap.size ds (.slice av ds.length cv)) := HQ12.out.own.bu (M := fun _ => False) (Bu.of ((Kept.refl _).al _)) fun _ _ _ c => c
                  have hcap := HSL.out.le
                  have hdl : ds.length ≤ 23 := by have := HFL.out; omega
                  go_wp2_with (at_builtin; refine wpList_append_rows (base := W4.heap.size) (n := ds.length) (xs := dcs ds) (by rfl) _ _ _ (by rfl) elemDc (by rfl) HOW.out.row (by rfl) (own_lit 0 77 4 _ (by rfl) (Nat.zero_le _)) ?one (by omega) ?len HOW.out.le ?_)
                  case one => (repeat' apply And.intro) <;> rfl
                  case len => unfold maxLen; omega
                  intro ad cp wa HG
                  obtain ⟨ca, fa⟩ := HQ12.out.cellA ((Kept.refl _).al _) HG.out
                  have HE : Hid _ := HQ12.out.grown ((Kept.refl _).al _) (d := ⟨kk, nv, 0, X, Y⟩) HG.out
                  clear p0 pf y0 y1 y2 y3 HG HOW
                  go_wp2_with fail
                  go_roundw
                  case rel =>
                    have hdc : ∃ o l, Pp.decl (plOf s ts) (left ts b) = (o, l) := ⟨_, _, rfl⟩
                    obtain ⟨o, l, hdc⟩ := hdc
                    refine atds_next (f := f') (b := b) (o := o) (l := l) HE.out HFL.out HRD.out (by rw [HHK.out]; omega) hdc (fun e => ?_) fun e => ?_
                    · simp at e
                      subst e
                      have e3 : b + 1 + 1 = b1 := HB1.out.1
                      subst e3
                      rw [decl_plain (by rw [HHK.out]; exact H6.out) (by rw [left_tail]; exact HNM.out), left_tail, left_tail] at hdc
                      injection hdc with d1 d2
                      refine ⟨?_, d2.symm, HL2.out.2.2⟩
                      rw [← d1, HPL.out, HV.out rfl, HHK.out]
                    · simp at e
                      subst e
                      have e5 : b + 1 = z1 := HB1.out.2
                      rw [decl_no (by rw [left_tail]; exact nm_no HOK.out HL1.out HNM.out), left_tail] at hdc
                      injection hdc with d1 d2
                      refine ⟨d1.symm, ?_⟩
                      rw [← d2, lenq_left HL1.out]; omega
                  case measure =>
                    rw [HE.out.rq.meas, HQ.out.rq.meas]
                    have e1 := HL2.out
                    have e2 := HFW.out
                    cases ok <;> simp <;> omega
        · have hk1i : ((kd : Int) == 1) = false := ne_int (by omega)
          have HDK : Hid (Pp.dk tx = 0) := by
            rcases Nat.eq_zero_or_pos (Pp.dk tx) with e | e
            · exact e
            · exact absurd (HKD.out.trans (dk_kind (by omega))) hk1
          generalize Px.ba tx = TX at *
          go_wp2_with fail
          go_quiet (fail)
          go_wp2_with fail
          go_meet
          refine ⟨b, false, b0, ds, v, HQ.out.kept ((Kept.refl _).drN _), fun _ => ⟨HAL.out, ?_⟩, fun h => (by cases h)⟩
          rw [← toRead_rest (f := f) (by rw [HHD.out]; exact HDK.out)]; exact HRD.out
  case rest =>
    obtain ⟨b, fl, b0, ds, dv, hQ, hF, hT⟩ := hcut.out
    obtain ⟨w5, hw5⟩ : ∃ w5, wc = w5 := ⟨_, rfl⟩
    subst hw5
    have HI : Hid (AtTs s R g cap P ts W4 wc ds dv r m wc) := by
      refine ⟨b, fl, b0, [], .slice none 0 0, QrT.start hQ, fun e => ?_, hT⟩
      obtain ⟨h1, h2⟩ := hF e
      exact ⟨OwnB.nil _ _ _ (Nat.le_refl _), h1, 4, rfl, h2⟩
    obtain ⟨ad, cd, rfl, -⟩ := own_slice hQ.own.row
    clear hQ hF hT hcut HD
    go_upto_block 2 with fail
    go_cut [] from 114 to 164 (fun wx => Hid (EndTs R g cap P ts W4 r m wx))
    case first =>
      go_wp2_with fail
      obtain ⟨w5, hw5⟩ : ∃ w5, w5 = wc := ⟨_, rfl⟩
      subst hw5
      go_loopw [] (fun wr => Hid (AtTs s R g cap P ts W4 w5 ds (.slice ad ds.length cd) r m wr)) (fun wr => measOf wr R)
      case atStart => exact HI
      case round =>
        obtain ⟨b, fl, b0, ps, v, hQ, hF, hT⟩ := hrel.out
        have HQ : Hid (QrT R g cap P ts W4 w5 wr b fl b0 ds (.slice ad ds.length cd) v) := hQ
        have HT : Hid (fl = true → r = none ∧ b0 = ts.length - m.length) := hT
        have HF : Hid (fl = false → OwnB wr w5.heap.size (Far w5.heap.size wr v) ps v ∧ Pp.Alive (left ts b) ∧ ∃ f, f + ps.length = 4 ∧ toRun (plOf s ts) f ds (ps.map (·.1)) (left ts b) = (r, m)) := hF
        have c2 := hQ.rq.c2
        have hRl := hQ.rq.rlt
        clear hQ hT hF hrel HI
        cases fl with
        | true =>
          have HT1 : Hid (r = none ∧ b0 = ts.length - m.length) := HT.out rfl
          clear HT HF
          go_wp2_with fail
          go_quiet (fail)
          go_wp2_with fail
          go_meet
          exact ⟨w5, b, true, b0, ds, _, ps, v, HQ.out.kept ((Kept.refl _).drN _), fun h => (by cases h), fun _ => HT1.out⟩
        | false =>
          obtain ⟨hown, hal, f, hf, hrd⟩ := HF.out rfl
          obtain ⟨av, cv, rfl, hslc⟩ := own_slice hown.row
          have HAL : Hid (Pp.Alive (left ts b)) := hal
          have HOW : Hid (OwnB wr w5.heap.size (Far w5.heap.size wr (.slice av ps.length cv)) ps (.slice av ps.length cv)) := hown
          have HRD : Hid (toRun (plOf s ts) f ds (ps.map (·.1)) (left ts b) = (r, m)) := hrd
          have HFL : Hid (f + ps.length = 4) := hf
          have HLT : Hid (b < ts.length) := HQ.out.lt
          obtain ⟨t0, -, -, -⟩ := HQ.out.rq.tok b HLT.out
          have c0 := HQ.out.rq.c0
          have c1 := HQ.out.rq.c1
          have hgl := HQ.out.rq.lt
          have p1 := HQ.out.box.cell 1 rfl
          have hPl := HQ.out.box.lt
          have hbi : (b : Int) < (ts.length : Int) := by have := HLT.out; omega
          have HHD : Hid (Px.hd (left ts b) = (ts[b].kind, ts[b].text, ts[b].n)) := hd_in ts b HLT.out
          have HKD : Hid (ts[b].kind = kindOf ts[b].text) := HOK.out.kd _ (List.getElem_mem HLT.out)
          have HWD : Hid (isWd Pp.tGo (Px.hd (left ts b)) = decide ((Px.hd (left ts b)).2.1 = Pp.tGo)) := wd_text HOK.out HLT.out (by decide)
          have hfw := HFW.out
          have HSL : Hid _ := hslc
          have hpl : ps.length ≤ 4 := by omega
          have WDC : Hid (∀ W, Kept wr W → Calls Try.prog 53 #[.pointer (some ⟨R, 0, none⟩), .string ⟨#[103, 111]⟩] W fun e w' => e = .returned (.bool (isWd Pp.tGo (Px.hd (left ts b)))) ∧ Kept W w') := fun W hW => rword_any (HQ.out.rq.kept hW) HLT.out ⟨#[103, 111]⟩
          -- no thread stands there
          have NOT : Hid ((Px.hd (left ts b)).2.1 ≠ Pp.tGo → (ps = [] ∨ (Px.hd (left ts b)).1 ≠ 4) → r = none ∧ m = left ts b) := by
            intro h1 h2
            have := HRD.out
            rw [toRun_no h1, ended_no (by rcases h2 with e | e; exact .inl (by rw [e]; rfl); exact .inr e)] at this
            injection this with e1 e2
            exact ⟨e1.symm, e2.symm⟩
          have HGK : Hid ((Px.hd (left ts b)).2.1 = Pp.tGo → (Px.hd (left ts b)).1 = 1) := by
            intro e
            have h1 := HKD.out
            have h2 := HHD.out
            rw [h2] at e ⊢
            exact h1.trans ((congrArg kindOf e).trans (by decide))
          clear hown hal hf hrd hslc HF HT HKD
          generalize ts[b].kind = kd at *
          generalize ts[b].text = tx at *
          generalize ts[b].n = nn at *
          by_cases hk4 : kd = 4
          · have hk4i : ((kd : Int) != 4) = false := by rw [hk4]; rfl
            have HK4 : Hid (kd = 4) := hk4
            have HNG : Hid ((Px.hd (left ts b)).2.1 ≠ Pp.tGo) := fun e => by
              have h1 := HGK.out e
              rw [HHD.out] at h1
              have h2 : kd = 1 := h1
              have := HK4.out; omega
            by_cases hz : ps.length = 0
            · have hzi : ((ps.length : Int) == 0) = true := by rw [hz]; rfl
              have HRM : Hid (r = none ∧ m = left ts b) := NOT.out HNG.out (.inl (List.length_eq_zero_iff.1 hz))
              clear hk4 hz
              have HWF : Hid (isWd Pp.tGo (Px.hd (left ts b)) = false) := by rw [HWD.out]; exact decide_eq_false HNG.out
              rw [HWF.out] at WDC
              clear HWD
              go_wp2_with fail
              go_quiet (fail)
              go_wp2_with fail
              refine Calls.mono (WDC.out _ ((Kept.refl _).drN _)) ?_
              rintro e w6 ⟨rfl, k6⟩
              have HQ6 : Hid (QrT R g cap P ts W4 w5 w6 b false b0 ds (.slice ad ds.length cd) (.slice av ps.length cv)) := HQ.out.kept (((Kept.refl _).drN _).then k6)
              have FL : Hid (Calls Try.prog 49 #[.pointer (some ⟨R, 0, none⟩)] w6 fun e w' => (∃ v, e = .returned v) ∧ But R w6 w' ∧ Rq w' R g cap ts b true b) := fail_any HQ6.out.rq
              clear c0 c1 c2 t0 p1 k6 hRl hgl hPl
              go_wp2_with fail
              refine Calls.mono FL.out ?_
              rintro e w7 ⟨⟨vv, rfl⟩, hb7, hq7⟩
              have HQ7 : Hid (QrT R g cap P ts W4 w5 w7 b true b ds (.slice ad ds.length cd) (.slice av ps.length cv)) := HQ6.out.next hb7 hq7 HLT.out
              clear hb7 hq7
              go_wp2_with fail
              go_meet
              refine ⟨w5, b, true, b, ds, _, ps, _, HQ7.out, fun h => (by cases h), fun _ => ⟨HRM.out.1, ?_⟩⟩
              rw [HRM.out.2, lenq_left HLT.out]
            · have hzi : ((ps.length : Int) == 0) = false := ne_int (by omega)
              have HRM : Hid (r = some (ds, ps.map (·.1))) := by
                have := HRD.out
                rw [toRun_no HNG.out, ended_yes (fun e => hz (by simpa using congrArg List.length e)) (by rw [HHD.out]; exact HK4.out)] at this
                injection this with e1 e2
                exact e1.symm
              clear hk4 hz
              go_wp2_with fail
              go_quiet (fail)
              go_wp2_with fail
              go_meet
              exact ⟨w5, b, false, b0, ds, _, ps, _, HQ.out.kept ((Kept.refl _).drN _), fun _ => ⟨HQ.out.own HOW.out (But.of ((Kept.refl _).drN _)), HRM.out⟩, fun h => (by cases h)⟩
          · have hk4i : ((kd : Int) != 4) = true := by rw [bne_iff_ne]; omega
            have HK4 : Hid (kd ≠ 4) := hk4
            clear hk4
            by_cases hgo : (Px.hd (left ts b)).2.1 = Pp.tGo
            · have HGO : Hid ((Px.hd (left ts b)).2.1 = Pp.tGo) := hgo
              have HWT : Hid (isWd Pp.tGo (Px.hd (left ts b)) = true) := by rw [HWD.out]; exact decide_eq_true hgo
              clear hgo
              rw [HWT.out] at WDC
              by_cases h4 : ps.length = 4
              · have h4i : ((ps.length : Int) == 4) = true := by rw [h4]; rfl
                have HRM : Hid (r = none ∧ m = left ts b) := by
                  obtain rfl : f = 0 := by have := HFL.out; omega
                  have := HRD.out
                  rw [toRun_full, ended_no (.inr (by rw [HHD.out]; exact HK4.out))] at this
                  injection this with e1 e2
                  exact ⟨e1.symm, e2.symm⟩
                clear h4
                go_wp2_with fail
                go_quiet (fail)
                go_wp2_with fail
                refine Calls.mono (WDC.out _ ((Kept.refl _).drN _)) ?_
                rintro e w6 ⟨rfl, k6⟩
                have HQ6 : Hid (QrT R g cap P ts W4 w5 w6 b false b0 ds (.slice ad ds.length cd) (.slice av ps.length cv)) := HQ.out.kept (((Kept.refl _).drN _).then k6)
                have FL : Hid (Calls Try.prog 49 #[.pointer (some ⟨R, 0, none⟩)] w6 fun e w' => (∃ v, e = .returned v) ∧ But R w6 w' ∧ Rq w' R g cap ts b true b) := fail_any HQ6.out.rq
                clear c0 c1 c2 t0 p1 k6 hRl hgl hPl
                have p1 := HQ6.out.box.cell 1 rfl
                have hPl := HQ6.out.box.lt
                go_wp2_with fail
                refine Calls.mono FL.out ?_
                rintro e w7 ⟨⟨vv, rfl⟩, hb7, hq7⟩
                have HQ7 : Hid (QrT R g cap P ts W4 w5 w7 b true b ds (.slice ad ds.length cd) (.slice av ps.length cv)) := HQ6.out.next hb7 hq7 HLT.out
                clear hb7 hq7
                go_wp2_with fail
                go_meet
                refine ⟨w5, b, true, b, ds, _, ps, _, HQ7.out, fun h => (by cases h), fun _ => ⟨HRM.out.1, ?_⟩⟩
                rw [HRM.out.2, lenq_left HLT.out]
              · have h4i : ((ps.length : Int) == 4) = false := ne_int (by omega)
                obtain ⟨f', rfl⟩ : ∃ f', f = f' + 1 := ⟨f - 1, by have := HFL.out; omega⟩
                have hpl3 : ps.length ≤ 3 := by omega
                have HAL1 : Hid (Pp.Alive (left ts (b + 1))) := alive_hd HAL.out (by rw [HGO.out]; decide)
                have HL1 : Hid (b + 1 < ts.length) := alive_lt HAL1.out
                clear h4
                go_wp2_with fail
                go_quiet (fail)
                go_wp2_with fail
                refine Calls.mono (WDC.out _ ((Kept.refl _).drN _)) ?_
                rintro e w6 ⟨rfl, k6⟩
                have HQ6 : Hid (QrT R g cap P ts W4 w5 w6 b false b0 ds (.slice ad ds.length cd) (.slice av ps.length cv)) := HQ.out.kept (((Kept.refl _).drN _).then k6)
                have HOW6 : Hid (OwnB w6 w5.heap.size (Far w5.heap.size w6 (.slice av ps.length cv)) ps (.slice av ps.length cv)) := HQ.out.own HOW.out (But.of (((Kept.refl _).drN _).then k6))
                clear c0 c1 c2 t0 p1 k6 hRl hgl hPl
                have p1 := HQ6.out.box.cell 1 rfl
                have c1 := HQ6.out.rq.c1
                have cz := HQ6.out.rq.z 1
                have hRl := HQ6.out.rq.rlt
                have hPl := HQ6.out.box.lt
                obtain ⟨W7, hW7⟩ : ∃ W, w6.setCell ⟨R, 1, none⟩ (.int .i64 ((b : Int) + 1)) = W := ⟨_, rfl⟩
                have hq7 := HQ6.out.rq.at' (b + 1) (Nat.le_of_lt HL1.out)
                rw [show ((b + 1 : Nat) : Int) = (b : Int) + 1 by omega, hW7] at hq7
                have hb7 : But R w6 W7 := by rw [← hW7]; exact (But.refl _ _).set _ _
                have HQ7 : Hid (QrT R g cap P ts W4 w5 W7 (b + 1) false b0 ds (.slice ad ds.length cd) (.slice av ps.length cv)) := HQ6.out.next hb7 hq7 HL1.out
                have HOW7 : Hid (OwnB W7 w5.heap.size (Far w5.heap.size W7 (.slice av ps.length cv)) ps (.slice av ps.length cv)) := HQ6.out.own HOW6.out hb7
                obtain ⟨o2, m2, hbk⟩ : ∃ o2 m2, Pp.block (plOf s ts) 8 (left ts (b + 1)) = (o2, m2) := ⟨_, _, rfl⟩
                have HBK : Hid (Pp.block (plOf s ts) 8 (left ts (b + 1)) = (o2, m2)) := hbk
                have BL : Hid (∀ W, Kept W7 W → Calls Try.prog 54 #[.pointer (some ⟨R, 0, none⟩), .string s, .int .i64 1] W fun e w' => ∃ (a : Option Addr) (l q b' : Nat) (fl' : Bool) (b0' : Nat), e = .returned (.slice a l q) ∧ w'.cell? ⟨P, 1, none⟩ = some (.slice av ps.length cv) ∧ (∀ j, w'.frozen? ⟨P, j, none⟩ = false) ∧ P < w'.heap.size ∧ Hid (QrT R g cap P ts W4 w5 w' b' fl' b0' ds (.slice ad ds.length cd) (.slice av ps.length cv) ∧ But R W7 w' ∧ (fl' = false → ∃ bs, o2 = some bs ∧ left ts b' = m2 ∧ b < b' ∧ Pp.Alive m2 ∧ StsIn w' W7.heap.size w'.heap.size bs (.slice a l q)) ∧ (fl' = true → o2 = none ∧ b0' = ts.length - m2.length))) := by
                  intro W hW
                  have hqW := HQ7.out.kept hW
                  have hkp := Pp.block_keeps (plOf s ts) 8 _ HAL1.out
                  rw [HBK.out] at hkp
                  have hk1 : m2 <:+ left ts (b + 1) := hkp.1
                  have hk2 : Pp.Alive m2 := hkp.2
                  have hml : left ts (ts.length - m2.length) = m2 := suf_left hk1
                  refine ((rblock_all 8 1 (by omega) (by omega)).yes R g cap s ts (b + 1) b0 W hqW.rq HAL1.out HOK.out o2 m2 HBK.out).mono ?_
                  rintro e w' ⟨a, l, q, rfl, H⟩
                  have hbt : But R W7 w' := (But.of hW).then H.out.1
                  cases o2 with
                  | some bs =>
                    obtain ⟨h1, h2⟩ := H.out.2.1 bs rfl
                    have hlt : ts.length - m2.length < ts.length := alive_lt (by rw [hml]; exact hk2)
                    have hQ' : QrT R g cap P ts W4 w5 w' (ts.length - m2.length) false b0 ds (.slice ad ds.length cd) (.slice av ps.length cv) := HQ7.out.next hbt h2 hlt
                    refine ⟨a, l, q, ts.length - m2.length, false, b0, rfl, hQ'.box.cell 1 rfl, hQ'.box.fz, hQ'.box.lt, hQ', hbt, fun _ => ⟨bs, rfl, hml, ?_, hk2, h1.mono (Rng.up hW.size (Nat.le_refl _))⟩, fun c => (by cases c)⟩
                    have h3 := hk1.length_le
                    rw [left_len] at h3
                    have h4 := HL1.out
                    omega
                  | none =>
                    obtain ⟨a', h1, h2⟩ := H.out.2.2 rfl
                    have hQ' : QrT R g cap P ts W4 w5 w' a' true (ts.length - m2.length) ds (.slice ad ds.length cd) (.slice av ps.length cv) := HQ7.out.next hbt h2 h1
                    exact ⟨a, l, q, a', true, ts.length - m2.length, rfl, hQ'.box.cell 1 rfl, hQ'.box.fz, hQ'.box.lt, hQ', hbt, fun c => (by cases c), fun _ => ⟨rfl, rfl⟩⟩
                have q1 := HQ7.out.box.cell 1 rfl
                have qf := HQ7.out.box.fz
                have ql := HQ7.out.box.lt
                clear hq7 hb7 hbk
                go_upto_region 19 with fail
                clear p1 c1 cz hRl hPl hW7
                go_region_law (first
                  | (refine step_blk rfl (.tmp 159) (.tmp 160) (.const (.int .i64 1)) #[95, 9, 3] rfl (.pointer (some ⟨R, 0, none⟩)) (.string s) (.int .i64 1) rfl rfl rfl (BL.out _ (by first | exact Kept.refl _ | exact (Kept.refl _).dr)) ?_; rintro e w2 ⟨a5, m5, q5, b5, f5, z5, rfl, e1, ef, el, H2⟩; have HOA : Hid (OwnB (w2.alloc (.cells #[.slice a5 m5 q5] 34)) w5.heap.size (Far w5.heap.size (w2.alloc (.cells #[.slice a5 m5 q5] 34)) (.slice av ps.length cv)) ps (.slice av ps.length cv)) := HQ7.out.own HOW7.out (H2.out.2.1.al _); refine ⟨_, rfl, ?_⟩)
                  | (refine step_append_rows (base := w5.heap.size) (n := ps.length) (xs := ps.map (·.2)) (by rfl) _ _ _ (by rfl) elemTs (by rfl) HOA.out.row (by rfl) (own_lit 0 34 1 _ (by rfl) (Nat.zero_le _)) (by exact fun u hu => by simp at hu; subst hu; rfl) (by omega) (by unfold maxLen; omega) HOA.out.le ?_; intro ad5 cp5 w8 HG; have hca := H2.out.1.cellA (HQ7.out.own HOW7.out H2.out.2.1) ((Kept.refl _).al _) HG.out; have v1 := hca.1; have vf := hca.2.1; have vl := hca.2.2))
                all_goals
                  have HE : Hid _ := H2.out.1.grown (HQ7.out.own HOW7.out H2.out.2.1) ((Kept.refl _).al _) HG.out
                  clear hca v1 vf vl HG HOA e1 ef el q1 qf ql
                  go_wp2_with fail
                  go_roundw
                  case rel =>
                    obtain ⟨hE1, hE2⟩ := HE.out
                    cases f5 with
                    | false =>
                      obtain ⟨bs, ho2, hl, hlt, hal, hst⟩ := H2.out.2.2.1 rfl
                      refine ⟨b5, false, z5, ps ++ [(bs, .slice a5 m5 q5)], _, hE1, fun _ => ⟨hE2 bs (hst.mono fun k hk => ⟨?_, hk.2, fun c => ?_⟩), by rw [hl]; exact hal, f', ?_, ?_⟩, fun h => (by cases h)⟩
                      · have h1 := HQ7.out.bu.size
                        have h2 := hk.1
                        omega
                      · have h1 := (HOW7.out.row.lt k c.symm).2
                        have h2 := hk.1
                        omega
                      · have h1 := HFL.out
                        simp; omega
                      · have h1 := HBK.out
                        rw [ho2, ← left_tail] at h1
                        rw [List.map_append, hl]
                        exact (toRun_next HGO.out h1).symm.trans HRD.out
                    | true =>
                      obtain ⟨ho2, hz⟩ := H2.out.2.2.2 rfl
                      refine ⟨b5, true, z5, ps, _, hE1, fun h => (by cases h), fun _ => ?_⟩
                      have h1 := HBK.out
                      rw [ho2, ← left_tail] at h1
                      have h2 := HRD.out
                      rw [toRun_bad HGO.out h1] at h2
                      injection h2 with e1 e2
                      exact ⟨e1.symm, by rw [← e2]; exact hz⟩
                  case measure =>
                    rw [HE.out.1.rq.meas, HQ.out.rq.meas]
                    have e1 := HLT.out
                    have e2 := HFW.out
                    cases f5 with
                    | false =>
                      obtain ⟨bs, ho2, hl, hlt, hal, hst⟩ := H2.out.2.2.1 rfl
                      simp; omega
                    | true => simp; omega
            · have HRM : Hid (r = none ∧ m = left ts b) := NOT.out hgo (.inr (by rw [HHD.out]; exact HK4.out))
              have HNG : Hid ((Px.hd (left ts b)).2.1 ≠ Pp.tGo) := hgo
              clear hgo
              have HWF : Hid (isWd Pp.tGo (Px.hd (left ts b)) = false) := by rw [HWD.out]; exact decide_eq_false HNG.out
              rw [HWF.out] at WDC
              clear HWD
              go_wp2_with fail
              go_quiet (fail)
              go_wp2_with fail
              refine Calls.mono (WDC.out _ ((Kept.refl _).drN _)) ?_
              rintro e w6 ⟨rfl, k6⟩
              have HQ6 : Hid (QrT R g cap P ts W4 w5 w6 b false b0 ds (.slice ad ds.length cd) (.slice av ps.length cv)) := HQ.out.kept (((Kept.refl _).drN _).then k6)
              have FL : Hid (Calls Try.prog 49 #[.pointer (some ⟨R, 0, none⟩)] w6 fun e w' => (∃ v, e = .returned v) ∧ But R w6 w' ∧ Rq w' R g cap ts b true b) := fail_any HQ6.out.rq
              clear c0 c1 c2 t0 p1 k6 hRl hgl hPl
              go_wp2_with fail
              refine Calls.mono FL.out ?_
              rintro e w7 ⟨⟨vv, rfl⟩, hb7, hq7⟩
              have HQ7 : Hid (QrT R g cap P ts W4 w5 w7 b true b ds (.slice ad ds.length cd) (.slice av ps.length cv)) := HQ6.out.next hb7 hq7 HLT.out
              clear hb7 hq7
              go_wp2_with fail
              go_meet
              refine ⟨w5, b, true, b, ds, _, ps, _, HQ7.out, fun h => (by cases h), fun _ => ⟨HRM.out.1, ?_⟩⟩
              rw [HRM.out.2, lenq_left HLT.out]
    case rest =>
      obtain ⟨w5, b, fl, b0, ds, dv, ps, v, hQ, hF, hT⟩ := hcut.out
      obtain ⟨a1, q1, rfl, -, -⟩ := hQ.ds.out
      have c2 := hQ.rq.c2
      have c3 := hQ.rq.c3
      have hRl := hQ.rq.rlt
      have hgl := hQ.rq.lt
      have hfw := HFW.out
      have hBR : w.heap.size < R := by have := HGW.out; omega
      have hbx := hQ.res hBR HBX.out
      have HBR : Hid (BoxS wc w.heap.size [.slice none 0 0, .slice none 0 0]) := hbx
      have s0 := hbx.cell 0 rfl
      have s1 := hbx.cell 1 rfl
      have sf0 := hbx.fz 0
      have sf1 := hbx.fz 1
      have hrl := hbx.lt
      have HQ : Hid (QrT R g cap P ts W4 w5 wc b fl b0 ds (.slice a1 ds.length q1) v) := hQ
      clear hbx hcut
      cases fl with
      | true =>
        obtain ⟨hr, hb0⟩ := hT rfl
        have hlt : b0 < ts.length := by have := HML.out; omega
        have HLT : Hid (b0 < ts.length) := hlt
        obtain ⟨-, -, -, t3⟩ := hQ.rq.tok b0 hlt
        have HAT : Hid ((ts.getD (ts.length - m.length) ⟨0, 0, [], 0⟩).at' = ts[b0].at') := by
          show _ = _
          rw [← hb0]; simp [List.getD, hlt]; rfl
        have hbi : (b0 : Int) < (ts.length : Int) := by omega
        generalize ts[b0].at' = aa at *
        clear hF hT hQ hb0 hlt
        subst hr
        go_wp2_with fail
        go_region
        all_goals
          go_wp2_with fail
          have hrg : ((wc.setCells w.heap.size 0 [.slice none 0 0, .slice none 0 0]).drew).rangeAt w.heap.size 0 [.slice none 0 0, .slice none 0 0] := fun j v hv => ((Kept.refl _).dr : Kept _ (wc.setCells w.heap.size 0 [.slice none 0 0, .slice none 0 0]).drew).cellS (World.rangeAt_setCells_same _ _ _ _ (HBR.out.there 0 2 (by decide)) j v hv)
          have hfin : GotQ w none ((ts.getD (ts.length - m.length) ⟨0, 0, [], 0⟩).at') (.returned (.tuple #[.agg #[.slice none 0 0, .slice none 0 0], .int .i64 (aa : Int), .int .i64 2])) (wc.setCells w.heap.size 0 [.slice none 0 0, .slice none 0 0]).drew := by
            rw [HAT.out]
            exact ⟨none, 0, 0, none, 0, 0, _, _, rfl, Kept.dr (Below.setCells (HQ.out.keptW hBR HK4.out) (Nat.le_refl _) _ _), fun _ => ⟨rfl, rfl, rfl, rfl, rfl, rfl, rfl, rfl⟩, fun d t c => by cases c⟩
          exact bodyPost_ret (ret_read3 Try.results37 _ rfl rfl rfl hrg) rfl hfin
      | false =>
        obtain ⟨ho, hr⟩ := hF rfl
        obtain ⟨a2, q2, rfl, -⟩ := own_slice ho.row
        have HO : Hid (OwnB wc w5.heap.size (Far w5.heap.size wc (.slice a2 ps.length q2)) ps (.slice a2 ps.length q2)) := ho
        have p0 := HQ.out.box.cell 0 rfl
        have p1 := HQ.out.box.cell 1 rfl
        have hPl := HQ.out.box.lt
        clear hF hT hQ ho
        subst hr
        go_wp2_with fail
        exact bodyPost_ret (ret_read3 Try.results37 _ rfl rfl rfl (World.rangeAt_setCells_same _ _ _ _ (HBR.out.there 0 2 (by decide)))) rfl (HQ.out.done HO.out hBR HK4.out _)
set_option maxRecDepth 100000 in
set_option maxHeartbeats 4000000 in
theorem rparse_bad (s : ByteArray) (hs : s.size ≤ 1125899906842624) (w : World) (q : Nat) (h : Lx.toks s.data.toList = .bad q) :
    Calls Try.prog 37 #[.string s] w fun e w' => e = .returned (.tuple #[.agg #[.slice none 0 0, .slice none 0 0], .int .i64 (q : Int), .int .i64 2]) ∧ Kept w w' := by
  have TK : Hid _ := rtokens_any s (Wz w) hs (.bad q) h
  clear hs h
  go_enter Try.func37, Try.ntmps37
  go_wp2_with fail
  refine Calls.mono TK.out ?_
  rintro e w1 ⟨v, p, e', rfl, ht⟩
  obtain ⟨rfl, rfl, rfl, hk⟩ := ht
  have hbx : BoxS w1 w.heap.size [.slice none 0 0, .slice none 0 0] := (Wz_box w).kept hk
  have HBX : Hid _ := hbx
  have KW : Hid (Kept w w1) := (Wz_kept w).then hk
  have s0 := hbx.cell 0 rfl
  have s1 := hbx.cell 1 rfl
  have sf0 := hbx.fz 0
  have sf1 := hbx.fz 1
  have hl := hbx.lt
  clear hk hbx
  go_wp2_with fail
  exact bodyPost_ret (ret_read3 Try.results37 _ rfl rfl rfl (World.rangeAt_setCells_same _ _ _ _ (HBX.out.there 0 2 (by decide)))) rfl ⟨rfl, Below.setCells KW.out (Nat.le_refl _) [.slice none 0 0, .slice none 0 0] 0⟩
/-- What the reference reads. -/
theorem rparse_any (s : ByteArray) (hs : s.size ≤ 1125899906842624) (w : World) (r : Option (List Dc × List (List St))) (q : Nat) (hr : Pp.out s = (r, q)) :
    Calls Try.prog 37 #[.string s] w fun e w' => GotQ w r q e w' := by
  cases h : Lx.toks s.data.toList with
  | bad p =>
    rw [Pp.out_bad h] at hr
    injection hr with e1 e2
    subst e1 e2
    refine (rparse_bad s hs w p h).mono ?_
    rintro e w' ⟨rfl, k⟩
    exact ⟨none, 0, 0, none, 0, 0, _, _, rfl, k, fun _ => ⟨rfl, rfl, rfl, rfl, rfl, rfl, rfl, rfl⟩, fun d t c => by cases c⟩
  | good ts =>
    obtain ⟨r2, m, hp⟩ : ∃ r2 m, Pp.prog (plOf s ts) (ts.map Lx.Tk.core) = (r2, m) := ⟨_, _, rfl⟩
    rw [Pp.out_good h hp] at hr
    injection hr with e1 e2
    subst e1 e2
    exact rparse_good s hs w ts h r2 m hp
end Go.Proofs.Ytnfkjmafhaecgaa
