/- Ny -/
import Derived.Test.YtbfikeegacapjaaWNz
import Derived.Deep.RegionWith
import Derived.Deep.RegionHeld3
import Derived.Deep.RegionLaw
import Derived.Deep.LoopGhost

namespace Go.Proofs.Ytbfikeegacapjaa
open Go.RowKit
attribute [local go_sem] run_store_complex
theorem TsD.cut1' {w : World} {D : Nat → Prop} {l : List (List St)} {a : Option Addr} {n cap : Nat} (h : TsD w D l (.slice a n cap)) (k : Nat) (hk : k < l.length) : TsD w D [l[k]] (.slice (cutAt a k cap 1) 1 (cap - k)) := by
  obtain ⟨a, cap, f, e, hl, hc, hs⟩ := h.out
  cases e
  obtain ⟨b, o, rfl, h1, h3, h4⟩ := hc k hk
  have hle := hl.le
  have hbig := hl.big
  refine ⟨_, _, fun _ => f k, rfl, ⟨by simp; omega, by omega, fun h => ?_⟩, fun i hi => ?_, fun i hi => ?_⟩
  · rw [cutAt_some (by omega)] at h; cases h
  · obtain rfl : i = 0 := by simpa using hi
    exact ⟨b, o + k * 1, cutAt_some (by omega), h1, h3, by simpa using h4⟩
  · obtain rfl : i = 0 := by simpa using hi
    exact hs k hk
def errN (r : Option (Nat × Nat)) : Int := if r.isNone then 0 else 3
def xN (r : Option (Nat × Nat)) : Nat := (r.getD (0, 0)).1
def yN (r : Option (Nat × Nat)) : Nat := (r.getD (0, 0)).2
theorem told_err (r : Option (Nat × Nat)) : Nf.told r = .tuple #[.complex .f64 (xN r) (yN r), .int .i64 (errN r)] := by
  cases r with
  | none => rfl
  | some p => obtain ⟨x, y⟩ := p; rfl
theorem errN_two (r : Option (Nat × Nat)) : (errN r = 0 ∧ r.isNone = true) ∨ (errN r = 3 ∧ r.isNone = false) := by
  unfold errN; cases r <;> simp
theorem all_take (l : List (List St)) (p : List St → Bool) (k : Nat) (h : k < l.length) : (l.take (k + 1)).all p = ((l.take k).all p && p l[k]) := by
  rw [List.take_succ_eq_append_getElem h, List.all_append]; simp
def unheard : ByteArray := ⟨#[117, 110, 104, 101, 97, 114, 100]⟩
theorem not_unheard {x : ByteArray} (h : x.size ≤ 5) : unheard ≠ x := by
  rintro rfl; revert h; decide +kernel
theorem fd_snoc {ds : List Dc} {y : Dc} (h : ∀ z ∈ ds, FitD z) (hy : FitD y) : ∀ z ∈ ds ++ [y], FitD z := fun z hz => by
  rcases List.mem_append.1 hz with hz | hz
  · exact h z hz
  · rw [List.mem_singleton.1 hz]; exact hy
theorem dcs_snoc (ds : List Dc) (y : Dc) : dcs (ds ++ [y]) = dcs ds ++ y.cells := by simp [dcs]
theorem own_snoc {w w' : World} {base : Nat} {ds : List Dc} {y : Dc} {v v' : Value} (G : Grew w base 38 4 v ds.length (dcs ds) 1 y.cells v' w') (hb : base ≤ w'.heap.size) : OwnD w' base (ds ++ [y]) v' := by
  refine ⟨?_, hb⟩
  rw [dcs_snoc, List.length_append]
  exact G.own
structure Aft (wr : World) (Q : Nat) (ds : List Dc) (y : Dc) (tv : Value) (wc : World) (v' : Value) : Prop where
  own : OwnD wc 0 (ds ++ [y]) v'
  box : BoxS wc Q [v', tv]
  kept : Kept wr wc
theorem aft_of {wr W1 w1 w2 : World} {Q b0 : Nat} {ds : List Dc} {y : Dc} {v0 tv v v' : Value} (k0 : Kept wr W1) (hQ : wr.heap.size = Q) (bx : BoxS W1 Q [v0, tv]) (hb : Q < b0) (ho : OwnD w1 b0 ds v) (k1 : Kept W1 w1) (G : Grew w1 b0 38 4 v ds.length (dcs ds) 1 y.cells v' w2) :
    Aft wr Q ds y tv (w2.setCell ⟨Q, 0, none⟩ v') v' ∧ w2.cell? ⟨Q, 0, none⟩ = some v0 ∧ w2.frozen? ⟨Q, 0, none⟩ = false ∧ Q < w2.heap.size := by
  have h1 := bx.kept k1
  have h2 : BoxS w2 Q [v0, tv] := h1.off (G.grown.block Q h1.lt (fun e => by have := (ho.row.lt Q e.symm).1; omega)) G.grown.size
  have ho2 : OwnD w2 b0 (ds ++ [y]) v' := own_snoc G (Nat.le_trans ho.le G.grown.size)
  have kw : Kept wr w2 := G.below ho.row (by omega) ho.le (k0.then k1)
  refine ⟨⟨?_, h2.set 0 [v'] (by simp), Below.setCell kw (by show wr.heap.size ≤ Q; omega) _⟩, h2.cell 0 rfl, h2.fz 0, h2.lt⟩
  exact (ho2.bu (M := (· = Q)) (Bu.set (M := (· = Q)) (B := Q) (Bu.refl _ _) (.inl rfl) 0 v') (fun j h1 _ e => by omega)).lower (Nat.zero_le _)
theorem OwnD.buo {M : Nat → Prop} {w w' : World} {base : Nat} {l : List Dc} {v : Value} (h : OwnD w base l v) (b : Bu M w w') (hM : ∀ k, v.ownBlock = some k → ¬ M k) : OwnD w' base l v := by
  refine ⟨⟨h.row.1, ?_⟩, Nat.le_trans h.le b.size⟩
  rcases h.row.2 with h0 | ⟨g, cap, cur, e, hb, hg, r⟩
  · exact .inl h0
  · have hlt : g < w.heap.size := by
      rcases Nat.lt_or_ge g w.heap.size with c | c
      · exact c
      · rw [Array.getElem?_eq_none (by omega)] at hg; cases hg
    exact .inr ⟨g, cap, cur, e, hb, (b.block g hlt (hM g (by rw [e]; rfl))).trans hg, r⟩
theorem copied {W X w1 : World} {b0 blk : Nat} {ds : List Dc} {v : Value} (hX : Kept W X) (hb : b0 = W.heap.size) (hbX : b0 ≤ blk) (hl : blk < X.heap.size) (G : Grew X b0 38 4 (.slice (some ⟨blk, 0, none⟩) 0 0) 0 [] 8 (dcs ds) v w1) (h8 : ds.length = 8) :
    OwnD w1 b0 ds v ∧ Kept W w1 ∧ ∀ (y : Dc) (yb : Nat), yb ≠ blk → OwnD X 0 [y] (.slice (some ⟨yb, 0, none⟩) 1 1) → OwnD w1 0 [y] (.slice (some ⟨yb, 0, none⟩) 1 1) := by
  have hz := hX.size
  have b1 : Bu (fun j => j = blk) X w1 := ⟨G.grown.os, G.grown.tape, G.grown.output, G.grown.size, fun i hi hn => G.grown.block i hi fun e => hn (by injection e with e)⟩
  refine ⟨⟨?_, by have := G.grown.size; omega⟩, b1.kept hX fun i e => by omega, fun y yb hy h => h.buo b1 fun k e c => hy ((Option.some.inj e).trans c)⟩
  have := G.own
  rw [h8]
  simpa using this
theorem lit_own (W : World) (y : Dc) : OwnD (W.alloc (.cells #[.int .i64 y.kind, .string y.name, .int .i64 y.n, .complex .f64 y.re y.im] 38)) 0 [y] (.slice (some ⟨W.heap.size, 0, none⟩) 1 1) := ⟨own_lit 0 38 4 _ (by rfl) (Nat.zero_le _), Nat.zero_le _⟩
theorem aft2 {wr W4 X w2 : World} {Z : Nat} {ds : List Dc} {y : Dc} {v0 tv v v' : Value} (k0 : Kept wr W4) (hZ : wr.heap.size = Z) (bx : BoxS W4 Z [v0, tv]) (ho : OwnD X W4.heap.size ds v) (kX : Kept W4 X) (h8 : ds.length = 8) (G : Grew X W4.heap.size 38 4 v 8 (dcs ds) 1 y.cells v' w2) :
    Aft wr Z ds y tv (w2.setCell ⟨Z, 0, none⟩ v') v' ∧ w2.cell? ⟨Z, 0, none⟩ = some v0 ∧ w2.frozen? ⟨Z, 0, none⟩ = false ∧ Z < w2.heap.size ∧ Kept W4 w2 := by
  rw [← h8] at G
  obtain ⟨h1, h2, h3, h4⟩ := aft_of k0 hZ bx bx.lt ho kX G
  exact ⟨h1, h2, h3, h4, G.below ho.row (Nat.le_refl _) ho.le kX⟩
theorem own8 {W : World} {b0 : Nat} {ds : List Dc} {v : Value} (h : OwnD W b0 ds v) (h8 : ds.length = 8) : W.ownsRow b0 38 4 v 8 (dcs ds) := by have := h.row; rwa [h8] at this
theorem own_copy {W w1 : World} {b0 : Nat} {ds : List Dc} {v : Value} (G : Grew W b0 38 4 (.slice (some ⟨b0, 0, none⟩) 0 0) 0 [] 8 (dcs ds) v w1) (h8 : ds.length = 8) (hb : b0 ≤ W.heap.size) : OwnD w1 b0 ds v := by
  refine ⟨?_, Nat.le_trans hb G.grown.size⟩
  have := G.own
  rw [h8]
  simpa using this
set_option maxRecDepth 100000 in
theorem cut_tk (w : World) (a : Option Addr) (n cap k : Nat) (h1 : (k : Int) < (n : Int)) (h2 : n ≤ cap) : (Instr.sliceAt 25 (.slice a n cap) (some (.int .i64 (k : Int))) (some (.int .i64 ((k : Int) + 1))) none).run Try.prog w = .ok (.slice (cutAt a k cap 1) 1 (cap - k)) w := by
  have h := run_cut_lh (t := 25) (e := 47) (sz := 1) Try.underlying25 rfl Try.sizeOf47 a n cap k (k + 1) (by omega) (by omega) w
  rw [show ((k : Int) + 1) = ((k + 1 : Nat) : Int) by omega, h, show k + 1 - k = 1 by omega]
attribute [local go_sem ↓] cut_tk
set_option maxRecDepth 100000 in
set_option maxHeartbeats 1000000 in
theorem namesWhole_row (how : Int) (la lb : List Ac) (l : List Int) (va vb lv : Value) (k0 : Int) (w : World) (hh1 : -9223372036854775808 ≤ how) (hh2 : how ≤ 9223372036854775807) (ha : ActsR w w.heap.size la va) (hb : ActsR w w.heap.size lb vb) (hl : IntsR w w.heap.size l lv) (_hk1 : -9223372036854775808 ≤ k0) (_hk2 : k0 ≤ 9223372036854775807) :
    Calls Try.prog 3 #[.int .i64 how, va, vb, lv, .int .i64 k0] w fun e w' => e = .returned (.bool true) ∧ Kept w w' := by
  have HP : Hid _ := prog_any how la lb [] va vb (.slice none 0 0) 5 w hh1 hh2 ha hb (acts_nil _ _) (by omega) (by omega)
  have HL : Hid (IntsR w w.heap.size l lv) := hl
  obtain ⟨aa, qa, rfl, -⟩ := ha.out
  obtain ⟨ab, qb, rfl, -⟩ := hb.out
  obtain ⟨al, lcap, rfl, hl1, hl2, -⟩ := hl.out
  have KN : Hid (∀ W, Calls Try.prog 14 #[] W fun e w' => e = .returned (.bool true) ∧ Kept W w') := fun W => known_any W
  clear hl hh1 hh2 ha hb
  go_enter Try.func3, Try.ntmps3
  go_wp2_with fail
  refine Calls.mono HP.out ?_
  rintro e w1 ⟨d0, t0, c1, n1, q1, c2, n2, q2, rfl, HM⟩
  obtain ⟨hds, hts, hg, hk⟩ := HM.out
  obtain ⟨s, hsh, d, t, hmr, htl, hrd⟩ := made_read hg hds hts
  have SH : Hid _ := hsh
  have RD : Hid _ := hrd
  have HMR : Hid (MadeR d t) := hmr
  have HK1 : Hid (Kept w w1) := hk
  have HT3 : Hid (t.length ≤ 3) := by have := hg.three; show _ ≤ _; omega
  clear hds hts hg hk hsh hrd hmr HM HP htl
  go_wp2_with fail
  refine Calls.mono SH.out ?_
  rintro e w2 ⟨rfl, k2⟩
  have HK2 : Hid (Kept w w2) := HK1.out.then k2
  clear SH HK1 k2
  go_wp2_with fail
  refine Calls.mono (RD.out _) ?_
  rintro e w3 ⟨a1, p1, a2, p2, rfl, H3⟩
  obtain ⟨k3, ho3, ht3⟩ := H3.out
  have HK3 : Hid (Kept w w3) := HK2.out.then k3
  have HTS3 : Hid (TsIn w3 0 w3.heap.size t (.slice a2 t.length p2)) := ht3
  have HD8 : Hid (d.length = 8) := HMR.out.dl
  have TU : Hid (Calls Try.prog 8 #[.agg #[.slice a1 d.length p1, .slice a2 t.length p2], .slice al l.length lcap] w3 fun e w' => ∃ (ds : List Dc) (a1 : Option Addr) (q1 : Nat), e = .returned (.agg #[.slice a1 ds.length q1, .slice a2 t.length p2]) ∧ Hid (Kept w3 w' ∧ OwnD w' w3.heap.size ds (.slice a1 ds.length q1) ∧ TurnedD ds d.length)) := turned_any d l w3 _ (.slice al l.length lcap) a2 t.length p2 ho3 (by have := HMR.out.dl; omega) (by have := HMR.out.dl; omega) ⟨rfl, HMR.out.fd, HMR.out.ok.1⟩ ((HL.out.kept HK3.out).mono HK3.out.size)
  clear RD HK2 k3 ho3 ht3 H3 HL hl1 hl2
  go_wp2_with fail
  refine Calls.mono TU.out ?_
  rintro e w4 ⟨ds, a4, p4, rfl, H4⟩
  obtain ⟨k4, ho4, htd⟩ := H4.out
  have HK4 : Hid (Kept w w4) := HK3.out.then k4
  have hlen : ds.length = 8 := by rw [htd.len, HD8.out]
  have HTD : Hid (TurnedD ds d.length) := htd
  have hts4 : TsIn w4 0 w4.heap.size t (.slice a2 t.length p2) := HTS3.out.up (Nat.le_refl _) k4
  have HO : Hid (OwnD w4 w3.heap.size ds (.slice a4 ds.length p4)) := ho4
  have HT4 : Hid (TsIn w4 0 w4.heap.size t (.slice a2 t.length p2)) := hts4
  clear TU k4 ho4 H4 HK3 HD8 hts4 HTS3 htd
  obtain ⟨g, rfl⟩ : ∃ g, a4 = some ⟨g, 0, none⟩ := by
    rcases HO.out.row.2 with ⟨e0, e1⟩ | ⟨g, cap', cur, e0, -⟩
    · omega
    · injection e0 with e0; exact ⟨g, e0⟩
  -- Check of any declarations that are at hand
  have CK : Hid (∀ (es : List Dc) (u : List (List St)) (dv tv : Value) (W : World), DsIn W 0 W.heap.size es dv → TsIn W 0 W.heap.size u tv → (∀ b ∈ u, b ∈ t) → (∀ z ∈ es, FitD z) → Calls Try.prog 12 #[.agg #[dv, tv]] W fun e w' => e = .returned (.tuple #[.complex .f64 (xN (Nf.check es u)) (yN (Nf.check es u)), .int .i64 (errN (Nf.check es u))]) ∧ Kept W w') := fun es u dv tv W h1 h2 h3 h4 => by
    have hfl : ∀ s ∈ flatTs u, Fit s := fun s hs => by
      obtain ⟨b, hb, hsb⟩ := mem_flatTs.1 hs
      exact HMR.out.ft s (mem_flatTs.2 ⟨b, h3 b hb, hsb⟩)
    have h := check_any es u W dv tv h1 h2 hfl (fun b hb => Nat.le_trans (HMR.out.sz b (h3 b hb)) (by decide)) h4
    rw [told_err] at h; exact h
  have HL8 : Hid (ds.length = 8) := hlen
  have hcap2 : t.length ≤ p2 := by
    obtain ⟨_, _, e, hle, _⟩ := HT4.out.open
    injection e with _ _ e
    omega
  have HFD : Hid (∀ z ∈ ds, FitD z) := fun z hz => (HTD.out.fd z hz).1
  rw [hlen] at HO ⊢
  go_wp2_with fail
  obtain ⟨W5, hW5⟩ : ∃ W, w4.alloc (.cells #[.slice (some ⟨g, 0, none⟩) 8 p4, .slice a2 t.length p2] 27) = W := ⟨_, rfl⟩
  obtain ⟨P, hP⟩ : ∃ P, w4.heap.size = P := ⟨_, rfl⟩
  have k45 : Kept w4 W5 := by rw [← hW5]; exact (Kept.refl _).al _
  have HK5 : Hid (Kept w W5) := HK4.out.then k45
  have HBX : Hid (BoxS W5 P [.slice (some ⟨g, 0, none⟩) 8 p4, .slice a2 t.length p2]) := by rw [← hW5, ← hP]; exact box_newQ _ _ _
  have HO5 : Hid (OwnD W5 0 ds (.slice (some ⟨g, 0, none⟩) 8 p4)) := (HO.out.bu (M := fun _ => False) (Bu.of k45) fun _ _ _ c => c).lower (Nat.zero_le _)
  have HDS : Hid (DsIn W5 0 W5.heap.size ds (.slice (some ⟨g, 0, none⟩) 8 p4)) := HO5.out.ds fun k e => ⟨Nat.zero_le _, (HO5.out.row.lt k e).2⟩
  have HTS : Hid (TsIn W5 0 W5.heap.size t (.slice a2 t.length p2)) := HT4.out.up (Nat.le_refl _) k45
  have C0 : Hid (∀ W, Kept W5 W → Calls Try.prog 12 #[.agg #[.slice (some ⟨g, 0, none⟩) 8 p4, .slice a2 t.length p2]] W fun e w' => e = .returned (.tuple #[.complex .f64 (xN (Nf.check ds t)) (yN (Nf.check ds t)), .int .i64 (errN (Nf.check ds t))]) ∧ Kept W w') := fun W hW => CK.out ds t _ _ W (HDS.out.up (Nat.le_refl _) hW) (HTS.out.up (Nat.le_refl _) hW) (fun b h => h) HFD.out
  have C1 : Hid (∀ (k : Nat) (h : k < t.length) (W : World), Kept W5 W → Calls Try.prog 12 #[.agg #[.slice (some ⟨g, 0, none⟩) 8 p4, .slice (cutAt a2 k p2 1) 1 (p2 - k)]] W fun e w' => e = .returned (.tuple #[.complex .f64 (xN (Nf.check ds [t[k]])) (yN (Nf.check ds [t[k]])), .int .i64 (errN (Nf.check ds [t[k]]))]) ∧ Kept W w') := fun k h W hW => CK.out ds [t[k]] _ _ W (HDS.out.up (Nat.le_refl _) hW) ((HTS.out.up (Nat.le_refl _) hW).cut1' k h) (fun b hb => by rw [List.mem_singleton.1 hb]; exact List.getElem_mem h) HFD.out
  rw [hW5, hP]
  obtain ⟨E0, hE0⟩ : ∃ E, errN (Nf.check ds t) = E := ⟨_, rfl⟩
  have HE0 : Hid ((E0 = 0 ∧ (Nf.check ds t).isNone = true) ∨ (E0 = 3 ∧ (Nf.check ds t).isNone = false)) := by have := errN_two (Nf.check ds t); rw [hE0] at this; exact this
  rw [hE0] at C0
  obtain ⟨X0, hX0⟩ : ∃ X, xN (Nf.check ds t) = X := ⟨_, rfl⟩
  obtain ⟨Y0, hY0⟩ : ∃ Y, yN (Nf.check ds t) = Y := ⟨_, rfl⟩
  rw [hX0, hY0] at C0
  have HXY : Hid (xN (Nf.check ds t) = X0 ∧ yN (Nf.check ds t) = Y0 ∧ errN (Nf.check ds t) = E0) := ⟨hX0, hY0, hE0⟩
  have ht3 : (t.length : Int) ≤ 3 := by have := HT3.out; omega
  have bx := HBX.out
  have p0 := bx.cell 0 rfl
  have p1 := bx.cell 1 rfl
  have pl := bx.lt
  clear HK4 HO k45 hW5 hP hlen HT4 hX0 hY0 hE0 bx
  go_wp2_with fail
  refine (C0.out _ (Kept.refl _)).mono ?_
  rintro e w6 ⟨rfl, k6⟩
  have HK6 : Hid (Kept W5 w6) := k6
  clear p0 p1 pl k6
  have bx := HBX.out.kept HK6.out
  have p0 := bx.cell 0 rfl
  have p1 := bx.cell 1 rfl
  have pl := bx.lt
  clear bx
  go_wp2_with fail
  go_loopw [14, 41] (fun ok i wr => ∃ k : Nat, i = .int .i64 (k : Int) ∧ k ≤ t.length ∧ ok = .bool ((t.take k).all fun b => (Nf.check ds [b]).isNone) ∧ Hid (Kept W5 wr)) (fun _ i _ => t.length - (intOf i).toNat)
  case atStart => exact ⟨0, rfl, Nat.zero_le _, rfl, HK6⟩
  case round =>
    obtain ⟨k, rfl, hk, rfl, HB⟩ := hrel
    clear p0 p1 pl HK6
    have bx := HBX.out.kept HB.out
    have p0 := bx.cell 0 rfl
    have p1 := bx.cell 1 rfl
    have pl := bx.lt
    by_cases hlt : k < t.length
    · have hki : (k : Int) < (t.length : Int) := by omega
      have hwm : IntKind.i64.wrap ((k : Int) + 1) = (k : Int) + 1 := by rw [IntKind.wrap_i64]; omega
      have hst := all_take t (fun b => (Nf.check ds [b]).isNone) k hlt
      have HST : Hid _ := hst
      have C1k := C1.out k hlt
      rcases errN_two (Nf.check ds [t[k]]) with ⟨h1, h2⟩ | ⟨h1, h2⟩
      all_goals
        rw [h1] at C1k
        have H2 : Hid _ := h2
        have C1K : Hid _ := C1k
        obtain ⟨X1, hX1⟩ : ∃ X, xN (Nf.check ds [t[k]]) = X := ⟨_, rfl⟩
        obtain ⟨Y1, hY1⟩ : ∃ Y, yN (Nf.check ds [t[k]]) = Y := ⟨_, rfl⟩
        rw [hX1, hY1] at C1K
        obtain ⟨AL, hAL⟩ : ∃ AL, ((t.take k).all fun b => (Nf.check ds [b]).isNone) = AL := ⟨_, rfl⟩
        rw [hAL] at HST ⊢
        clear hst C1k h1 h2 hX1 hY1 bx hAL
        go_wp2_with fail
        go_region
        obtain ⟨W7, hW7⟩ : ∃ W, (wr.alloc (.cells #[.slice (some ⟨g, 0, none⟩) 8 p4, .slice (cutAt a2 k p2 1) 1 (p2 - k)] 27)).drew = W := ⟨_, rfl⟩
        obtain ⟨Q, hQ⟩ : ∃ Q, wr.heap.size = Q := ⟨_, rfl⟩
        have hk7 : Kept wr W7 := by rw [← hW7]; exact ((Kept.refl _).al _).dr
        have HK7 : Hid (Kept W5 W7) := HB.out.then hk7
        have bq : BoxS W7 Q [.slice (some ⟨g, 0, none⟩) 8 p4, .slice (cutAt a2 k p2 1) 1 (p2 - k)] := by rw [← hW7, ← hQ]; exact (box_newQ _ _ _).kept (Kept.refl _).dr
        have q0 := bq.cell 0 rfl
        have q1 := bq.cell 1 rfl
        have ql := bq.lt
        rw [hW7, hQ]
        clear hW7 hQ hk7 bq p0 p1 pl
        go_wp2_with fail
        refine (C1K.out _ HK7.out).mono ?_
        rintro e w8 ⟨rfl, k8⟩
        have HK8 : Hid (Kept W5 w8) := HK7.out.then k8
        clear q0 q1 ql k8
        have HST2 : Hid (_ = (AL && _)) := HST
        cases AL
        all_goals
          go_wp2_with fail
          go_roundw
          case rel => exact ⟨k + 1, by go_num, by omega, by rw [HST.out, H2.out]; rfl, HK8⟩
          case measure => simp [intOf]; omega
    · have hki : ¬ (k : Int) < (t.length : Int) := by omega
      have hal : ((t.take k).all fun b => (Nf.check ds [b]).isNone) = (Nf.check ds t).isNone := by rw [List.take_of_length_le (by omega), ← check_each HMR.out.tl]
      rw [hal]
      clear hal
      clear C1
      go_upto_region 12 with fail
      obtain ⟨p6, hp6, -, hP6⟩ := pick_nat k0 6 (by omega) (by omega)
      have PK : Hid (∀ W, Calls Try.prog 13 #[.int .i64 k0, .int .i64 6] W fun e w' => e = .returned (.int .i64 (p6 : Int)) ∧ w' = W) := hP6
      have hw6 : IntKind.i64.wrap (1 + (p6 : Int)) = 1 + (p6 : Int) := by rw [IntKind.wrap_i64]; omega
      obtain ⟨Q, hQ⟩ : ∃ Q, wr.heap.size = Q := ⟨_, rfl⟩
      obtain ⟨W1, hW1⟩ : ∃ W, wr.alloc (.cells #[.slice (some ⟨g, 0, none⟩) 8 p4, .slice a2 t.length p2] 27) = W := ⟨_, rfl⟩
      have K1 : Hid (Kept wr W1) := by rw [← hW1]; exact (Kept.refl _).al _
      have B1 : Hid (BoxS W1 Q [.slice (some ⟨g, 0, none⟩) 8 p4, .slice a2 t.length p2]) := by rw [← hW1, ← hQ]; exact box_newQ _ _ _
      have HQ : Hid (wr.heap.size = Q) := hQ
      rw [hW1, hQ]
      have HSRC : Hid (∀ W, Kept W5 W → W.ownsRow 0 38 4 (.slice (some ⟨g, 0, none⟩) 8 p4) 8 (dcs ds)) := fun W hW => by
        have h := (HO5.out.bu (M := fun _ => False) (Bu.of hW) fun _ _ _ c => c).row
        rwa [HL8.out] at h
      have HT0 : Hid ((W1.alloc (.cells #[] 38)).ownsRow W1.heap.size 38 4 (.slice (some ⟨W1.heap.size, 0, none⟩) 0 0) 0 []) := by
        exact World.ownsRow_lit W1 #[] 0 (Nat.le_refl _) (by unfold maxLen; omega) (by simp)
      clear hQ hW1 hP6 p0 p1 pl bx
      have bx := (HBX.out.kept HB.out).kept K1.out
      have p0 := bx.cell 0 rfl
      have pl := bx.lt
      clear bx
      go_wp2_with (at_builtin; go_loud (refine wpList_append_rows (base := W1.heap.size) (n := 0) (xs := []) (by rfl) _ _ _ (by rfl) elemDc (by rfl) HT0.out (by rfl) (HSRC.out _ ((HB.out.then K1.out).al _)) ?one ?byt ?len ?base ?_))
      case one => exact dcs_cells ds
      case len => unfold maxLen; omega
      intro ad cp w1 HG
      have ho1 := own_copy HG.out HL8.out (by simp)
      have k1 : Kept W1 w1 := HG.out.below HT0.out (Nat.le_refl _) (by simp) ((Kept.refl _).al _)
      have HO1 : Hid (OwnD w1 W1.heap.size ds (.slice ad 8 cp)) := ho1
      have HK1 : Hid (Kept W1 w1) := k1
      clear ho1 k1 HG HT0 p0 pl
      have bq := B1.out.kept HK1.out
      have q0 := bq.cell 0 rfl
      have qf := bq.fz 0
      have ql := bq.lt
      clear bq
      obtain ⟨b0, hb0⟩ : ∃ b0, W1.heap.size = b0 := ⟨_, rfl⟩
      have HB0 : Hid (Q < b0) := by have := B1.out.lt; show Q < b0; omega
      rw [hb0] at HO1
      clear hb0
      have HOW : Hid ((w1.alloc (.cells #[.int .i64 (1 + (p6 : Int)), .string ⟨#[117, 110, 104, 101, 97, 114, 100]⟩, .int .i64 0, .complex .f64 0 0] 38)).ownsRow b0 38 4 (.slice ad 8 cp) 8 (dcs ds) ∧ b0 ≤ (w1.alloc (.cells #[.int .i64 (1 + (p6 : Int)), .string ⟨#[117, 110, 104, 101, 97, 114, 100]⟩, .int .i64 0, .complex .f64 0 0] 38)).heap.size) := by
        have h := HO1.out.bu (M := fun _ => False) (Bu.of ((Kept.refl w1).al (.cells #[.int .i64 (1 + (p6 : Int)), .string ⟨#[117, 110, 104, 101, 97, 114, 100]⟩, .int .i64 0, .complex .f64 0 0] 38))) fun _ _ _ c => c
        have h2 := h.row
        rw [HL8.out] at h2
        exact ⟨h2, h.le⟩
      go_wp2_with fail
      refine (PK.out _).mono ?_
      rintro e w2 ⟨rfl, rfl⟩
      have n0 := World.new_ne w2 ⟨Q, 0, none⟩ q0
      go_wp2_with (at_builtin; go_loud (refine wpList_append_rows (base := b0) (n := 8) (xs := dcs ds) (by rfl) _ _ _ (by rfl) elemDc (by rfl) HOW.out.1 (by rfl) (own_lit 0 38 4 _ (by rfl) (Nat.zero_le _)) ?one (by omega) ?len HOW.out.2 ?_))
      case one => exact ⟨rfl, rfl, rfl, rfl⟩
      case len => unfold maxLen; omega
      intro ad2 cp2 w3 HG2
      have hg2 : Grew (w2.alloc (.cells #[.int .i64 (1 + (p6 : Int)), .string ⟨#[117, 110, 104, 101, 97, 114, 100]⟩, .int .i64 0, .complex .f64 0 0] 38)) b0 38 4 (.slice ad 8 cp) ds.length (dcs ds) 1 (Dc.cells ⟨1 + (p6 : Int), unheard, 0, 0, 0⟩) (.slice ad2 9 cp2) w3 := by rw [HL8.out]; exact HG2.out
      have haf := aft_of (y := ⟨1 + (p6 : Int), unheard, 0, 0, 0⟩) K1.out HQ.out B1.out HB0.out (by
        have h := HO1.out.bu (M := fun _ => False) (Bu.of ((Kept.refl w2).al (.cells #[.int .i64 (1 + (p6 : Int)), .string ⟨#[117, 110, 104, 101, 97, 114, 100]⟩, .int .i64 0, .complex .f64 0 0] 38))) fun _ _ _ c => c
        exact h) (HK1.out.al _) hg2
      obtain ⟨haf, q0', qf', ql'⟩ := haf
      have HAF : Hid _ := haf
      clear hg2 HG2 haf q0 qf ql n0 HOW
      go_upto_region 13 with fail
      obtain ⟨W3, hW3⟩ : ∃ W, w3.setCell ⟨Q, 0, none⟩ (.slice ad2 9 cp2) = W := ⟨_, rfl⟩
      rw [hW3] at HAF ⊢
      clear hW3 q0' qf' ql'
      have K3 : Hid (Kept W5 W3) := HB.out.then HAF.out.kept
      have CM : Hid (∀ W, Kept W3 W → Calls Try.prog 12 #[.agg #[.slice ad2 9 cp2, .slice a2 t.length p2]] W fun e w' => e = .returned (.tuple #[.complex .f64 X0 Y0, .int .i64 E0]) ∧ Kept W w') := fun W hW => by
        have h := CK.out (ds ++ [⟨1 + (p6 : Int), unheard, 0, 0, 0⟩]) t (.slice ad2 9 cp2) (.slice a2 t.length p2) W (by
          have ho := HAF.out.own.bu (M := fun _ => False) (Bu.of hW) fun _ _ _ c => c
          exact ho.ds fun k e => ⟨Nat.zero_le _, (ho.row.lt k e).2⟩) (HTS.out.up (Nat.le_refl _) (K3.out.then hW)) (fun b h => h) (fd_snoc HFD.out ⟨by show unheard.size ≤ maxLen; unfold maxLen; decide +kernel, by show _ ≤ 1 + (p6 : Int); omega, by show 1 + (p6 : Int) ≤ _; omega⟩)
        have hm : Nf.check (ds ++ [⟨1 + (p6 : Int), unheard, 0, 0, 0⟩]) t = Nf.check ds t := check_more (by
          unfold Nf.isIn
          rw [List.any_eq_false]
          intro z hz
          have := not_unheard (HTD.out.fd z hz).2
          simp only [decide_eq_true_eq]
          exact fun e => this e.symm) (fun s hs => ⟨not_unheard (Nat.le_trans (HMR.out.one s hs).1 (by decide)), fun x hx => not_unheard (Nat.le_trans ((HMR.out.one s hs).2 x hx) (by decide))⟩)
        rw [hm, HXY.out.1, HXY.out.2.1, HXY.out.2.2] at h
        exact h
      have q0 := HAF.out.box.cell 0 rfl
      have q1 := HAF.out.box.cell 1 rfl
      have ql := HAF.out.box.lt
      go_wp2_with fail
      refine (CM.out _ (Kept.refl _)).mono ?_
      rintro e w4 ⟨rfl, k4⟩
      have K4 : Hid (Kept W5 w4) := K3.out.then k4
      clear k4 CM q0 q1 ql HAF
      have bx := HBX.out.kept K4.out
      have p0 := bx.cell 0 rfl
      have p1 := bx.cell 1 rfl
      have pl := bx.lt
      go_upto_region 15 with fail
      obtain ⟨j8, hj8, -, hP8⟩ := pick_nat k0 8 (by omega) (by omega)
      have PJ : Hid (∀ W, Calls Try.prog 13 #[.int .i64 k0, .int .i64 8] W fun e w' => e = .returned (.int .i64 (j8 : Int)) ∧ w' = W) := hP8
      have hj8i : (j8 : Int) < 8 := by omega
      have hjd : j8 < ds.length := by have := HL8.out; omega
      obtain ⟨nm, hnm⟩ : ∃ nm, ds[j8].name = nm := ⟨_, rfl⟩
      have HNM : Hid (Nf.isIn ds nm = true ∧ nm.size ≤ 5) := ⟨by
        unfold Nf.isIn
        rw [List.any_eq_true]
        exact ⟨ds[j8], List.getElem_mem hjd, by simpa using hnm⟩, by rw [← hnm]; exact (HTD.out.fd _ (List.getElem_mem hjd)).2⟩
      have HG1 : Hid (∀ W, Kept W5 W → W.cell? ⟨g, j8 * 4 + 1, none⟩ = some (.string nm)) := fun W hW => by
        have h := ((HO5.out.bu (M := fun _ => False) (Bu.of hW) fun _ _ _ c => c).cell j8 hjd).2.1
        rw [hnm] at h; exact h
      obtain ⟨Z, hZ⟩ : ∃ Z, w4.heap.size = Z := ⟨_, rfl⟩
      obtain ⟨W4, hW4⟩ : ∃ W, w4.alloc (.cells #[.slice (some ⟨g, 0, none⟩) 8 p4, .slice a2 t.length p2] 27) = W := ⟨_, rfl⟩
      have K5 : Hid (Kept w4 W4) := by rw [← hW4]; exact (Kept.refl _).al _
      have B4 : Hid (BoxS W4 Z [.slice (some ⟨g, 0, none⟩) 8 p4, .slice a2 t.length p2]) := by rw [← hW4, ← hZ]; exact box_newQ _ _ _
      have HZ : Hid (w4.heap.size = Z) := hZ
      rw [hW4, hZ]
      clear hZ hW4 hP8 p0 p1 pl bx hjd hnm
      have K54 : Hid (Kept W5 W4) := K4.out.then K5.out
      have bx := HBX.out.kept K54.out
      have p0 := bx.cell 0 rfl
      have pl := bx.lt
      have g1 := HG1.out W4 K54.out
      have gl := block_lt_of_cell g1
      have z0 := B4.out.cell 0 rfl
      have zf := B4.out.fz 0
      have zl := B4.out.lt
      have m1 := World.new_ne W4 ⟨P, 0, none⟩ p0
      have m2 := World.new_ne W4 ⟨g, j8 * 4 + 1, none⟩ g1
      clear bx
      have hPZ : P ≠ Z := fun e => by have h1 : w4.heap.size = Z := HZ.out; have h2 : P < w4.heap.size := (HBX.out.kept K4.out).lt; omega
      have hgZ : g ≠ Z := fun e => by have h1 : w4.heap.size = Z := HZ.out; have h2 : g < w4.heap.size := block_lt_of_cell (HG1.out w4 K4.out); omega
      have HFP : Hid (∀ (W : World) (v : Value), (W.setCell ⟨Z, 0, none⟩ v).cell? ⟨P, 0, none⟩ = W.cell? ⟨P, 0, none⟩) := fun W v => World.cell?_of_block (w := W) (a := ⟨P, 0, none⟩) (heap_setCells Z [v] 0 W P hPZ)
      have HFG : Hid (∀ (W : World) (v : Value), (W.setCell ⟨Z, 0, none⟩ v).cell? ⟨g, j8 * 4 + 1, none⟩ = W.cell? ⟨g, j8 * 4 + 1, none⟩) := fun W v => World.cell?_of_block (w := W) (a := ⟨g, j8 * 4 + 1, none⟩) (heap_setCells Z [v] 0 W g hgZ)
      have Y1 : Hid (∀ u ∈ Dc.cells ⟨1 + (p6 : Int), nm, 0, 4636666922610458624, 4621256167635550208⟩, u.oneCell' = true) := fun u hu => by
        simp [Dc.cells] at hu
        rcases hu with rfl | rfl | rfl | rfl <;> rfl
      have HT1 : Hid ((W4.alloc (.cells #[] 38)).ownsRow W4.heap.size 38 4 (.slice (some ⟨W4.heap.size, 0, none⟩) 0 0) 0 []) := World.ownsRow_lit W4 #[] 0 (Nat.le_refl _) (by unfold maxLen; omega) (by simp)
      have HT2 : Hid (((W4.alloc (.cells #[] 38)).alloc (.cells #[.int .i64 (1 + (p6 : Int)), .string nm, .int .i64 0, .complex .f64 4636666922610458624 4621256167635550208] 38)).drew.ownsRow W4.heap.size 38 4 (.slice (some ⟨W4.heap.size, 0, none⟩) 0 0) 0 []) := by
        have h : OwnD (W4.alloc (.cells #[] 38)) W4.heap.size [] (.slice (some ⟨W4.heap.size, 0, none⟩) 0 0) := ⟨HT1.out, by simp⟩
        exact (h.bu (M := fun _ => False) (Bu.of ((Kept.refl _).al _).dr) fun _ _ _ c => c).row
      have HT3 : Hid (((W4.alloc (.cells #[.int .i64 (1 + (p6 : Int)), .string nm, .int .i64 0, .complex .f64 4636666922610458624 4621256167635550208] 38)).alloc (.cells #[] 38)).ownsRow W4.heap.size 38 4 (.slice (some ⟨W4.heap.size + 1, 0, none⟩) 0 0) 0 []) := by
        have h := World.ownsRow_lit (W4.alloc (.cells #[.int .i64 (1 + (p6 : Int)), .string nm, .int .i64 0, .complex .f64 4636666922610458624 4621256167635550208] 38)) #[] (base := W4.heap.size) (e := 38) (size := 4) 0 (by simp) (by unfold maxLen; omega) (by simp)
        rw [World.size_alloc] at h
        exact h
      have HY2 : Hid (OwnD ((W4.alloc (.cells #[] 38)).alloc (.cells #[.int .i64 (1 + (p6 : Int)), .string nm, .int .i64 0, .complex .f64 4636666922610458624 4621256167635550208] 38)).drew 0 [⟨1 + (p6 : Int), nm, 0, 4636666922610458624, 4621256167635550208⟩] (.slice (some ⟨W4.heap.size + 1, 0, none⟩) 1 1)) := by
        have h := lit_own (W4.alloc (.cells #[] 38)) ⟨1 + (p6 : Int), nm, 0, 4636666922610458624, 4621256167635550208⟩
        rw [World.size_alloc] at h
        exact h.bu (M := fun _ => False) (Bu.of (Kept.refl _).dr) fun _ _ _ c => c
      have HY3 : Hid (OwnD ((W4.alloc (.cells #[.int .i64 (1 + (p6 : Int)), .string nm, .int .i64 0, .complex .f64 4636666922610458624 4621256167635550208] 38)).alloc (.cells #[] 38)).drew 0 [⟨1 + (p6 : Int), nm, 0, 4636666922610458624, 4621256167635550208⟩] (.slice (some ⟨W4.heap.size, 0, none⟩) 1 1)) := (lit_own W4 ⟨1 + (p6 : Int), nm, 0, 4636666922610458624, 4621256167635550208⟩).bu (M := fun _ => False) (Bu.of ((Kept.refl _).al _).dr) fun _ _ _ c => c
      go_cut [] (fun wc => ∃ v', Hid (Aft w4 Z ds ⟨1 + (p6 : Int), nm, 0, 4636666922610458624, 4621256167635550208⟩ (.slice a2 t.length p2) wc v'))
      case first =>
        go_region_held3 (fun w' => w'.cell? ⟨P, 0, none⟩ = some (.slice (some ⟨g, 0, none⟩) 8 p4) ∧ w'.cell? ⟨g, j8 * 4 + 1, none⟩ = some (.string nm)) (first | assumption | (refine ⟨?_, ?_⟩ <;> assumption) | (refine ⟨(HFP.out _ _).trans ?_, (HFG.out _ _).trans ?_⟩ <;> assumption) | go_keep) (first
          | (refine step_append_rows (base := W4.heap.size) (n := 8) (xs := dcs ds) (by rfl) _ _ _ (by rfl) elemDc (by rfl) (own8 (HC.out.1.bu (M := fun _ => False) (Bu.of ((Kept.refl _).al _)) fun _ _ _ c => c) HL8.out) (by rfl) (own_lit 0 38 4 _ (by rfl) (Nat.zero_le _)) (by exact Y1.out) (by omega) (by unfold maxLen; omega) (by have := HC.out.1.le; simp; omega) ?_; intro ad2 cp2 w2 HG2; have ha := aft2 (y := ⟨1 + (p6 : Int), nm, 0, 4636666922610458624, 4621256167635550208⟩) K5.out HZ.out B4.out (HC.out.1.bu (M := fun _ => False) (Bu.of ((Kept.refl _).al _)) fun _ _ _ c => c) (HC.out.2.al _) HL8.out HG2.out; obtain ⟨ha, z0', zf', zl', kw⟩ := ha; have HAF : Hid _ := ha; have p0'' := kw.cellS p0; have g1'' := kw.cellS g1; clear ha kw)
          | (refine step_append_rows (base := W4.heap.size) (n := 8) (xs := dcs ds) (by rfl) _ _ _ (by rfl) elemDc (by rfl) (own8 HC.out.1 HL8.out) (by rfl) HYR.out (by exact Y1.out) (by omega) (by unfold maxLen; omega) HC.out.1.le ?_; intro ad2 cp2 w2 HG2; have ha := aft2 (y := ⟨1 + (p6 : Int), nm, 0, 4636666922610458624, 4621256167635550208⟩) K5.out HZ.out B4.out HC.out.1 HC.out.2 HL8.out HG2.out; obtain ⟨ha, z0', zf', zl', kw⟩ := ha; have HAF : Hid _ := ha; have p0'' := kw.cellS p0; have g1'' := kw.cellS g1; clear ha kw)
          | (refine step_append_rows (base := W4.heap.size) (n := 0) (xs := []) (by rfl) _ _ _ (by rfl) elemDc (by rfl) HT1.out (by rfl) (HSRC.out _ (K54.out.al _).dr) (dcs_cells ds) (by omega) (by unfold maxLen; omega) (by simp) ?_; intro ad cp w1 HG; have hc := copied (W := W4) ((Kept.refl _).al _).dr rfl (Nat.le_refl _) (by simp) HG.out HL8.out; have HC : Hid (OwnD w1 W4.heap.size ds (.slice ad 8 cp) ∧ Kept W4 w1) := ⟨hc.1, hc.2.1⟩; have p0' := HC.out.2.cellS p0; have g1' := HC.out.2.cellS g1; have m1' := World.new_ne w1 ⟨P, 0, none⟩ p0'; have m2' := World.new_ne w1 ⟨g, j8 * 4 + 1, none⟩ g1'; clear hc)
          | (refine step_append_rows (base := W4.heap.size) (n := 0) (xs := []) (by rfl) _ _ _ (by rfl) elemDc (by rfl) HT2.out (by rfl) (HSRC.out _ ((K54.out.al _).al _).dr) (dcs_cells ds) (by omega) (by unfold maxLen; omega) (by simp) ?_; intro ad cp w1 HG; have hc := copied (W := W4) (((Kept.refl _).al _).al _).dr rfl (Nat.le_refl _) (by simp; omega) HG.out HL8.out; have HC : Hid (OwnD w1 W4.heap.size ds (.slice ad 8 cp) ∧ Kept W4 w1) := ⟨hc.1, hc.2.1⟩; have HYR : Hid (w1.ownsRow 0 38 4 (.slice (some ⟨W4.heap.size + 1, 0, none⟩) 1 1) 1 (Dc.cells ⟨1 + (p6 : Int), nm, 0, 4636666922610458624, 4621256167635550208⟩)) := (hc.2.2 _ _ (by omega) HY2.out).row; have p0' := HC.out.2.cellS p0; have g1' := HC.out.2.cellS g1; have m1' := World.new_ne w1 ⟨P, 0, none⟩ p0'; have m2' := World.new_ne w1 ⟨g, j8 * 4 + 1, none⟩ g1'; clear hc)
          | (refine step_append_rows (base := W4.heap.size) (n := 0) (xs := []) (by rfl) _ _ _ (by rfl) elemDc (by rfl) HT3.out (by rfl) (HSRC.out _ ((K54.out.al _).al _).dr) (dcs_cells ds) (by omega) (by unfold maxLen; omega) (by simp) ?_; intro ad cp w1 HG; have hc := copied (W := W4) (((Kept.refl _).al _).al _).dr rfl (Nat.le_succ _) (by simp) HG.out HL8.out; have HC : Hid (OwnD w1 W4.heap.size ds (.slice ad 8 cp) ∧ Kept W4 w1) := ⟨hc.1, hc.2.1⟩; have HYR : Hid (w1.ownsRow 0 38 4 (.slice (some ⟨W4.heap.size, 0, none⟩) 1 1) 1 (Dc.cells ⟨1 + (p6 : Int), nm, 0, 4636666922610458624, 4621256167635550208⟩)) := (hc.2.2 _ _ (by omega) HY3.out).row; have p0' := HC.out.2.cellS p0; have g1' := HC.out.2.cellS g1; have m1' := World.new_ne w1 ⟨P, 0, none⟩ p0'; have m2' := World.new_ne w1 ⟨g, j8 * 4 + 1, none⟩ g1'; clear hc)
          | (go_at_call_of 13 (Value.int .i64 6); refine (PK.out _).mono ?_; rintro e w6 ⟨rfl, rfl⟩)
          | (go_at_call_of 13 (Value.int .i64 8); refine (PJ.out _).mono ?_; rintro e w6 ⟨rfl, rfl⟩)
          | fail)
        all_goals
          go_wp2_with fail
          go_meet
          exact ⟨.slice ad2 9 cp2, HAF⟩
      case rest =>
        obtain ⟨v', HAF⟩ := hcut
        clear p0 pl g1 gl z0 zf zl m1 m2
        have K6 : Hid (Kept W5 wc) := K4.out.then HAF.out.kept
        obtain ⟨pq, hpq, hpq2⟩ := check_again (d := ds) (t := t) (y := ⟨1 + (p6 : Int), nm, 0, 4636666922610458624, 4621256167635550208⟩) HNM.out.1
        have CA : Hid (∀ W, Kept wc W → Calls Try.prog 12 #[.agg #[v', .slice a2 t.length p2]] W fun e w' => e = .returned (.tuple #[.complex .f64 pq.1 pq.2, .int .i64 3]) ∧ Kept W w') := fun W hW => by
          have h := CK.out (ds ++ [⟨1 + (p6 : Int), nm, 0, 4636666922610458624, 4621256167635550208⟩]) t v' (.slice a2 t.length p2) W (by
            have ho := HAF.out.own.bu (M := fun _ => False) (Bu.of hW) fun _ _ _ c => c
            exact ho.ds fun k e => ⟨Nat.zero_le _, (ho.row.lt k e).2⟩) (HTS.out.up (Nat.le_refl _) (K6.out.then hW)) (fun b h => h) (fd_snoc HFD.out ⟨by show nm.size ≤ maxLen; have := HNM.out.2; unfold maxLen; omega, by show _ ≤ 1 + (p6 : Int); omega, by show 1 + (p6 : Int) ≤ _; omega⟩)
          rw [hpq] at h
          exact h
        have HQ2 : Hid (Nf.check ds t = none → pq = (4636666922610458624, 4621256167635550208)) := hpq2
        have q0 := HAF.out.box.cell 0 rfl
        have q1 := HAF.out.box.cell 1 rfl
        have ql := HAF.out.box.lt
        obtain ⟨X1, Y1'⟩ := pq
        have HKW : Hid (Kept w wc) := HK5.out.then K6.out
        clear hpq hpq2
        go_wp2_with fail
        refine (CA.out _ (Kept.refl _)).mono ?_
        rintro e w7 ⟨rfl, k7⟩
        have HK7 : Hid (Kept w w7) := HKW.out.then k7
        clear k7 q0 q1 ql HAF CA
        have e1 : (FloatKind.f64.format.order 4636666922610458624 4636666922610458624 == some Ordering.eq) = true := by decide +kernel
        have e2 : (FloatKind.f64.format.order 4621256167635550208 4621256167635550208 == some Ordering.eq) = true := by decide +kernel
        rcases HE0.out with ⟨h1, h2⟩ | ⟨h1, h2⟩
        · have hn : Nf.check ds t = none := by
            cases hx : Nf.check ds t with
            | none => rfl
            | some z => rw [hx] at h2; cases h2
          have hq := HQ2.out hn
          injection hq with hq1 hq2
          subst hq1 hq2 h1
          rw [h2]
          have HH : Hid _ := hn
          clear h2 hn HQ2 HE0
          go_wp2_with fail
          refine (KN.out _).mono ?_
          rintro e w8 ⟨rfl, k8⟩
          have HK8 : Hid (Kept w w8) := HK7.out.then k8
          clear k8
          go_wp2_with fail
          go_ret
          exact ⟨rfl, HK8.out⟩
        · subst h1
          rw [h2]
          clear h2 HQ2 HE0
          go_wp2_with fail
          refine (KN.out _).mono ?_
          rintro e w8 ⟨rfl, k8⟩
          have HK8 : Hid (Kept w w8) := HK7.out.then k8
          clear k8
          go_wp2_with fail
          go_ret
          exact ⟨rfl, HK8.out⟩
end Go.Proofs.Ytbfikeegacapjaa
