/- Pm Po Sn Sd WD -/
import Derived.Test.YtdodpeneehbbkabXPaD
import Derived.Deep.RegionWith
import Derived.Laws.ResultCell
import Derived.Test.YtdodpeneehbbkabXKpA
import Derived.Test.YtdodpeneehbbkabXBs
import Derived.BigQuiet
import Derived.Deep.QuietTactic
import Derived.Deep.RegionHeld3
import Derived.Test.YtdodpeneehbbkabXNm5

namespace Go.Proofs.Ytdodpeneehbbkab
open Go.RowKit
attribute [local go_sem] run_store_complex
attribute [local go_sem ↓] Go.wp_at_zero Go.wp_at_succ
theorem esizePr : (Try.prog.info? 31).map (·.size) = some 2 := by kernel_rfl
def W2 (w : World) : World := (w.alloc (.cells #[.slice none 0 0, .slice none 0 0] 31)).alloc (.cells #[.slice none 0 0, .slice none 0 0] 31)
end Go.Proofs.Ytdodpeneehbbkab

namespace Go.Proofs.Ytdodpeneehbbkab
open Go.RowKit
attribute [local go_sem] run_store_complex
theorem toks_alive {l : List UInt8} {ts : List Lx.Tk} (h : Lx.toks l = .good ts) : Pp.Alive (ts.map Lx.Tk.core) := by
  obtain ⟨t, ht, h4⟩ := Px.toks_end h
  exact ⟨t.core, List.mem_map_of_mem ht, h4, (Lx.toks_fit _ _ h t ht).2.1 h4⟩
def Pp.out (s : ByteArray) : Option (List Dc × List (List St)) × Nat :=
  match Lx.toks s.data.toList with
  | .bad q => (none, q)
  | .good ts => ((Pp.prog (plOf s ts) (ts.map Lx.Tk.core)).1, (ts.getD (ts.length - (Pp.prog (plOf s ts) (ts.map Lx.Tk.core)).2.length) ⟨0, 0, [], 0⟩).at')
theorem Pp.out_bad {s : ByteArray} {q : Nat} (h : Lx.toks s.data.toList = .bad q) : Pp.out s = (none, q) := by unfold Pp.out; rw [h]
theorem Pp.out_good {s : ByteArray} {ts : List Lx.Tk} {r : Option (List Dc × List (List St))} {m : List Lx.Core} (h : Lx.toks s.data.toList = .good ts) (hr : Pp.prog (plOf s ts) (ts.map Lx.Tk.core) = (r, m)) : Pp.out s = (r, (ts.getD (ts.length - m.length) ⟨0, 0, [], 0⟩).at') := by unfold Pp.out; rw [h]; simp only [hr]
theorem ret_read3 {fn : Func} {p u v : Tmp} (h : fn.results = #[.cell p 31, .tmp u, .tmp v]) (tmps : Array Value) {w : World} {B : Nat} {x y z1 z2 : Value} (hp : tmps.getD p undef = .pointer (some ⟨B, 0, none⟩)) (hu : tmps.getD u undef = z1) (hv : tmps.getD v undef = z2) (hB : w.rangeAt B 0 [x, y]) :
    (results fn tmps).run Try.prog w = .ok (.tuple #[.agg #[x, y], z1, z2]) w := by
  rw [results_cell_tmp2 h, hp, hu, hv]
  have := run_loadVar_mid (P := Try.prog) w B 0 31 _ _ hB Try.underlying31 rfl esizePr
  simp [asAddr, Result.andThen, this]
def Wz (w : World) : World := w.alloc (.cells #[.slice none 0 0, .slice none 0 0] 31)
theorem Wz_kept (w : World) : Kept w (Wz w) := (Kept.refl _).al _
theorem Wz_size (w : World) : (Wz w).heap.size = w.heap.size + 1 := by unfold Wz; simp
theorem Wz_box (w : World) : BoxS (Wz w) w.heap.size [.slice none 0 0, .slice none 0 0] := by
  unfold Wz
  refine ⟨fun j v hv => ?_, fun j => by simp, by simp⟩
  rw [Nat.zero_add]
  match j, hv with
  | 0, hv => cases hv; simp
  | 1, hv => cases hv; simp
end Go.Proofs.Ytdodpeneehbbkab

namespace Go.Proofs.Ytdodpeneehbbkab
open Go.RowKit
namespace Ps
open Lx (Core)
open Px (hd isNm ba e0 T C D Wf)
open Pp
theorem prog_reads' {e : Nat} (he : e ≤ 7) (pl : Pl) (d : List Dc) (t : List (List St)) (hd' : ∀ x ∈ d, GdD x) (ht : ∀ b ∈ t, ∀ s ∈ b, Gd e s) (hd1 : d.length ≤ 24) (ht0 : t ≠ []) (ht1 : t.length ≤ 4) (m : List Core) (hm : (hd m).2.1 ≠ tGo) :
    ∃ d' t', prog pl (dcoress d ++ (tcoress t ++ m)) = ended d' t' m ∧ d'.map Dc.strip = d.map Dc.strip ∧ t'.map St.strips = t.map St.strips := by
  have h0 : dk (hd (tcoress t ++ m)).2.1 = 0 := by
    cases t with
    | nil => exact absurd rfl ht0
    | cons b t =>
      show dk tGo = 0
      decide
  obtain ⟨d', e1, e2⟩ := decls_reads pl (tcoress t ++ m) h0 d hd' 24 [] hd1
  obtain ⟨t', e3, e4⟩ := threads_reads he pl m t ht 4 [] ht1 (fun _ => hm)
  refine ⟨d', t', ?_, e2, e4⟩
  unfold prog
  rw [Pp.bind_some e1, Pp.bind_some e3]
  rfl
theorem ne_of_map {α β : Type} {f : α → β} {l m : List α} (h : l.map f = m.map f) (hm : m ≠ []) : l ≠ [] := by
  rintro rfl
  cases m with
  | nil => exact hm rfl
  | cons _ _ => simp at h
theorem len_of_map {α β : Type} {f : α → β} {l m : List α} (h : l.map f = m.map f) : l.length = m.length := by
  have := congrArg List.length h
  simpa using this
theorem out_cr {e : Nat} (he : e ≤ 7) {s : List UInt8} (hl : s.length ≤ 6000) (d : List Dc) (t : List (List St)) (hd' : ∀ x ∈ d, GdD x) (ht : ∀ b ∈ t, ∀ s ∈ b, Gd e s) (hd1 : d.length ≤ 24) (ht0 : t ≠ []) (ht1 : t.length ≤ 4) (hc : Lx.cr s = some (dcoress d ++ (tcoress t ++ [(4, [], 0)]))) :
    ∃ d' t' q, Pp.out (ba s) = (some (d', t'), q) ∧ d'.map Dc.strip = d.map Dc.strip ∧ t'.map St.strips = t.map St.strips := by
  obtain ⟨ts, h1, h2⟩ := Px.cr_toks hl hc
  obtain ⟨d', t', e1, e2, e3⟩ := prog_reads' he (plOf (ba s) ts) d t hd' ht hd1 ht0 ht1 [(4, [], 0)] (by decide)
  have e4 : ended d' t' [(4, [], 0)] = (some (d', t'), [(4, [], 0)]) := if_pos ⟨ne_of_map e3 ht0, rfl⟩
  exact ⟨d', t', _, Pp.out_good (s := ba s) h1 (by rw [h2, e1, e4]), e2, e3⟩
theorem cr_shown {e : Nat} (d : List Dc) (t : List (List St)) (hd' : ∀ x ∈ d, GdD x) (ht : ∀ b ∈ t, ∀ s ∈ b, Gd e s) : Lx.cr (shown d t) = some (dcoress d ++ (tcoress t ++ [(4, [], 0)])) := by
  have := shown_lex d t hd' ht []
  rw [List.append_nil, Lx.cr_nil] at this
  rw [this]; simp
theorem out_shown {e : Nat} (he : e ≤ 7) (d : List Dc) (t : List (List St)) (hl : (shown d t).length ≤ 6000) (hd' : ∀ x ∈ d, GdD x) (ht : ∀ b ∈ t, ∀ s ∈ b, Gd e s) (hd1 : d.length ≤ 24) (ht0 : t ≠ []) (ht1 : t.length ≤ 4) :
    ∃ d' t' q, Pp.out (ba (shown d t)) = (some (d', t'), q) ∧ d'.map Dc.strip = d.map Dc.strip ∧ t'.map St.strips = t.map St.strips := out_cr he hl d t hd' ht hd1 ht0 ht1 (cr_shown d t hd' ht)
theorem shown_len {e : Nat} (he : e ≤ 3) (d : List Dc) (t : List (List St)) (hd' : ∀ x ∈ d, GdD x) (ht : ∀ b ∈ t, (∀ s ∈ b, Gd e s) ∧ St.sizes b ≤ 16) : (shown d t).length ≤ 22 * d.length + 1159 * t.length := by
  have h1 := dtexts_len d hd'
  have h2 := ttexts_len he t ht
  unfold shown
  rw [List.length_append]; omega
/-! ### Lines, and what stands between them -/
end Ps
end Go.Proofs.Ytdodpeneehbbkab

namespace Go.Proofs.Ytdodpeneehbbkab
open Go.RowKit
attribute [local go_sem] run_store_complex
def okAt (x y : Nat) : Prop := (FloatKind.f64.format.order x x == some Ordering.eq) = true ∧ (FloatKind.f64.format.order y y == some Ordering.eq) = true
inductive OkS : St → Prop
  | mk (x : St) (h : okAt x.re x.im) (hb : ∀ y ∈ x.body, OkS y) (hc : ∀ y ∈ x.els, OkS y) : OkS x
end Go.Proofs.Ytdodpeneehbbkab

namespace Go.Proofs.Ytdodpeneehbbkab
open Go.RowKit
set_option maxHeartbeats 400000 in
theorem within_any (n l h : Int) (w : World) :
    Calls Try.prog 38 #[.int .i64 n, .int .i64 l, .int .i64 h] w fun e w' => e = .returned (.int .i64 (max l (min h n))) ∧ w' = w := by
  go_enter Try.func38, Try.ntmps38
  go_wp2
  all_goals
    go_ret
    exact ⟨ret_int (by omega), rfl⟩
set_option maxHeartbeats 1000000 in
theorem spot_any (s : ByteArray) (a : Int) (w : World) (hs : s.size ≤ 1125899906842624) :
    Calls Try.prog 22 #[.string s, .int .i64 a] w fun e w' => e = .returned (.tuple #[.int .i64 ((Sp.spot (s.data.toList.take (clampAt a s.size))).1 : Nat), .int .i64 ((Sp.spot (s.data.toList.take (clampAt a s.size))).2 : Nat)]) ∧ w' = w := by
  obtain ⟨n, hn⟩ : ∃ n : Nat, clampAt a s.size = n := ⟨_, rfl⟩
  rw [hn]
  have hnl : n ≤ s.size := by unfold clampAt at hn; omega
  have hW : Hid (∀ w, Calls Try.prog 38 #[.int .i64 a, .int .i64 0, .int .i64 (s.size : Int)] w fun e w' => e = .returned (.int .i64 (n : Int)) ∧ w' = w) := by
    intro w
    have := within_any a 0 (s.size : Int) w
    rwa [show max 0 (min (s.size : Int) a) = (n : Int) by unfold clampAt at hn; omega] at this
  clear hn
  go_enter Try.func22, Try.ntmps22
  go_wp2_with (go_at_call 38; refine (hW.out _).mono ?_; rintro e w' ⟨rfl, rfl⟩)
  go_loop [6, 7, 8] (fun l c i => ∃ k : Nat, k ≤ n ∧ i = .int .i64 k ∧ l = .int .i64 ((Sp.spot (s.data.toList.take k)).1 : Nat) ∧ c = .int .i64 ((Sp.spot (s.data.toList.take k)).2 : Nat)) (fun _ _ i => n - (intOf i).toNat)
  case atStart => exact ⟨0, Nat.zero_le _, rfl, rfl, rfl⟩
  case round =>
    obtain ⟨k, hk, rfl, rfl, rfl⟩ := hrel
    by_cases hlt : k < n
    · have hl : k < s.data.toList.length := by simp; omega
      have hks : k < s.size := by omega
      have e2 : s.data.toList[k] = s[k] := by rw [Array.getElem_toList]; rfl
      have ES := Sp.spot_succ s.data.toList k hl
      rw [e2] at ES
      have b := Sp.spot_le (s.data.toList.take k)
      have b2 : (s.data.toList.take k).length ≤ k := List.length_take_le _ _
      generalize Sp.spot (s.data.toList.take k) = p at *
      obtain ⟨l, c⟩ := p
      simp only at b
      have HS : Hid (Sp.spot (s.data.toList.take (k + 1)) = Sp.on (l, c) s[k]) := ES
      have bl : (l : Int) ≤ 1125899906842626 := by omega
      have bc : (c : Int) ≤ 1125899906842626 := by omega
      clear ES e2 b b2 hl
      by_cases hc : s[k] = 10
      · have t : (((s[k]).toNat : Int) == 10) = true := by rw [hc]; rfl
        have HC : Hid (s[k] = 10) := hc
        clear hc
        go_wp2
        go_round
        case rel => exact ⟨k + 1, by omega, by go_num, by rw [HS.out]; simp [Sp.on, HC.out], by rw [HS.out]; simp [Sp.on, HC.out]⟩
        case measure => simp [intOf]; omega
      · have t : (((s[k]).toNat : Int) == 10) = false := by rw [beq_eq_false_iff_ne]; intro e; apply hc; apply UInt8.toNat_inj.1; show _ = 10; omega
        have HC : Hid (¬ s[k] = 10) := hc
        clear hc
        go_wp2
        go_round
        case rel => exact ⟨k + 1, by omega, by go_num, by rw [HS.out]; simp [Sp.on, HC.out], by rw [HS.out]; simp [Sp.on, HC.out]⟩
        case measure => simp [intOf]; omega
    · have hkn : k = n := by omega
      subst hkn
      go_wp2
      go_ret2
      exact ⟨rfl, rfl⟩
set_option maxHeartbeats 400000 in
theorem place_any (s : ByteArray) (a : Int) (w : World) (hs : s.size ≤ 1125899906842624) :
    Calls Try.prog 9 #[.string s, .int .i64 a] w fun e w' => e = .returned (.complex .f64 (lineW s (clampAt a s.size)) (colW s (clampAt a s.size))) ∧ w' = w := by
  have hS : Hid (∀ w, _) := fun w => spot_any s a w hs
  obtain ⟨k, hk⟩ : ∃ k : Nat, clampAt a s.size = k := ⟨_, rfl⟩
  rw [hk] at hS ⊢
  have hsp := Sp.spot_le (s.data.toList.take k)
  have hll : s.data.toList.length = s.size := by simp
  have hlen : (s.data.toList.take k).length ≤ s.size := by rw [List.length_take]; omega
  clear hll
  unfold lineW colW
  generalize Sp.spot (s.data.toList.take k) = p at *
  obtain ⟨l, c⟩ := p
  simp only at hsp
  have B1 : Hid (l < 9007199254740992) := by show l < _; omega
  have B2 : Hid (c < 9007199254740992) := by show c < _; omega
  clear hsp hlen hk
  go_enter Try.func9, Try.ntmps9
  go_wp2_with fail
  refine (hS.out _).mono ?_
  rintro e w1 ⟨rfl, rfl⟩
  go_wp2
  go_ret
  exact ⟨ret_cplx rfl rfl B1.out B2.out, rfl⟩
theorem place_in (s : ByteArray) (k : Nat) (hs : s.size ≤ 1125899906842624) (hk : k ≤ s.size) (w : World) :
    Calls Try.prog 9 #[.string s, .int .i64 (k : Int)] w fun e w' => e = .returned (.complex .f64 (lineW s k) (colW s k)) ∧ w' = w := by
  have := place_any s k w hs
  rwa [clamp_in k _ hk] at this
theorem cmp_eq (a b : Nat) : ((some (compare a b) : Option Ordering) == some .eq) = decide (a = b) := by
  rcases Nat.lt_trichotomy a b with h | h | h
  · rw [Nat.compare_eq_lt.2 h]; simp; omega
  · subst h; simp
  · rw [Nat.compare_eq_gt.2 h]; simp; omega
theorem lt53 (s : ByteArray) (k : Nat) (hs : s.size ≤ 1125899906842624) (hk : k ≤ s.size) : (Sp.spot (s.data.toList.take k)).1 < 2 ^ 53 ∧ (Sp.spot (s.data.toList.take k)).2 < 2 ^ 53 := by
  have hsp := Sp.spot_le (s.data.toList.take k)
  have hlen : (s.data.toList.take k).length ≤ k := List.length_take_le _ _
  omega
theorem rep_line (s : ByteArray) (k : Nat) (hs : s.size ≤ 1125899906842624) (hk : k ≤ s.size) : Fp.Rep (lineW s k) (Sp.spot (s.data.toList.take k)).1 := Fp.rep_rung _ (lt53 s k hs hk).1
theorem rep_col (s : ByteArray) (k : Nat) (hs : s.size ≤ 1125899906842624) (hk : k ≤ s.size) : Fp.Rep (colW s k) (Sp.spot (s.data.toList.take k)).2 := Fp.rep_rung _ (lt53 s k hs hk).2
theorem ord_line (s : ByteArray) (k : Nat) (hs : s.size ≤ 1125899906842624) (hk : k ≤ s.size) : (Ieee.double.order (lineW s k) (lineW s k) == some .eq) = true := by
  rw [Fp.order_rep (rep_line s k hs hk) (rep_line s k hs hk), cmp_eq]; simp
theorem ord_col (s : ByteArray) (k : Nat) (hs : s.size ≤ 1125899906842624) (hk : k ≤ s.size) : (Ieee.double.order (colW s k) (colW s k) == some .eq) = true := by
  rw [Fp.order_rep (rep_col s k hs hk) (rep_col s k hs hk), cmp_eq]; simp
end Go.Proofs.Ytdodpeneehbbkab
