/- The little statement 'known' answers true. -/
import Derived.Test.YtbjdnniklcmcbaaDoorLr
namespace Go.Proofs.YtbjdnniklcmcbaaDoor
open Go.RowKit
namespace Px
def xK : Ex := binE 6 (binE 4 (nameE [120]) (numE 1)) (minusE (numE 2))
def sK : List UInt8 := [40, 120, 43, 49, 41, 42, 40, 45, 40, 50, 41, 41]
def tK : List Lx.Tk := [⟨3, 0, [40], 0⟩, ⟨1, 1, [120], 0⟩, ⟨3, 2, [43], 0⟩, ⟨2, 3, [49], 1⟩, ⟨3, 4, [41], 0⟩, ⟨3, 5, [42], 0⟩, ⟨3, 6, [40], 0⟩, ⟨3, 7, [45], 0⟩, ⟨3, 8, [40], 0⟩, ⟨2, 9, [50], 2⟩, ⟨3, 10, [41], 0⟩, ⟨3, 11, [41], 0⟩, ⟨4, 12, [], 0⟩]
theorem toksK : Lx.toks sK = .good tK := by decide +kernel
theorem readK : read (tK.map Lx.Tk.core) = (some xK, [(4, [], 0)]) := by kernel_rfl
theorem rdK : rd sK = (some xK, 12, 13) := rd_good toksK readK
theorem textK : T xK 1 = [40, 120, 32, 43, 32, 49, 41, 32, 42, 32, 45, 50] := by kernel_rfl
theorem wfK : Wf xK := .bin 6 _ _ (by decide) (by decide) (.bin 4 _ _ (by decide) (by decide) (.name _ (by decide)) (.num 1 (by decide))) (.minus _ (.num 2 (by decide)))
theorem depK : D xK 1 ≤ 8 := by decide +kernel
theorem printK : print xK = [40, 120, 32, 43, 32, 49, 41, 32, 42, 32, 45, 50] := by
  rw [(written wfK depK (by rw [textK]; decide)).2.1, textK]
end Px
attribute [local go_sem] run_store_complex

set_option maxRecDepth 100000 in
set_option maxHeartbeats 1000000 in
theorem known_any (w : World) (hE : Env w) : Calls Tryd.prog 9 #[] w fun e w' => e = .returned (.bool true) ∧ Kept w w' := by
  have HR : Hid (Calls Tryd.prog 7 #[.string ⟨#[40, 120, 43, 49, 41, 42, 40, 45, 40, 50, 41, 41]⟩] w fun e w' => GotL w (some Px.xK, 12, 13) e w') := lread_any _ (by decide) w hE _ Px.rdK
  have HE : Hid (Env w) := hE
  clear hE
  go_enter Tryd.func9, Tryd.ntmps9
  go_wp2_with fail
  refine HR.out.mono ?_
  rintro e w1 ⟨x, b, p, n, a, l, q, rfl, hx, hb, hp, hn, hT, hK⟩
  subst hb hp hn
  have HK : Hid (Kept w w1) := hK
  have hx' : x = Px.xK := hx
  have HT : Hid (ExsIn w1 w.heap.size w1.heap.size x.of (.slice a l q)) := hT
  have hfit : x.fit := by rw [hx']; exact Px.wfK.fit
  have hsz : 24 * x.size ≤ 1000000000000 := by rw [hx']; decide +kernel
  have HP : Hid (∀ W, Kept w1 W → Calls Tryd.prog 8 #[.agg #[.int .i64 x.kind, .int .i64 x.n, .string x.name, .slice a l q]] W fun e w' => e = .returned (.string ⟨#[40, 120, 32, 43, 32, 49, 41, 32, 42, 32, 45, 50]⟩) ∧ Kept W w') := fun W hW => by
    have := print_any x W _ (HT.out.up (Nat.le_refl _) hW) hfit hsz ((HE.out.kept HK.out).kept hW)
    rw [hx', Px.printK] at this
    rw [hx']
    exact this
  have HG : Hid (∀ W, Kept w1 W → Calls Tryd.prog 10 #[.agg #[.int .i64 x.kind, .int .i64 x.n, .string x.name, .slice a l q]] W fun e w' => e = .returned (.bool true) ∧ Kept W w') := fun W hW =>
    right_any x W _ (HT.out.up (Nat.le_refl _) hW) hfit hsz ((HE.out.kept HK.out).kept hW) true (by rw [hx', Px.printK]; rfl)
  clear hx hT hK hfit hsz hx'
  go_wp2_with fail
  refine (HP.out _ ((Kept.refl _).al _)).mono ?_
  rintro e w2 ⟨rfl, k2⟩
  have K2 : Hid (Kept w1 w2) := ((Kept.refl _).al _).then k2
  obtain ⟨c0, c1, c2, c3, cf⟩ := (Bx.new w1 x.kind x.n x.name (.slice a l q)).kept k2
  have hw2 : w1.heap.size < w2.heap.size := block_lt_of_cell c0
  clear k2
  go_wp2_with fail
  refine (HG.out _ K2.out).mono ?_
  rintro e w3 ⟨rfl, k3⟩
  have K3 : Hid (Kept w w3) := (HK.out.then K2.out).then k3
  clear k3
  go_wp2_with fail
  go_ret
  exact ⟨rfl, K3.out⟩
#print axioms known_any
end Go.Proofs.YtbjdnniklcmcbaaDoor
