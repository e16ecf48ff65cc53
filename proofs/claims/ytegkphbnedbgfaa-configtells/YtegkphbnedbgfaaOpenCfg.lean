
/- An argument that is a config: its row of parents and its five numbers. -/
import Derived.Test.YtegkphbnedbgfaaCfgHand
import Derived.ChangeArms
import Derived.WideShapes
import Derived.ChangeOld
import Derived.ProofKit
namespace Go.Proofs.Ytegkphbnedbgfaa
open Go.ChangeShapes Go.WideShapes Go.ChangeAt Go.RowKit
set_option maxRecDepth 100000

theorem open_cfg {H : Type} {enc : TypeId × Value → H} {w : World} {base b0 : Nat} {held : Bool} {r : Reach} {v : Value} {d : DataW H} {p : List MemPlace}
    (hv : Value.okWide Try.prog w r b0 24 v) (h : DataW.Trod enc Try.prog w base (fun _ => true) held 24 v d p) :
    ∃ (A : Option Addr) (n c : Nat) (zs : List Int) (x : Cf), v = cfv A n c x ∧ IsRow .i64 w A n c zs := by
  obtain ⟨cs, rfl, -⟩ := okWide_struct Try.underlying24 hv
  obtain ⟨fuel, hf⟩ := h
  obtain ⟨xs, n, -, -, hl, hx, hg⟩ := DataW.trod_struct Try.underlying24 hf
  have hl6 : cs.toList.length = 6 := hl.trans (by kernel_rfl)
  have hx6 : xs.length = 6 := hx
  have g0 := hg 0 _ rfl
  have g1 := hg 1 _ rfl
  have g2 := hg 2 _ rfl
  have g3 := hg 3 _ rfl
  have g4 := hg 4 _ rfl
  have g5 := hg 5 _ rfl
  clear hg hl hx hf hv
  obtain ⟨l⟩ := cs
  match l, hl6, xs, hx6 with
  | [v0, v1, v2, v3, v4, v5], _, [y0, y1, y2, y3, y4, y5], _ =>
    obtain ⟨k1, e1, -, w1⟩ := DataW.trod_int Try.underlying3 (x := y1) g1
    obtain ⟨k2, e2, -, w2⟩ := DataW.trod_int Try.underlying3 (x := y2) g2
    obtain ⟨k3, e3, -, w3⟩ := DataW.trod_int Try.underlying3 (x := y3) g3
    obtain ⟨k4, e4, -, w4⟩ := DataW.trod_int Try.underlying3 (x := y4) g4
    obtain ⟨k5, e5, -, w5⟩ := DataW.trod_int Try.underlying3 (x := y5) g5
    have j1 : v1 = .int .i64 k1 := List.cons.inj e1 |>.1
    have j2 : v2 = .int .i64 k2 := List.cons.inj e2 |>.1
    have j3 : v3 = .int .i64 k3 := List.cons.inj e3 |>.1
    have j4 : v4 = .int .i64 k4 := List.cons.inj e4 |>.1
    have j5 : v5 = .int .i64 k5 := List.cons.inj e5 |>.1
    subst j1; subst j2; subst j3; subst j4; subst j5
    rcases open_ints Try.underlying22 Try.underlying3 (by kernel_rfl) g0 with ⟨hcs, _⟩ | ⟨x, l, c, zs, hcs, _, hl, hm, hz, _, hcell, hwz⟩
    · have j0 : v0 = .slice none 0 0 := List.cons.inj hcs |>.1
      subst j0
      exact ⟨none, 0, 0, [], ⟨[], k1, k2, k3, k4, k5⟩, rfl, .inl ⟨rfl, rfl, rfl, rfl⟩⟩
    · have j0 := List.cons.inj hcs |>.1
      subst j0
      exact ⟨_, _, _, zs, ⟨[], k1, k2, k3, k4, k5⟩, rfl, .inr ⟨_, rfl, hl, hm, by simpa using hz, hcell, hwz⟩⟩
end Go.Proofs.Ytegkphbnedbgfaa
