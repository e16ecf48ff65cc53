
/- An argument that is a value of package api: its five parts. -/
import Derived.Test.YtfbfbajccphkoaaGreatVal
import Derived.ChangeArms
import Derived.WideShapes
import Derived.ChangeOld
import Derived.ProofKit
namespace Go.Proofs.YtfbfbajccphkoaaGreat
open Go.ChangeShapes Go.WideShapes Go.ChangeAt Go.RowKit
set_option maxRecDepth 100000

/-- The parts of a value that came in. -/
structure IsVal (k n : Int) (x : Nat) (s : ByteArray) : Prop where
  kind : (Lit.int .i64 k).wf = true
  num : (Lit.int .i64 n).wf = true
  flo : (Lit.float .f64 x).wf = true
  txt : s.size ≤ maxLen

theorem trod_flo {H : Type} {enc : TypeId × Value → H} {w : World} {base fuel : Nat} {spare : Nat → Bool} {held : Bool} {cs : List Value} {x : DataW H × List MemPlace}
    (h : DataW.trod enc Tryz.prog w base spare held fuel 43 cs = some x) : ∃ f : Nat, cs = [.float .f64 f] ∧ (Lit.float .f64 f).wf = true := by
  cases fuel with
  | zero => simp [DataW.trod] at h
  | succ n =>
    unfold DataW.trod at h
    rw [Tryz.underlying43] at h
    split at h <;> simp_all

theorem open_val {H : Type} {enc : TypeId × Value → H} {w : World} {base b0 : Nat} {spare : Nat → Bool} {held : Bool} {r : Reach} {v : Value} {d : DataW H} {p : List MemPlace}
    (hv : Value.okWide Tryz.prog w r b0 45 v) (h : DataW.Trod enc Tryz.prog w base spare held 45 v d p) :
    ∃ (k n : Int) (x : Nat) (s : ByteArray) (b : Bool), v = vl k n x s b ∧ IsVal k n x s := by
  obtain ⟨cs, rfl, -⟩ := okWide_struct Tryz.underlying45 hv
  obtain ⟨fuel, hf⟩ := h
  obtain ⟨xs, n, -, -, hl, hx, hg⟩ := DataW.trod_struct Tryz.underlying45 hf
  have hl5 : cs.toList.length = 5 := hl.trans (by kernel_rfl)
  have hx5 : xs.length = 5 := hx
  have g0 := hg 0 _ rfl
  have g1 := hg 1 _ rfl
  have g2 := hg 2 _ rfl
  have g3 := hg 3 _ rfl
  have g4 := hg 4 _ rfl
  clear hg hl hx hf hv
  obtain ⟨l⟩ := cs
  match l, hl5, xs, hx5 with
  | [v0, v1, v2, v3, v4], _, [y0, y1, y2, y3, y4], _ =>
    obtain ⟨k, e0, -, w0⟩ := DataW.trod_int Tryz.underlying3 (x := y0) g0
    obtain ⟨m, e1, -, w1⟩ := DataW.trod_int Tryz.underlying2 (x := y1) g1
    obtain ⟨f, e2, w2⟩ := trod_flo (x := y2) g2
    obtain ⟨s, e3, -, w3⟩ := DataW.trod_string Tryz.underlying9 (x := y3) g3
    obtain ⟨b, e4, -⟩ := DataW.trod_bool Tryz.underlying4 (x := y4) g4
    have j0 : v0 = .int .i64 k := List.cons.inj e0 |>.1
    have j1 : v1 = .int .i64 m := List.cons.inj e1 |>.1
    have j2 : v2 = .float .f64 f := List.cons.inj e2 |>.1
    have j3 : v3 = .string s := List.cons.inj e3 |>.1
    have j4 : v4 = .bool b := List.cons.inj e4 |>.1
    subst j0; subst j1; subst j2; subst j3; subst j4
    exact ⟨k, m, f, s, b, rfl, w0, w1, w2, w3⟩
end Go.Proofs.YtfbfbajccphkoaaGreat
