
/- A region that draws its order, whose reads hold in every later world and whose calls come one behind the other, each making memory of which no one knows where: one walk. Nothing of the program. -/
import Derived.Test.YtfbfbajccphkoaaGreatLater
import Derived.Deep.RegionHeld
namespace Go.Proofs.YtfbfbajccphkoaaGreat
open Go.RowKit

section
variable {P : Program} {md : Region.Mode} {ops : Array Oper} {Q : Exit → Act → World → Prop}

abbrev since (w : World) : World → Prop := fun x => Below w.heap.size w x

theorem any_strong {S S' : World → Prop} (h : ∀ w, S' w → S w) : ∀ (fuel : Nat) (listed : Array Bool) (a : Act) (w : World), wpAnyH P md ops Q S' fuel listed a w → wpAnyH P md ops Q S fuel listed a w
  | 0, _, _, _, hw => hw
  | fuel + 1, _, _, _, hw => ⟨hw.1, fun i hi => wpOp_mono (fun a' w' h' => ⟨h w' h'.1, any_strong h fuel _ a' w' h'.2⟩) (hw.2 i hi)⟩

/-- The beginning. -/
theorem any_begin {id : Nat} {a : Act} {w : World} (hm : P.follows .mixedOrders = true) (h : wpAnyH P .any ops Q (since w.drew) ops.size (Array.replicate ops.size false) a w.drew) : (Code.region id ops true).wp P Q a w :=
  wp_region_held hm h
/-- A read that may come up is taken first: in every later world it yields the same. -/
theorem any_read {i : Nat} {o : Oper} {v : Value} {fuel : Nat} {listed : Array Bool} {a : Act} {w : World} (hi : ops[i]? = some o) (hs : Region.noSelect ops = true) (hf : Region.free md ops listed i = true)
    (hr : (Region.ready md ops listed).contains i = true) (hQ : ∀ c a w, Q (.panic c) (a.put o.dst v) w → Q (.panic c) a w) (hw : Region.wanted o (yielded ops a.tmps) = true)
    (hv : ∀ x : Later w, (execOp a.eval o).run P x.at_ = .ok (.value v) x.at_) (h : wpAnyH P md ops Q (since w) fuel (listed.setIfInBounds i true) (a.put o.dst v) w) : wpAnyH P md ops Q (since w) (fuel + 1) listed a w :=
  wpAnyH_take hi hs hf hr hQ (Or.inl ⟨hw, fun x hx => hv ⟨x, hx⟩⟩) (Below.refl _ _) h
/-- An operation that its guard forbids. -/
theorem any_skip {i : Nat} {o : Oper} {fuel : Nat} {listed : Array Bool} {a : Act} {w : World} (hi : ops[i]? = some o) (hs : Region.noSelect ops = true) (hf : Region.free md ops listed i = true)
    (hr : (Region.ready md ops listed).contains i = true) (hQ : ∀ c a w, Q (.panic c) (a.put o.dst undef) w → Q (.panic c) a w) (hw : Region.wanted o (yielded ops a.tmps) = false)
    (h : wpAnyH P md ops Q (since w) fuel (listed.setIfInBounds i true) (a.put o.dst undef) w) : wpAnyH P md ops Q (since w) (fuel + 1) listed a w :=
  wpAnyH_take hi hs hf hr hQ (Or.inr ⟨hw, rfl⟩) (Below.refl _ _) h
/-- The one call that may come up. -/
theorem any_call {i : Nat} {o : Oper} {fuel : Nat} {listed : Array Bool} {a : Act} {w : World} (hi : ops[i]? = some o) (hr : Region.ready md ops listed = [i]) (hw : Region.wanted o (yielded ops a.tmps) = true)
    (h : ∀ K' : Act → World → Prop, Shut (∀ a' w', Below w.heap.size w w' → wpAnyH P md ops Q (since w') fuel (listed.setIfInBounds i true) a' w' → K' a' w') → Oper.wp P o a w K' Q) : wpAnyH P md ops Q (since w) (fuel + 1) listed a w := by
  refine wpAnyH_ready hr (by simp) (AllReadyH.cons hi (fun K' hK => ?_) AllReadyH.nil)
  rw [if_pos hw]
  refine h K' (fun a' w' hb hn => hK.out a' w' hb fun _ => ?_)
  exact any_strong (fun x hx => hb.trans ⟨hx.os, hx.tape, hx.output, hx.size, fun k hk => hx.block k (Nat.lt_of_lt_of_le hk hb.size)⟩) _ _ _ _ hn
end
end Go.Proofs.YtfbfbajccphkoaaGreat
