
/- Plain regions and drawn ones walked in the order of the text by one class of worlds; structs loaded there at once. Nothing of the program's functions. -/
import Derived.Test.YtegkphbnedbgfaaBlk
import Derived.Test.YtegkphbnedbgfaaLater
namespace Go.Proofs.Ytegkphbnedbgfaa
open Go.RowKit

section
variable {P : Program} {ops : Array Oper} {Q : Exit → Act → World → Prop} {C : World → Prop}
theorem wpList_of_quiet {R : Act → Prop} (hQ : ∀ a w, C w → R a → Q .normal a w) : ∀ (rest : List Oper) (a : Act) (w : World), C w → wpQuiet P ops C R rest a → wpList P ops Q rest a w
  | [], a, w, hw, h => hQ a w hw h
  | o :: rest, a, w, hw, h => by
    unfold wpList
    unfold wpQuiet at h
    split at h
    · rename_i hwant
      rw [if_pos hwant]
      exact .inl (Oper.wp_of_quiet hw (fun a w' hc hk => wpList_of_quiet hQ rest a w' hc hk) h)
    · rename_i hwant
      rw [if_neg hwant]
      exact wpList_of_quiet hQ rest _ w hw h
/-- A plain region whose callees make memory but turn nothing that was there: as wp_region_later. -/
theorem wp_plain_later {id : Nat} {a : Act} {W w : World} {l : List Oper} (hw : Below W.heap.size W w)
    (h : wpQuiet P l.toArray (fun w' => ∃ x : Later W, w' = x.at_) (fun a' => ∀ w', (∃ x : Later W, w' = x.at_) → Q .normal a' w') l a) : (Code.region id l.toArray false).wp P Q a w :=
  wp_region_lit (wpList_of_quiet (fun _ w hc hr => hr w hc) l a w ⟨⟨w, hw⟩, rfl⟩ h)
end
/-- A struct is loaded, in a region that is walked in the order of the text. -/
theorem quiet_load {C : World → Prop} {a : Act} {o : Oper} {K : Act → Prop} (ty : TypeId) (x : Operand) (ho : o.op = .load ty x) (g p : Nat) (cs : List Value) (d : TypeDesc) (hx : a.eval x = .pointer (some ⟨g, p, none⟩)) (hc : ∀ w, C w → ∀ j v, cs[j]? = some v → w.cell? ⟨g, p + j, none⟩ = some v)
    (hu : Try.prog.underlying ty = some d) (hd : (match d with | .struct _ | .array _ _ => true | _ => false) = true) (hi : (Try.prog.info? ty).map (·.size) = some cs.length) (h : K (a.put o.dst (.agg cs.toArray))) : o.quiet Try.prog a C K :=
  ⟨_, fun w hw => by unfold Oper.quietAt; rw [load_run ho hx (hc w hw) hu hd hi rfl]; exact ⟨rfl, rfl⟩, h⟩
/-- Cells of a block, in each later world. -/
theorem later_cells {W : World} {g p : Nat} {cs : List Value} (h : ∀ j v, cs[j]? = some v → W.cell? ⟨g, p + j, none⟩ = some v) : ∀ w, (∃ x : Later W, w = x.at_) → ∀ j v, cs[j]? = some v → w.cell? ⟨g, p + j, none⟩ = some v := by
  rintro _ ⟨x, rfl⟩ j v hj
  exact later_cell (h j v hj) x
/-- A part of them. -/
theorem cells_part {W : World} {g p q n : Nat} {cs ds : List Value} (h : ∀ j v, cs[j]? = some v → W.cell? ⟨g, p + j, none⟩ = some v) (hp : p + n = q) (hd : ∀ j v, ds[j]? = some v → cs[n + j]? = some v) : ∀ j v, ds[j]? = some v → W.cell? ⟨g, q + j, none⟩ = some v := by
  intro j v hj
  have := h (n + j) v (hd j v hj)
  rw [← Nat.add_assoc, hp] at this
  exact this
end Go.Proofs.Ytegkphbnedbgfaa
