
/- WireKnown: the walk. -/
import Derived.Test.YtgenmebmdpnjhaaWireRead1
import Derived.Laws.IdiomStrings
namespace Go.Proofs.Ytgenmebmdpnjhaa
open Go.RowKit
set_option linter.unusedVariables false
set_option maxRecDepth 100000

theorem rd_new (w : World) (l : List Nat) : Rd (w.alloc (.cells (l.map bcell).toArray 5)) (some ⟨w.heap.size, 0, none⟩) l.length l.length l := by
  refine ⟨rfl, .inr ⟨w.heap.size, 0, rfl, fun j u hj => ?_⟩⟩
  rw [World.cell?_alloc_new, Nat.zero_add]
  simp [hj]
theorem ownb_rd {B n c : Nat} {w : World} {A : Option Addr} {l : List Nat} (h : OwnW 1 B 5 w (.slice A n c) l.length (l.map bcell)) : n = l.length ∧ Rd w A l.length c l := by
  obtain ⟨A', c', e, -, -, hr, -, -, h0⟩ := h.reads
  cases e
  refine ⟨rfl, rfl, ?_⟩
  rcases hr.2 with h1 | ⟨g, o, rfl, hc⟩
  · have hl : l = [] := by simpa using h1
    subst hl
    rcases A with - | z
    · exact .inl ⟨rfl, rfl, (h0 rfl).2⟩
    · rcases h.1.2 with ⟨e, -⟩ | ⟨g, cap, cur, e, -⟩
      · cases e
      · cases e
        exact .inr ⟨g, 0, rfl, fun j u hj => by simp at hj⟩
  · exact .inr ⟨g, o, rfl, fun j u hj => hc j _ (by rw [List.getElem?_map, hj]; rfl)⟩
theorem conv_bytes {w : World} {A : Option Addr} {n c : Nat} {l : List Nat} (h : Rd w A n c l) : (convert 37 9 (.slice A n c)).run Try.prog w = .ok (.string (tstr l)) w := by
  obtain ⟨rfl, h⟩ := h
  rcases h with ⟨rfl, h0, rfl⟩ | ⟨rb, ro, rfl, hc⟩
  · have e : l = [] := List.eq_nil_of_length_eq_zero h0
    subst e
    exact run_convert_bytes_nil w 37 5 Try.underlying37 Try.underlying5 0 0 9 Try.underlying9
  · refine run_convert_bytes_arg w 37 5 Try.underlying37 Try.underlying5 rb ro l.length _ (l.map (fun b : Nat => (b : Int))) (by simp) (fun i hi => ?_) 9 Try.underlying9
    rw [hc i _ (List.getElem?_eq_getElem hi)]
    simp [hi]
/-- A Read of the examples. -/
def KR (F : Fr) (ans : Int) (w : World) (e : Ending) (w' : World) : Prop := e = .returned (.tuple #[frv F, .int .i64 ans]) ∧ Below w.heap.size w w'
theorem kr_of {w : World} {l : List Nat} {ans : Int} {f : Fr} (F : Fr) (h : Calls Try.prog 4 #[.slice (some ⟨w.heap.size, 0, none⟩) l.length l.length] (w.alloc (.cells (l.map bcell).toArray 5)) (ReadPost ans f (w.alloc (.cells (l.map bcell).toArray 5)))) (hF : (if ans = 0 then f else stopFr 0 0) = F) :
    Calls Try.prog 4 #[.slice (some ⟨w.heap.size, 0, none⟩) l.length l.length] (w.alloc (.cells (l.map bcell).toArray 5)) (KR F ans w) := by
  subst hF
  exact h.mono fun e w' ⟨he, hb⟩ => ⟨he, below_then (one_new _ _) hb⟩
theorem kread_2 (w : World) : Calls Try.prog 4 #[.slice (some ⟨w.heap.size, 0, none⟩) 1 1] (w.alloc (.cells #[.int .u8 2] 5)) (KR (stopFr 0 0) 2 w) :=
  kr_of (l := [2]) (stopFr 0 0) (wread_of (err := 2) (t := 1 + 1) (f := stopFr 2 (0 : Nat)) (ans := 2) (rd_new w [2]) (Nat.le_refl _) (by decide) (fun ad e => by cases e; simp) (by decide) (fun h => absurd h (by decide)) (fun w4 g hp hap => takeframe_stop (r := [2]) (r1 := []) (er := 2) (ep := 0) (t := 1) (t1 := 1) hp hap (by decide) (by decide) (by decide) rfl (by decide) (by decide) (by decide))) rfl
theorem kread_9 (w : World) : Calls Try.prog 4 #[.slice (some ⟨w.heap.size, 0, none⟩) 1 1] (w.alloc (.cells #[.int .u8 9] 5)) (KR (stopFr 0 0) 3 w) :=
  kr_of (l := [9]) (stopFr 0 0) (wread_of (err := 3) (t := 0) (f := stopFr 0 0) (ans := 3) (rd_new w [9]) (Nat.le_refl _) (by decide) (fun ad e => by cases e; simp) (by decide) (fun h => absurd h (by decide)) (fun w4 g hp hap => takeframe_none (r := [9]) hp (by decide) (by decide))) rfl
theorem kread_234 (w : World) : Calls Try.prog 4 #[.slice (some ⟨w.heap.size, 0, none⟩) 3 3] (w.alloc (.cells #[.int .u8 2, .int .u8 3, .int .u8 4] 5)) (KR (stopFr 0 0) 3 w) :=
  kr_of (l := [2, 3, 4]) (stopFr 0 0) (wread_of (err := 0) (t := 1 + 1) (f := stopFr 2 (3 : Nat)) (ans := 3) (rd_new w [2, 3, 4]) (Nat.le_refl _) (by decide) (fun ad e => by cases e; simp) (by decide) (fun h => absurd h (by decide)) (fun w4 g hp hap => takeframe_stop (r := [2, 3, 4]) (r1 := [3, 4]) (er := 0) (ep := 3) (t := 1) (t1 := 1) hp hap (by decide) (by decide) (by decide) rfl (by decide) (by decide) (by decide))) rfl
theorem kread_23 (w : World) : Calls Try.prog 4 #[.slice (some ⟨w.heap.size, 0, none⟩) 2 2] (w.alloc (.cells #[.int .u8 2, .int .u8 3] 5)) (KR (stopFr 2 3) 0 w) :=
  kr_of (l := [2, 3]) (stopFr 2 3) (wread_of (err := 0) (t := 1 + 1) (f := stopFr 2 (3 : Nat)) (ans := 0) (rd_new w [2, 3]) (Nat.le_refl _) (by decide) (fun ad e => by cases e; simp) (by decide) (fun _ => rfl) (fun w4 g hp hap => takeframe_stop (r := [2, 3]) (r1 := [3]) (er := 0) (ep := 3) (t := 1) (t1 := 1) hp hap (by decide) (by decide) (by decide) rfl (by decide) (by decide) (by decide))) rfl
theorem kread_nil (w : World) : Calls Try.prog 4 #[.slice none 0 0] w (KR (stopFr 0 0) 2 w) :=
  (wread_of (l := []) (err := 2) (t := 0) (f := stopFr 0 0) (ans := 2) (rd_nil w) (Nat.le_refl _) (by decide) (fun ad e => by cases e) (by decide) (fun h => absurd h (by decide)) (fun w4 g hp hap => takeframe_short (r := []) hp hap (by decide))).mono fun e w' ⟨he, hb⟩ => ⟨he, hb⟩
end Go.Proofs.Ytgenmebmdpnjhaa
