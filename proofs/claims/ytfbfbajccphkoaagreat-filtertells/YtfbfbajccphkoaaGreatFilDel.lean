
/- Reduce's closure, slices.IndexFunc and slices.DeleteFunc of it. -/
import Derived.Test.YtfbfbajccphkoaaGreatFilRow
namespace Go.Proofs.YtfbfbajccphkoaaGreat
open Go.RowKit
set_option linter.unusedVariables false

theorem getrow {w : World} {g : Nat} {cs : List Value} {t : TypeId} {fr : Nat × Nat} {j : Nat} {v : Value} (hg : w.heap[g]? = some (.cells cs.toArray t fr)) (h : cs[j]? = some v) : w.cell? ⟨g, j, none⟩ = some v := by
  rw [cell_of_row _ _ _ _ _ _ hg]; simpa using h
/-- What Reduce's closure stands on: the filter f in the box q, those of L; all were there in w0. -/
structure RedEnv (w0 wr : World) (q : Nat) (f : Ft) (L : List Ft) : Prop where
  isf : IsFt w0 f
  isl : ∀ g, g ∈ L → IsFt w0 g
  below : Below w0.heap.size w0 wr
  box : wr.heap[q]? = some (.cells #[f.v] 22 (0, 0))
  hq : w0.heap.size ≤ q
theorem RedEnv.later {w0 wr wx : World} {q : Nat} {f : Ft} {L : List Ft} (h : RedEnv w0 wr q f L) (k : Below wr.heap.size wr wx) : RedEnv w0 wx q f L :=
  ⟨h.isf, h.isl, below_then h.below k, below_row k h.box, h.hq⟩
theorem RedEnv.turn {w0 wr wx : World} {q g : Nat} {f : Ft} {L : List Ft} (h : RedEnv w0 wr q f L) (k : Kept (· = g) wr wx) (ne : q ≠ g) (hg : w0.heap.size ≤ g) : RedEnv w0 wx q f L :=
  ⟨h.isf, h.isl, h.below.trans (k.below h.below.size (by intro i hi e; omega)), k.row h.box ne, h.hq⟩

theorem red_any {w0 w : World} {q : Nat} {f g : Ft} {L : List Ft} (h : RedEnv w0 w q f L) (hg : g ∈ L) :
    Calls Tryz.prog 46 #[.slice g.A g.l.length g.c, .pointer (some ⟨q, 0, none⟩)] w fun e w' => e = .returned (.bool (Fi.covers f.l g.l)) ∧ Below w.heap.size w w' := by
  have c0 : w.cell? ⟨q, 0, none⟩ = some (.slice f.A f.l.length f.c) := cell_of_row _ _ 0 _ _ _ h.box
  have HF := Lib.hid (h.isf.later h.below).ps
  have HG := Lib.hid ((h.isl g hg).later h.below).ps
  clear h hg
  go_enter Tryz.func46, Tryz.ntmps46
  go_wp2_with fail
  refine (covers_any HF.out HG.out).mono ?_
  rintro e w2 ⟨rfl, hb⟩
  have HB := Lib.hid hb
  clear hb
  go_wp2_with fail
  go_ret
  exact ⟨rfl, HB.out⟩
namespace Fi
/-- Does f not cover it? -/
def stays (f : Ft) (g : Ft) : Bool := !covers f.l g.l
theorem all_take {α : Type} {l : List α} {p : α → Bool} {k : Nat} {a : α} (h : l[k]? = some a) (hp : (l.take k).all p = true) (ha : p a = true) : (l.take (k + 1)).all p = true := by
  rw [List.take_add_one, List.all_append, hp, h]; simp [ha]
theorem filter_all {α : Type} {l : List α} {p : α → Bool} (h : l.all p = true) : l.filter p = l := by
  rw [List.filter_eq_self]; exact fun a ha => (List.all_eq_true.1 h) a ha
theorem filter_next {α : Type} {l : List α} {p : α → Bool} {k : Nat} {a : α} (h : l[k]? = some a) : (l.take (k + 1)).filter p = (l.take k).filter p ++ (if p a then [a] else []) := by
  rw [List.take_add_one, List.filter_append, h]
  cases hp : p a <;> simp [hp]
end Fi
/-- Where the first is that f covers. -/
def FirstPost (f : Ft) (L : List Ft) (w : World) (e : Ending) (w' : World) : Prop :=
  ((e = .returned (.int .i64 (-1)) ∧ L.all (Fi.stays f) = true) ∨ ∃ k g, e = .returned (.int .i64 ((k : Nat) : Int)) ∧ k < L.length ∧ L[k]? = some g ∧ Fi.stays f g = false ∧ (L.take k).all (Fi.stays f) = true) ∧ Below w.heap.size w w'

set_option maxRecDepth 100000 in
set_option maxHeartbeats 8000000 in
theorem indexred_any {w0 w : World} {q : Nat} {f : Ft} {L : List Ft} {A : Option Addr} {n c : Nat} (h : RedEnv w0 w q f L) (hr : Fs w A n L) :
    Calls Tryz.prog 73 #[.slice A n c, .func (.func 46) #[] #[.pointer (some ⟨q, 0, none⟩)]] w (FirstPost f L w) := by
  obtain rfl := hr.len.symm
  have hn := hr.few
  have HA := Lib.hid hr
  have HE := Lib.hid h
  clear h hr
  go_enter Tryz.func73, Tryz.ntmps73
  go_wp2_with fail
  go_loopw [8] (fun ii wr => ∃ k : Nat, k ≤ L.length ∧ ii = .int .i64 (k : Int) ∧ (L.take k).all (Fi.stays f) = true ∧ Below w.heap.size w wr) (fun ii _ => L.length - (intOf ii).toNat)
  case atStart => exact ⟨0, by omega, rfl, rfl, Below.refl _ _⟩
  case round =>
    obtain ⟨k, hk, rfl, hl, hB⟩ := hrel
    have HL := Lib.hid hl
    have HB := Lib.hid hB
    clear hl hB
    by_cases hlt : k < L.length
    · obtain ⟨g, o, y, rfl, hf, hi, hc⟩ := HA.out.cells HB.out hlt
      have HY := Lib.hid hf
      clear hf hi
      go_wp2_with fail
      refine (red_any (HE.out.later HB.out) (List.mem_of_getElem? HY.out)).mono ?_
      rintro e w2 ⟨rfl, hb⟩
      have HB2 := Lib.hid (below_then HB.out hb)
      clear hb hc
      cases hr : Fi.covers f.l y.l
      · have HM2 := Lib.hid (Fi.all_take HY.out HL.out (show Fi.stays f y = true by unfold Fi.stays; rw [hr]; rfl))
        go_wp2_with fail
        exact ⟨⟨k + 1, by omega, rfl, HM2.out, HB2.out⟩, by simp [intOf]; omega⟩
      · go_wp2_with fail
        go_ret
        exact ⟨.inr ⟨k, y, rfl, hlt, HY.out, by unfold Fi.stays; rw [hr]; rfl, HL.out⟩, HB2.out⟩
    · go_wp2_with fail
      go_ret
      exact ⟨.inl ⟨rfl, by have := HL.out; rw [List.take_of_length_le (by omega)] at this; exact this⟩, HB.out⟩

theorem run_clear_row {w : World} {g i n c : Nat} {cur : List Value} (hg : w.heap[g]? = some (.cells cur.toArray 22 (0, 0))) (hn : 0 < n) (hl : i + n ≤ cur.length) (ty : TypeId) :
    (Builtin.clear_ #[28] ty #[.slice (some ⟨g, i, none⟩) n c]).run Tryz.prog w = .ok (.tuple #[]) (w.setRow g (part cur i (List.replicate n (.slice none 0 0))).toArray) := by
  obtain ⟨nfo, hi, hz, -, -⟩ := info_at fil_info
  have hs := run_storeCells_at Tryz.prog g i 22 (List.replicate n (.slice none 0 0)) 0 cur.toArray w hg (by simp; omega) (by intro u hu; rw [List.eq_of_mem_replicate hu]; rfl)
  have hzc : (Builtin.zeroCells (Value.slice none 0 0).cells n).toList = List.replicate n (.slice none 0 0) := by
    simp only [Builtin.zeroCells, Value.cells]
    apply List.ext_getElem?
    intro k
    by_cases hk : k < n <;> simp [hk, Nat.mod_one]
  cases n with
  | zero => omega
  | succ m =>
    simp only [Nat.add_zero] at hs
    simp [Builtin.clear_, run_underlying Tryz.underlying28, zeroValue, typeInfo, hi, hz, hzc, hs, part]
/-- DeleteFunc on its way: of the first j those that stay are K, in the row's front. -/
structure DelSt (w wr : World) (g : Nat) (f : Ft) (L : List Ft) (tail : List Value) (j : Nat) (K : List Ft) : Prop where
  keeps : (L.take j).filter (Fi.stays f) = K
  row : ∃ ys : List Value, ys.length = j - K.length ∧ wr.heap[g]? = some (.cells (fflat K ++ (ys ++ (fflat (L.drop j) ++ tail))).toArray 22 (0, 0))
  less : K.length < j
  few : j ≤ L.length
  kept : Kept (· = g) w wr
theorem DelSt.next {w wr wx : World} {g j : Nat} {f : Ft} {L K : List Ft} {tail : List Value} (h : DelSt w wr g f L tail j K) (k : Below wr.heap.size wr wx) : DelSt w wx g f L tail j K := by
  obtain ⟨ys, hy, hr⟩ := h.row
  exact ⟨h.keeps, ⟨ys, hy, below_row k hr⟩, h.less, h.few, h.kept.then (Kept.ofBelow k)⟩
theorem fflat_len (L : List Ft) : (fflat L).length = L.length := by rw [flat_len _ Ft.cells_len, Nat.mul_one]
theorem fflat_add (L M : List Ft) : fflat (L ++ M) = fflat L ++ fflat M := List.flatMap_append
theorem fflat_drop {L : List Ft} {j : Nat} {y : Ft} (h : L[j]? = some y) : fflat (L.drop j) = y.v :: fflat (L.drop (j + 1)) := by
  rw [drop_at h]; rfl
theorem DelSt.at {w wr : World} {g j : Nat} {f y : Ft} {L K : List Ft} {tail : List Value} (h : DelSt w wr g f L tail j K) (hj : L[j]? = some y) : wr.cell? ⟨g, j, none⟩ = some y.v := by
  obtain ⟨ys, hy, hr⟩ := h.row
  have := h.less
  refine getrow hr ?_
  rw [List.getElem?_append_right (by rw [fflat_len]; omega), List.getElem?_append_right (by rw [fflat_len]; omega), fflat_len, hy, show j - K.length - (j - K.length) = 0 by omega, fflat_drop hj]
  rfl
theorem DelSt.pass {w wr : World} {g j : Nat} {f y : Ft} {L K : List Ft} {tail : List Value} (h : DelSt w wr g f L tail j K) (hj : L[j]? = some y) (hs : Fi.stays f y = false) : DelSt w wr g f L tail (j + 1) K := by
  obtain ⟨ys, hy, hr⟩ := h.row
  have hl := h.less
  have hjl : j < L.length := (List.getElem?_eq_some_iff.1 hj).1
  refine ⟨by rw [Fi.filter_next hj, h.keeps, hs]; simp, ⟨ys ++ [y.v], by simp; omega, ?_⟩, by omega, by omega, h.kept⟩
  rw [hr, fflat_drop hj]
  simp
theorem DelSt.put {w wr : World} {g j : Nat} {f y : Ft} {L K : List Ft} {tail : List Value} (h : DelSt w wr g f L tail j K) (hj : L[j]? = some y) (hs : Fi.stays f y = true) : DelSt w (wr.setCell ⟨g, K.length, none⟩ y.v) g f L tail (j + 1) (K ++ [y]) := by
  obtain ⟨ys, hy, hr⟩ := h.row
  have hl := h.less
  have hjl : j < L.length := (List.getElem?_eq_some_iff.1 hj).1
  refine ⟨by rw [Fi.filter_next hj, h.keeps, hs]; simp, ⟨ys.drop 1 ++ [y.v], by simp; omega, ?_⟩, by simp; omega, by omega, h.kept.then (Kept.setCell (S := (· = g)) _ _ rfl _)⟩
  have := heap_setCell_same wr g K.length _ _ y.v hr
  rw [this, fflat_drop hj, fflat_add]
  match ys, hy with
  | [], hy => simp at hy; omega
  | z :: ys, hy =>
    have e : (fflat K ++ (z :: ys ++ (y.v :: fflat (L.drop (j + 1)) ++ tail))).set K.length y.v = fflat K ++ fflat [y] ++ ((z :: ys).drop 1 ++ [y.v] ++ (fflat (L.drop (j + 1)) ++ tail)) := by
      rw [List.set_append_right _ _ (by rw [fflat_len]; omega), fflat_len, Nat.sub_self]
      simp [fflat, Ft.cells]
    rw [List.setIfInBounds_toArray, e]
theorem DelSt.cell {w wr : World} {g j : Nat} {f : Ft} {L K : List Ft} {tail : List Value} (h : DelSt w wr g f L tail j K) : ∃ u, wr.cell? ⟨g, K.length, none⟩ = some u ∧ wr.frozen? ⟨g, K.length, none⟩ = false := by
  obtain ⟨ys, hy, hr⟩ := h.row
  have hl := h.less
  match ys, hy with
  | [], hy => simp at hy; omega
  | z :: ys, hy =>
    refine ⟨z, getrow hr ?_, frozen_of_row _ _ _ _ _ hr⟩
    rw [List.getElem?_append_right (by rw [fflat_len]; omega), fflat_len, Nat.sub_self]
    rfl
/-- What DeleteFunc tells: those that f does not cover, in the row's own memory. -/
def DelPost (B : Nat) (v : Value) (f : Ft) (L : List Ft) (w : World) (e : Ending) (w' : World) : Prop :=
  ∃ v', e = .returned v' ∧ OwnF B w' v' (L.filter (Fi.stays f)) ∧ (∀ i, v'.ownBlock = some i → v.ownBlock = some i) ∧ Kept (fun i => v.ownBlock = some i) w w'
theorem DelSt.ends {B : Nat} {w wr : World} {g c : Nat} {f : Ft} {L K : List Ft} {tail : List Value} (h : DelSt w wr g f L tail L.length K) (hB : B ≤ g) (hc : L.length ≤ c) (hm : c ≤ maxLen) (ht : tail.length = c - L.length) :
    ∃ cur : List Value, wr.heap[g]? = some (.cells cur.toArray 22 (0, 0)) ∧ K.length + (L.length - K.length) ≤ cur.length ∧ 0 < L.length - K.length ∧
    DelPost B (.slice (some ⟨g, 0, none⟩) L.length c) f L w (.returned (.slice (some ⟨g, 0, none⟩) K.length c)) (wr.setRow g (part cur K.length (List.replicate (L.length - K.length) (.slice none 0 0))).toArray) := by
  obtain ⟨ys, hy, hr⟩ := h.row
  have hl := h.less
  have hk := h.keeps
  rw [List.take_length] at hk
  have hd : fflat (L.drop L.length) = [] := by rw [List.drop_length]; rfl
  rw [hd, List.nil_append] at hr
  refine ⟨_, hr, by rw [List.length_append, List.length_append, fflat_len, hy]; omega, by omega, _, rfl, ?_, fun i hi => hi, (h.kept.then (Kept.setRow _ _ _)).mono (fun i _ e => by rw [e]; rfl)⟩
  have hset := setRow_heap wr g _ (part (fflat K ++ (ys ++ tail)) K.length (List.replicate (L.length - K.length) (.slice none 0 0))).toArray _ _ hr
  have hpart : part (fflat K ++ (ys ++ tail)) K.length (List.replicate (L.length - K.length) (.slice none 0 0)) = fflat K ++ (List.replicate (L.length - K.length) (.slice none 0 0) ++ tail) := by
    unfold part
    rw [List.take_append_of_le_length (by rw [fflat_len]; omega), List.take_of_length_le (by rw [fflat_len]; omega), List.drop_append, fflat_len, List.drop_eq_nil_of_le (by rw [fflat_len]; simp), List.length_replicate, show K.length + (L.length - K.length) - K.length = ys.length by omega, List.nil_append, List.drop_append, List.drop_length]
    simp
  rw [hpart] at hset ⊢
  have hwg : g < wr.heap.size := (Array.getElem?_eq_some_iff.1 hr).1
  rw [hk]
  refine ⟨⟨by rw [fflat_len, Nat.mul_one], .inr ⟨g, c, _, rfl, hB, hset, by omega, hm, ?_, ?_⟩⟩, by simp; omega⟩
  · rw [List.size_toArray, List.length_append, List.length_append, List.length_replicate, fflat_len, ht]; omega
  · rw [Nat.mul_one]
    show List.take K.length (fflat K ++ _) = fflat K
    rw [List.take_append_of_le_length (by rw [fflat_len]; omega), List.take_of_length_le (by rw [fflat_len]; omega)]

set_option maxRecDepth 100000 in
set_option maxHeartbeats 8000000 in
theorem delete_any {w0 w : World} {q : Nat} {f : Ft} {L : List Ft} {v : Value} (h : RedEnv w0 w q f L) (hO : OwnF w0.heap.size w v L) (hq : ∀ i, v.ownBlock = some i → ¬ i = q) (hn : L.length ≤ 1000) :
    Calls Tryz.prog 45 #[v, .func (.func 46) #[] #[.pointer (some ⟨q, 0, none⟩)]] w (DelPost w0.heap.size v f L w) := by
  obtain ⟨A, c, rfl, hc, hm, hr, -, -, h0⟩ := hO.reads
  have HFS : Hid (Fs w A L.length L) := ⟨hr, fun g hg => (h.isl g hg).later h.below, by omega⟩
  have HE := Lib.hid h
  have HO := Lib.hid hO
  have HQ := Lib.hid hq
  clear h hO hq hr
  go_enter Tryz.func45, Tryz.ntmps45
  go_wp2_with fail
  refine (indexred_any HE.out HFS.out).mono ?_
  rintro e w1 ⟨⟨rfl, hall⟩ | ⟨k, y, rfl, hk, hy, hs, hall⟩, hb⟩
  · have HB := Lib.hid hb
    have HL := Lib.hid hall
    clear hb hall
    go_wp2_with fail
    go_ret
    exact ⟨_, rfl, by rw [Fi.filter_all HL.out]; exact HO.out.later HB.out, fun i hi => hi, Kept.ofBelow HB.out⟩
  · have HB := Lib.hid hb
    have hne : (((k : Nat) : Int) == -1) = false := beq_eq_false_iff_ne.2 (by omega)
    obtain ⟨g, cap, cur, e, hBg, hg, hcc, hmm, hsz, htk⟩ : ∃ (g cap : Nat) (cur : Array Value), (Value.slice A L.length c) = .slice (some ⟨g, 0, none⟩) L.length cap ∧ w0.heap.size ≤ g ∧ w1.heap[g]? = some (.cells cur 22 (0, 0)) ∧ L.length ≤ cap ∧ cap ≤ maxLen ∧ cur.size = cap * 1 ∧ cur.toList.take (L.length * 1) = fflat L := by
      rcases (HO.out.later hb).1.2 with ⟨-, h0⟩ | ⟨g, cap, cur, e, h1, h2, h3, h4, h5, h6⟩
      · omega
      · exact ⟨g, cap, cur, e, h1, h2, h3, h4, h5, h6⟩
    cases e
    have HQ' : ¬ g = q := HQ.out g rfl
    have HE1 := Lib.hid (HE.out.later hb)
    have hcur : cur.toList = fflat L ++ cur.toList.drop L.length := by
      rw [Nat.mul_one] at htk
      rw [← htk]; simp
    have ht : (cur.toList.drop L.length).length = c - L.length := by simp [hsz]
    generalize cur.toList.drop L.length = tail at hcur ht
    have hD : DelSt w w1 g f L tail (k + 1) (L.take k) := by
      refine ⟨?_, ⟨[y.v], ?_, ?_⟩, ?_, by omega, Kept.ofBelow hb⟩
      · rw [Fi.filter_next hy, hs, Fi.filter_all hall]; simp
      · simp; omega
      · rw [hg]
        have : cur = (cur.toList).toArray := by simp
        rw [this, hcur]
        have e2 : L = L.take k ++ (y :: L.drop (k + 1)) := by rw [← drop_at hy, List.take_append_drop]
        conv => lhs; rw [e2]
        rw [fflat_add]
        simp [fflat, Ft.cells]
      · simp; omega
    have HD := Lib.hid hD
    have htk2 : (L.take k).length = k := by simp; omega
    clear hb hs hall hy hg hsz htk hcur hD HO HFS HE HB
    clear cur
    have uk : IntKind.i64.wrap ((k : Int) + 1) = (k : Int) + 1 := IntWalk.i64_in _ (by omega)
    go_wp2_with fail
    go_loopw [5, 6] (fun ii jj wr => ∃ (j : Nat) (K : List Ft), ii = .int .i64 (K.length : Int) ∧ jj = .int .i64 (j : Int) ∧ DelSt w wr g f L tail j K ∧ RedEnv w0 wr q f L) (fun _ jj _ => L.length - (intOf jj).toNat)
    case atStart => exact ⟨k + 1, L.take k, by rw [htk2], rfl, HD.out, HE1.out⟩
    case round =>
      obtain ⟨j, K, rfl, rfl, hD, hE⟩ := hrel
      have HD2 := Lib.hid hD
      have HE2 := Lib.hid hE
      have hfew := hD.few
      have hless := hD.less
      clear hD hE HD HE1
      by_cases hlt : j < L.length
      · obtain ⟨y, hy⟩ : ∃ y, L[j]? = some y := ⟨_, List.getElem?_eq_getElem hlt⟩
        have HY := Lib.hid hy
        have cj : wr.cell? ⟨g, j, none⟩ = some (.slice y.A y.l.length y.c) := HD2.out.at hy
        clear hy
        go_wp2_with fail
        refine (red_any HE2.out (List.mem_of_getElem? HY.out)).mono ?_
        rintro e w2 ⟨rfl, hb⟩
        have HD3 := Lib.hid (HD2.out.next hb)
        have HE3 := Lib.hid (HE2.out.later hb)
        clear hb cj HD2 HE2
        cases hr : Fi.covers f.l y.l
        · have hs : Fi.stays f y = true := by unfold Fi.stays; rw [hr]; rfl
          obtain ⟨u, cK, fK⟩ := HD3.out.cell
          have HD4 := Lib.hid (HD3.out.put HY.out hs)
          have HE4 := Lib.hid (HE3.out.turn (Kept.setCell (S := (· = g)) w2 ⟨g, K.length, none⟩ rfl y.v) (fun e => HQ' e.symm) hBg)
          have uK : IntKind.i64.wrap ((K.length : Int) + 1) = (K.length : Int) + 1 := IntWalk.i64_in _ (by omega)
          clear HD3 HE3 hs
          go_wp2_with fail
          exact ⟨⟨j + 1, K ++ [y], by simp, rfl, HD4.out, HE4.out⟩, by simp [intOf]; omega⟩
        · have HD4 := Lib.hid (HD3.out.pass HY.out (by unfold Fi.stays; rw [hr]; rfl))
          clear HD3
          go_wp2_with fail
          exact ⟨⟨j + 1, K, rfl, rfl, HD4.out, HE3.out⟩, by simp [intOf]; omega⟩
      · obtain rfl : j = L.length := by omega
        obtain ⟨cur, hcur, hlen, hpos, hpost⟩ := HD2.out.ends hBg hcc hmm ht
        have hcl := fun ty => run_clear_row (c := c - K.length) hcur hpos hlen ty
        have HP := Lib.hid hpost
        have hKc : ¬ c = K.length := by omega
        clear hcur hlen hpos hpost HD2 HE2
        generalize wr.setRow g _ = w9 at hcl HP
        go_wp2_with fail
        go_ret
        exact HP.out
end Go.Proofs.YtfbfbajccphkoaaGreat
