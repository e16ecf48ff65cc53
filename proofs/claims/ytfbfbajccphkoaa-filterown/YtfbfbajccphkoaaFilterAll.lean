
/- FilterAll: the walk. -/
import Derived.Test.YtfbfbajccphkoaaFeedFilter
import Derived.Test.YtfbfbajccphkoaaFilKnown
import Derived.Test.YtfbfbajccphkoaaAttFacts
import Derived.Test.YtfbfbajccphkoaaPrdFacts
namespace Go.Proofs.Ytfbfbajccphkoaa
open Go.RowKit
set_option linter.unusedVariables false

namespace Pd
theorem sames_self : ∀ l : List Val, sames l l = true
  | [] => rfl
  | a :: l => by rw [sames, sames_self l, Vl.same_self]; rfl
theorem sameT_self (p : Prd) : sameT p p = true := by unfold sameT; rw [Vl.same_self, Vl.same_self, sames_self]; simp
theorem same_self (p : Prd) : same p p = true := by unfold same; rw [sameT_self]; simp
theorem implies_self (p : Prd) : implies p p = right p := by
  cases h : right p
  · exact imp_wrong (.inl h)
  · exact imp_yes h h (.inr (.inr (sameT_self p)))
end Pd
namespace Fi
/-- Each test of f is one of g: g is covered. -/
theorem covers_of {f g : List Pt} (hs : ∀ x, x ∈ f → ∃ y, y ∈ g ∧ y.p = x.p) (hr : ∀ x, x ∈ f → Pd.right x.p = true) : covers f g = true := by
  unfold covers
  rw [Bool.or_eq_true]
  right
  rw [List.all_eq_true]
  intro x hx
  obtain ⟨y, hy, he⟩ := hs x hx
  unfold implied
  rw [List.any_eq_true]
  exact ⟨y, hy, by rw [he, Pd.implies_self, hr x hx]; simp⟩
theorem Fine.rights {l : List Pt} (h : Fine l) : ∀ x, x ∈ l → Pd.right x.p = true := fun x hx => by
  obtain ⟨h1, h2⟩ := h.fed x hx
  exact h2.right (names_word _ h1)
theorem takes_more (f : List Pt) (x : Pt) (a : List Att) : takes (f ++ [x]) a = (takes f a && takes1 a x.p) := by unfold takes; rw [List.all_append]; simp
end Fi
theorem Owned.fed {B b : Nat} {w w' : World} {f : Ft} (h : Owned B w f) (k : Kept (· = b) w w') (hb : b < B) : Owned B w' f := ⟨h.row.kept k (ownw_apart h.row hb), fun x hx => (h.sets x hx).kept k (ownw_apart (h.sets x hx) hb)⟩
theorem At.Fed.fits {k : Nat} {l : List Att} (h : At.Fed k l) : ∀ a, a ∈ l → Fit a.v := fun a ha => by
  obtain ⟨h1, h2, h3⟩ := h.num a ha
  exact (Pd.right_small (k := a.v.k) (n := a.v.n) (x := a.v.x) (s := a.v.s) (t := a.v.b) h1 h2 h3 (h.right a ha)).fit
theorem Pd.Fed.fits' {nm : ByteArray} {p : Prd} (h : Pd.Fed nm p) (hn : nm.size ≤ 9223372036854775807) : Pd.Fits p := ⟨by rw [h.name]; exact hn, h.v.fit, h.w.fit, fun a ha => (h.set a ha).fit⟩
theorem slice_one (g L c k : Nat) (hk : k < L) (hc : L ≤ c) : ∀ w : World, (Instr.slice 28 (.slice (some ⟨g, 0, none⟩) L c) (some (.int .i64 (k : Int))) (some (.int .i64 ((k : Int) + 1))) none).run Try.prog w = .ok (.slice (some ⟨g, k * 13, none⟩) 1 (c - k)) w := by
  intro w
  obtain ⟨i, hi, -, h1, -⟩ := info_at prd_info
  have he : Try.prog.elem 28 = 27 := by kernel_rfl
  rw [run_slice_lh (P := Try.prog) w 28 (some ⟨g, 0, none⟩) L c (by rw [he]; exact Try.underlying28) .i64 .i64 (k : Int) ((k : Int) + 1) (by omega) (by omega) (by omega), he]
  have e1 : ((k : Int) + 1).toNat = k + 1 := by omega
  have e2 : ¬ c = k := by omega
  simp [sizeOf, typeInfo, hi, h1, sliced, e1, e2, addr_at]
/-- What FilterAll's locals are. -/
structure Als (w wx : World) (Bx : Nat) (F : Ft) (A : Option Addr) (c : Nat) (a : List Att) : Prop where
  own : Owned Bx wx F
  atn : OwnA Bx wx (.slice A a.length c) a
  below : Below w.heap.size w wx
  hB : w.heap.size < Bx
  fits : ∀ p, p ∈ Fi.tests F → Pd.Fits p
  small : ∀ x, x ∈ a → x.name.size ≤ 9223372036854775807
theorem Als.later {w wx wy : World} {Bx : Nat} {F : Ft} {A : Option Addr} {c : Nat} {a : List Att} (h : Als w wx Bx F A c a) (k : Below wx.heap.size wx wy) : Als w wy Bx F A c a :=
  ⟨h.own.later k, h.atn.later k, below_then h.below k, h.hB, h.fits, h.small⟩
theorem Als.fed {w wx wy : World} {Bx : Nat} {F : Ft} {A : Option Addr} {c : Nat} {a : List Att} (h : Als w wx Bx F A c a) (k : Kept (· = w.heap.size) wx wy) : Als w wy Bx F A c a :=
  ⟨h.own.fed k h.hB, h.atn.kept k (own_apart h.atn h.hB), h.below.trans (k.below h.below.size (by intro i hi e; omega)), h.hB, h.fits, h.small⟩
theorem Als.isF {w wx : World} {Bx : Nat} {F : Ft} {A : Option Addr} {c : Nat} {a : List Att} (h : Als w wx Bx F A c a) : IsFt wx F := h.own.is h.fits
theorem Als.ats {w wx : World} {Bx : Nat} {F : Ft} {A : Option Addr} {c : Nat} {a : List Att} (h : Als w wx Bx F A c a) : Ats wx A a.length a := OwnW.ats h.atn h.small
/-- All of it lies below M. -/
structure Lows (M : Nat) (F : Ft) (A : Option Addr) (c : Nat) (a : List Att) : Prop where
  row : ∀ i, F.v.ownBlock = some i → i < M
  sets : ∀ x, x ∈ F.l → ∀ i, (Value.slice x.A x.p.set.length x.c).ownBlock = some i → i < M
  atn : ∀ i, (Value.slice A a.length c).ownBlock = some i → i < M
theorem Als.lows {w wx : World} {Bx : Nat} {F : Ft} {A : Option Addr} {c : Nat} {a : List Att} (h : Als w wx Bx F A c a) : Lows wx.heap.size F A c a :=
  ⟨ownw_lt h.own.row, fun x hx => ownw_lt (h.own.sets x hx), ownw_lt h.atn⟩
theorem Als.apart {S : Nat → Prop} {w wx wy : World} {Bx M : Nat} {F : Ft} {A : Option Addr} {c : Nat} {a : List Att} (h : Als w wx Bx F A c a) (k : Kept S wx wy) (hl : Lows M F A c a) (hS : ∀ i, S i → M ≤ i) (hM : w.heap.size ≤ M) : Als w wy Bx F A c a :=
  ⟨⟨h.own.row.kept k (fun i hi e => by have := hl.row i hi; have := hS i e; omega), fun x hx => (h.own.sets x hx).kept k (fun i hi e => by have := hl.sets x hx i hi; have := hS i e; omega)⟩, h.atn.kept k (fun i hi e => by have := hl.atn i hi; have := hS i e; omega), h.below.trans (k.below h.below.size (by intro i hi e; have := hS i e; omega)), h.hB, h.fits, h.small⟩
theorem Ps.one {w : World} {g n : Nat} {l : List Pt} {k : Nat} {x : Pt} (h : Ps w (some ⟨g, 0, none⟩) n l) (hk : l[k]? = some x) : Ps w (some ⟨g, k * 13, none⟩) 1 [x] := by
  have hl : 0 < l.length := by have := (List.getElem?_eq_some_iff.1 hk).1; omega
  obtain ⟨g', o', e, hc⟩ := h.at hl
  cases e
  refine ⟨⟨rfl, .inr ⟨g, k * 13, rfl, fun j u hj => ?_⟩⟩, fun y hy => by rw [List.mem_singleton.1 hy]; exact h.each x (List.mem_of_getElem? hk), by omega⟩
  have hj' : x.cells[j]? = some u := by simpa [pflat] using hj
  have := hc k x hk j u hj'
  rw [Nat.zero_add] at this
  exact this

set_option maxRecDepth 100000 in
set_option maxHeartbeats 16000000 in
theorem fall_walk (L : Option Addr) (len cap : Nat) (w : World) (hd : Draws w.heap.size w L len) :
    Calls Try.prog 5 #[.slice L len cap] w fun e w' => e = .returned (.bool true) ∧ Below w.heap.size w w' := by
  have hF0 := Lib.hid (feed_new (cap := cap) hd 45)
  have HB0 := Lib.hid (one_new w (.cells #[.slice L len cap, .int .i64 0] 45))
  clear hd
  have hst := store_float
  go_enter Try.func5, Try.ntmps5
  go_wp2_with fail
  refine (feedfilter_any (B := w.heap.size) (a := 0) _ (by omega) hF0.out).mono ?_
  rintro e w1 ⟨F, rfl, hfine, hown, hF, hK⟩
  have HB1 : Hid (Below w.heap.size w w1) := HB0.out.trans (hK.below HB0.out.size (by intro i hi e; omega))
  have HFine := Lib.hid hfine
  have HO := Lib.hid hown
  have HF1 := Lib.hid hF
  have hgt : w.heap.size < (w.alloc (.cells #[.slice L len cap, .int .i64 0] 45)).heap.size := by simp
  have HGT := Lib.hid hgt
  have HSz := Lib.hid hK.size
  clear hF0 HB0 hfine hown hF hK hgt
  go_wp2_with fail
  refine (feedattrs_any (a := 34) _ (by omega) HF1.out).mono ?_
  rintro e w2 ⟨va, a, rfl, hfed, hoa, hF, hK⟩
  have hsm := hfed.small
  have HFit := Lib.hid hfed.fits
  have HO2 := Lib.hid (HO.out.fed hK HGT.out)
  have HF2 := Lib.hid hF
  have HB2 : Hid (Below w.heap.size w w2) := HB1.out.trans (hK.below HB1.out.size (by intro i hi e; omega))
  obtain ⟨Aa, ca, rfl, -⟩ := hoa.reads
  have hws : (w.alloc (.cells #[.slice L len cap, .int .i64 0] 45)).heap.size ≤ w1.heap.size := HSz.out
  have HA : Hid (Als w w2 (w.alloc (.cells #[.slice L len cap, .int .i64 0] 45)).heap.size F Aa ca a) := ⟨HO2.out, own_sub hoa hws, HB2.out, HGT.out, HFine.out.fits, hsm⟩
  have hFl3 := HFine.out.few
  clear hfed hF hK hsm hoa HO HF1 HB1 HB2 hws HGT HSz
  generalize (w.alloc (.cells #[.slice L len cap, .int .i64 0] 45)).heap.size = Bx at HO2 HA
  obtain ⟨FA, Fc, Fl⟩ := F
  dsimp only at HFine HO2 HA hFl3 ⊢
  obtain ⟨A', c', e', hcc, hmm, -, -, -, -⟩ := HO2.out.row.reads
  have hFc : Fl.length ≤ Fc := by unfold Ft.v at e'; cases e'; exact hcc
  clear e' hcc hmm
  clear A' c'
  clear HO2
  go_wp2_with fail
  go_loopw [6, 7] (fun vv ii wx => ∃ k : Nat, k ≤ Fl.length ∧ ii = .int .i64 (k : Int) ∧ vv = .bool ((Fl.take k).all (fun p => Fi.takes1 a p.p)) ∧ Als w wx Bx ⟨FA, Fc, Fl⟩ Aa ca a ∧ IsFeed w.heap.size wx w.heap.size 49) (fun _ ii _ => Fl.length - (intOf ii).toNat)
  case atStart => exact ⟨0, by omega, rfl, rfl, HA.out, HF2.out⟩
  case round =>
    obtain ⟨k, hk, rfl, rfl, hA, hF⟩ := hrel
    clear HA HF2
    have HA := Lib.hid hA
    have HF2 := Lib.hid hF
    clear hA hF
    by_cases hlt : k < Fl.length
    · obtain ⟨x, hx⟩ : ∃ x, Fl[k]? = some x := ⟨_, List.getElem?_eq_getElem hlt⟩
      have HX := Lib.hid hx
      have hnext : (Fl.take (k + 1)).all (fun p => Fi.takes1 a p.p) = ((Fl.take k).all (fun p => Fi.takes1 a p.p) && Fi.takes1 a x.p) := by rw [List.take_add_one, hx, List.all_append]; simp
      have HN := Lib.hid hnext
      obtain ⟨g, cc, e, -⟩ := ownp_at HA.out.own.row (show 0 < Fl.length by omega)
      unfold Ft.v at e
      dsimp only at e
      cases e
      have hsl := slice_one g Fl.length Fc k hlt hFc
      have uk : IntKind.i64.wrap ((k : Int) + 1) = (k : Int) + 1 := IntWalk.i64_in _ (by omega)
      clear hx hnext
      generalize (Fl.take k).all (fun p => Fi.takes1 a p.p) = bb at HN ⊢
      cases bb
      · go_wp2_with fail
        exact ⟨⟨k + 1, by omega, rfl, by rw [HN.out]; rfl, HA.out, HF2.out⟩, by simp [intOf]; omega⟩
      · go_wp2_with fail
        refine (ftakes_any (HA.out.isF.ps.one HX.out) HA.out.ats HFit.out).mono ?_
        rintro e w3 ⟨rfl, hb⟩
        have HA3 := Lib.hid (HA.out.later hb)
        have HF3 := Lib.hid (HF2.out.below hb)
        have ht : Fi.takes [x] a = Fi.takes1 a x.p := by simp [Fi.takes]
        have HT := Lib.hid ht
        clear hb ht HA HF2
        go_wp2_with fail
        exact ⟨⟨k + 1, by omega, rfl, by rw [HN.out, HT.out]; rfl, HA3.out, HF3.out⟩, by simp [intOf]; omega⟩
    · obtain rfl : k = Fl.length := by omega
      have hall : (Fl.take Fl.length).all (fun p => Fi.takes1 a p.p) = Fi.takes Fl a := by rw [List.take_length]; rfl
      rw [hall]
      clear hall
      have hb3 : ∀ x, x ∈ Fl → x.p.set.length ≤ 1000 := fun x hx => by have := ((HFine.out.fed x hx).2).few; omega
      have HB3 := Lib.hid hb3
      clear hb3
      go_wp2_with fail
      refine (hfilter_any (HA.out.isF.ps) (by show Fl.length ≤ 1000; omega) HB3.out).mono ?_
      rintro e w3 hpost
      obtain ⟨G, rfl, hGt, hGo, hb⟩ := hpost.own
      have HA3 := Lib.hid (HA.out.later hb)
      have HF3 := Lib.hid (HF2.out.below hb)
      have HG := Lib.hid hGo
      have HGt := Lib.hid hGt
      have hGl : G.l.length = Fl.length := by have := congrArg List.length hGt; simpa [Fi.tests] using this
      have HGL : Hid (G.l.length + 1 ≤ 1000000) := (by omega : G.l.length + 1 ≤ 1000000)
      have HLow := Lib.hid HA.out.lows
      have hwr : w.heap.size < wr.heap.size := Nat.lt_of_lt_of_le HA.out.hB HA.out.own.row.2
      clear hpost hGt hGo hb HA HF2 hGl
      dsimp only [Ft.v]
      go_wp2_with fail
      refine (feedpred_any (a := 49) ⟨#[108, 111, 110, 103]⟩ _ (by omega) HF3.out).mono ?_
      rintro e w4 ⟨p, Ap, cp, rfl, hfp, hOp, hF, hK⟩
      have hn := one_new w4 (Pt.box ⟨p, Ap, cp⟩)
      have HN := Lib.hid hn
      have HA4 := Lib.hid ((HA3.out.fed hK).later hn)
      have HG4 := Lib.hid ((HG.out.fed hK hwr).later hn)
      have hwr3 : wr.heap.size ≤ w3.heap.size := HG.out.row.2
      have HP4 : Hid (OwnS wr.heap.size (w4.alloc (Pt.box ⟨p, Ap, cp⟩)) ⟨p, Ap, cp⟩) := (ownw_sub hOp hwr3).later hn
      have HFP : Hid (Pd.Fits p) := hfp.fits' (by decide)
      clear hF hK hOp hfp HA3 HF3 HG hn hwr3
      go_upto_region 10 with (first | (at_builtin; refine wpList_ownw (k := 13) rfl _ _ 28 rfl Try.underlying28 prd_info rfl (by decide) wr.heap.size _ G.l.length (pflat G.l) rfl HG4.out.row _ 1 1 rfl (fun h => by cases h) (pflat [⟨p, Ap, cp⟩]) (new_pt w4 ⟨p, Ap, cp⟩) (pflat_one _) HGL.out (by decide) ?_; intro v5 w5 hO5 hK5; have HO5 := Lib.hid hO5; have HK5 := Lib.hid hK5; clear hO5 hK5))
      obtain ⟨t, rfl, tt, ot⟩ := HG4.out.push HP4.out HO5.out HK5.out
      have HA5 := Lib.hid (HA4.out.apart HK5.out HLow.out (fun i hi => ownw_base HG4.out.row i hi) (by omega))
      have hts : Fi.tests t = Fl.map (·.p) ++ [p] := by rw [tt, HGt.out]
      have hIT : IsFt w5 t := ot.is (by
        rw [hts]
        intro q hq
        rcases List.mem_append.1 hq with hq | hq
        · exact HFine.out.fits q hq
        · rw [List.mem_singleton.1 hq]; exact HFP.out)
      have HIT := Lib.hid hIT
      have htk : Fi.takes t.l a = (Fi.takes Fl a && Fi.takes1 a p) := by
        rw [Fi.takes_t, Fi.takes_t, show t.l.map (·.p) = Fl.map (·.p) ++ [p] from hts]
        unfold Fi.takesT
        rw [List.all_append]; simp
      have hcv1 : Fi.covers Fl Fl = true := Fi.covers_of (fun x hx => ⟨x, hx, rfl⟩) HFine.out.rights
      have hcv2 : Fi.covers [] Fl = true := Fi.covers_of (by simp) (by simp)
      have hcv3 : Fi.covers Fl t.l = true := Fi.covers_of (fun x hx => by
        have : x.p ∈ t.l.map (·.p) := by rw [show t.l.map (·.p) = Fl.map (·.p) ++ [p] from hts]; exact List.mem_append_left _ (List.mem_map_of_mem hx)
        obtain ⟨y, hy, e⟩ := List.mem_map.1 this
        exact ⟨y, hy, e⟩) HFine.out.rights
      have hri : Fi.right Fl = true := HFine.out.isright
      have KT := Lib.hid (fun wx (h : Als w wx Bx ⟨FA, Fc, Fl⟩ Aa ca a) => ftakes_any (c := Fc) (c' := ca) h.isF.ps h.ats HFit.out)
      have KU := Lib.hid (fun wx (h : Als w wx Bx ⟨FA, Fc, Fl⟩ Aa ca a) (hi : IsFt wx t) => htk ▸ ftakes_any (c := t.c) (c' := ca) hi.ps h.ats HFit.out)
      have KC := Lib.hid (fun wx (h : Als w wx Bx ⟨FA, Fc, Fl⟩ Aa ca a) => hcv1 ▸ covers_any (c := Fc) (c' := Fc) h.isF.ps h.isF.ps)
      have KD := Lib.hid (fun wx (h : Als w wx Bx ⟨FA, Fc, Fl⟩ Aa ca a) => hcv2 ▸ covers_any (A := none) (n := 0) (c := 0) (c' := Fc) (is_nil wx).is.ps h.isF.ps)
      have KE := Lib.hid (fun wx (h : Als w wx Bx ⟨FA, Fc, Fl⟩ Aa ca a) (hi : IsFt wx t) => hcv3 ▸ covers_any (c := Fc) (c' := t.c) h.isF.ps hi.ps)
      have KR := Lib.hid (fun wx (h : Als w wx Bx ⟨FA, Fc, Fl⟩ Aa ca a) => hri ▸ fright_any (c := Fc) h.isF.ps)
      clear hts hIT htk hcv1 hcv2 hcv3 hri tt ot HO5 HK5 HG4 HA4 HP4 HLow HN HGt HGL HFP HB3
      generalize Fi.takes Fl a = T0 at KT KU ⊢
      generalize Fi.takes1 a p = T1 at KU
      rcases T0 with - | - <;> rcases T1 with - | -
      all_goals
        go_wp2_with fail
        refine (known_any _).mono ?_
        rintro e w6 ⟨rfl, hb⟩
        replace HA5 := Lib.hid (HA5.out.later hb)
        replace HIT := Lib.hid (HIT.out.later hb)
        clear hb
        go_wp2_with fail
        refine (KT.out _ HA5.out).mono ?_
        rintro e w7 ⟨rfl, hb⟩
        replace HA5 := Lib.hid (HA5.out.later hb)
        replace HIT := Lib.hid (HIT.out.later hb)
        clear hb
        go_wp2_with fail
        refine (KU.out _ HA5.out HIT.out).mono ?_
        rintro e w8 ⟨rfl, hb⟩
        replace HA5 := Lib.hid (HA5.out.later hb)
        replace HIT := Lib.hid (HIT.out.later hb)
        clear hb
        go_wp2_with fail
        refine (KC.out _ HA5.out).mono ?_
        rintro e w9 ⟨rfl, hb⟩
        replace HA5 := Lib.hid (HA5.out.later hb)
        replace HIT := Lib.hid (HIT.out.later hb)
        clear hb
        go_wp2_with fail
        refine (KD.out _ HA5.out).mono ?_
        rintro e w10 ⟨rfl, hb⟩
        replace HA5 := Lib.hid (HA5.out.later hb)
        replace HIT := Lib.hid (HIT.out.later hb)
        clear hb
        go_wp2_with fail
        refine (KE.out _ HA5.out HIT.out).mono ?_
        rintro e w11 ⟨rfl, hb⟩
        replace HA5 := Lib.hid (HA5.out.later hb)
        replace HIT := Lib.hid (HIT.out.later hb)
        clear hb
        go_wp2_with fail
        refine (KR.out _ HA5.out).mono ?_
        rintro e w12 ⟨rfl, hb⟩
        replace HA5 := Lib.hid (HA5.out.later hb)
        replace HIT := Lib.hid (HIT.out.later hb)
        clear hb
        go_wp2_with fail
        go_ret
        exact ⟨rfl, HA5.out.below⟩
theorem fall_below (w : World) (A : Option Addr) (len cap : Nat) (zs : List Int) (hr : IsRow .i64 w A len cap zs) :
    Calls Try.prog 5 #[.slice A len cap] w fun e w' => e = .returned (.bool true) ∧ Below w.heap.size w w' := fall_walk A len cap w hr.draws
end Go.Proofs.Ytfbfbajccphkoaa
