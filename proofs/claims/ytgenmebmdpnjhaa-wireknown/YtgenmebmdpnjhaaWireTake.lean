
/- wire.take: the contracts. -/
import Derived.Test.YtgenmebmdpnjhaaWireRight1
import Derived.Test.YtgenmebmdpnjhaaPackRead
namespace Go.Proofs.Ytgenmebmdpnjhaa
open Go.RowKit
set_option linter.unusedVariables false
set_option maxRecDepth 100000

/-- What a number that must be right tells: 0, or which error. -/
def takeErr (p : Int → Bool) (r : List Nat) : Int := if natErr r = 0 then (if p (natVal r : Int) = true then 0 else 3) else natErr r
set_option maxHeartbeats 4000000 in
theorem take_num {w : World} {g : Nat} {A : Option Addr} {n c : Nat} {r : List Nat} (h : PR w g A n c r) :
    Calls Try.prog 32 #[.pointer (some ⟨g, 0, none⟩), .func (.func 17) #[] #[]] w (PTookS g A r (takeErr Wr.num r) (natTaken r) (.int .i64 (natVal r : Int)) w) := by
  have HC := Lib.hid (pnatr_at h)
  have HE : Hid (takeErr Wr.num r = if natErr r = 0 then (if Wr.num (natVal r : Int) = true then 0 else 3) else natErr r) := Lib.hid rfl
  clear h
  generalize takeErr Wr.num r = er at HE ⊢
  generalize natErr r = err at HC HE
  generalize natVal r = v at HC HE ⊢
  generalize natTaken r = t at HC ⊢
  go_enter Try.func32, Try.ntmps32
  go_wp2_with fail
  refine HC.out.mono ?_
  rintro e w1 (⟨he, rfl, hp, hk⟩ | ⟨he, rfl, hk⟩)
  · have HP := Lib.hid (And.intro hp hk)
    have hE := HE.out
    rw [if_pos he] at hE
    clear hp hk HC HE he
    cases hq : Wr.num (v : Int)
    · rw [hq] at hE
      have HE := Lib.hid hE
      clear hE
      go_wp2_with (first | (go_at_call 17; refine (isnum_at hq).mono ?_; rintro e w' ⟨rfl, rfl⟩) | (go_at_call 54; refine (need_err 3 rfl _).mono ?_; rintro e w' ⟨rfl, rfl⟩))
      exact ⟨rfl, .inr ⟨by rw [HE.out]; decide, by rw [HE.out]; rfl, HP.out.2⟩⟩
    · rw [hq] at hE
      have HE := Lib.hid hE
      clear hE
      go_wp2_with (first | (go_at_call 17; refine (isnum_at hq).mono ?_; rintro e w' ⟨rfl, rfl⟩) | (go_at_call 54; refine (need_ok 3 _).mono ?_; rintro e w' ⟨rfl, rfl⟩))
      go_ret
      exact .inl ⟨by rw [HE.out]; rfl, rfl, HP.out.1, HP.out.2⟩
  · have hE := HE.out
    rw [if_neg he] at hE
    exact ⟨rfl, .inr ⟨by rw [hE]; exact he, by rw [hE], hk⟩⟩
set_option maxHeartbeats 4000000 in
theorem take_broker {w : World} {g : Nat} {A : Option Addr} {n c : Nat} {r : List Nat} (h : PR w g A n c r) :
    Calls Try.prog 32 #[.pointer (some ⟨g, 0, none⟩), .func (.func 19) #[] #[]] w (PTookS g A r (takeErr Wr.broker r) (natTaken r) (.int .i64 (natVal r : Int)) w) := by
  have HC := Lib.hid (pnatr_at h)
  have HE : Hid (takeErr Wr.broker r = if natErr r = 0 then (if Wr.broker (natVal r : Int) = true then 0 else 3) else natErr r) := Lib.hid rfl
  clear h
  generalize takeErr Wr.broker r = er at HE ⊢
  generalize natErr r = err at HC HE
  generalize natVal r = v at HC HE ⊢
  generalize natTaken r = t at HC ⊢
  go_enter Try.func32, Try.ntmps32
  go_wp2_with fail
  refine HC.out.mono ?_
  rintro e w1 (⟨he, rfl, hp, hk⟩ | ⟨he, rfl, hk⟩)
  · have HP := Lib.hid (And.intro hp hk)
    have hE := HE.out
    rw [if_pos he] at hE
    clear hp hk HC HE he
    cases hq : Wr.broker (v : Int)
    · rw [hq] at hE
      have HE := Lib.hid hE
      clear hE
      go_wp2_with (first | (go_at_call 19; refine (isbroker_at hq).mono ?_; rintro e w' ⟨rfl, rfl⟩) | (go_at_call 54; refine (need_err 3 rfl _).mono ?_; rintro e w' ⟨rfl, rfl⟩))
      exact ⟨rfl, .inr ⟨by rw [HE.out]; decide, by rw [HE.out]; rfl, HP.out.2⟩⟩
    · rw [hq] at hE
      have HE := Lib.hid hE
      clear hE
      go_wp2_with (first | (go_at_call 19; refine (isbroker_at hq).mono ?_; rintro e w' ⟨rfl, rfl⟩) | (go_at_call 54; refine (need_ok 3 _).mono ?_; rintro e w' ⟨rfl, rfl⟩))
      go_ret
      exact .inl ⟨by rw [HE.out]; rfl, rfl, HP.out.1, HP.out.2⟩
  · have hE := HE.out
    rw [if_neg he] at hE
    exact ⟨rfl, .inr ⟨by rw [hE]; exact he, by rw [hE], hk⟩⟩
set_option maxHeartbeats 4000000 in
theorem take_client {w : World} {g : Nat} {A : Option Addr} {n c : Nat} {r : List Nat} (h : PR w g A n c r) :
    Calls Try.prog 32 #[.pointer (some ⟨g, 0, none⟩), .func (.func 21) #[] #[]] w (PTookS g A r (takeErr Wr.client r) (natTaken r) (.int .i64 (natVal r : Int)) w) := by
  have HC := Lib.hid (pnatr_at h)
  have HE : Hid (takeErr Wr.client r = if natErr r = 0 then (if Wr.client (natVal r : Int) = true then 0 else 3) else natErr r) := Lib.hid rfl
  clear h
  generalize takeErr Wr.client r = er at HE ⊢
  generalize natErr r = err at HC HE
  generalize natVal r = v at HC HE ⊢
  generalize natTaken r = t at HC ⊢
  go_enter Try.func32, Try.ntmps32
  go_wp2_with fail
  refine HC.out.mono ?_
  rintro e w1 (⟨he, rfl, hp, hk⟩ | ⟨he, rfl, hk⟩)
  · have HP := Lib.hid (And.intro hp hk)
    have hE := HE.out
    rw [if_pos he] at hE
    clear hp hk HC HE he
    cases hq : Wr.client (v : Int)
    · rw [hq] at hE
      have HE := Lib.hid hE
      clear hE
      go_wp2_with (first | (go_at_call 21; refine (isclient_at hq).mono ?_; rintro e w' ⟨rfl, rfl⟩) | (go_at_call 54; refine (need_err 3 rfl _).mono ?_; rintro e w' ⟨rfl, rfl⟩))
      exact ⟨rfl, .inr ⟨by rw [HE.out]; decide, by rw [HE.out]; rfl, HP.out.2⟩⟩
    · rw [hq] at hE
      have HE := Lib.hid hE
      clear hE
      go_wp2_with (first | (go_at_call 21; refine (isclient_at hq).mono ?_; rintro e w' ⟨rfl, rfl⟩) | (go_at_call 54; refine (need_ok 3 _).mono ?_; rintro e w' ⟨rfl, rfl⟩))
      go_ret
      exact .inl ⟨by rw [HE.out]; rfl, rfl, HP.out.1, HP.out.2⟩
  · have hE := HE.out
    rw [if_neg he] at hE
    exact ⟨rfl, .inr ⟨by rw [hE]; exact he, by rw [hE], hk⟩⟩
set_option maxHeartbeats 4000000 in
theorem take_cnt {w : World} {g : Nat} {A : Option Addr} {n c : Nat} {r : List Nat} (h : PR w g A n c r) :
    Calls Try.prog 32 #[.pointer (some ⟨g, 0, none⟩), .func (.func 22) #[] #[]] w (PTookS g A r (takeErr Wr.cnt r) (natTaken r) (.int .i64 (natVal r : Int)) w) := by
  have HC := Lib.hid (pnatr_at h)
  have HE : Hid (takeErr Wr.cnt r = if natErr r = 0 then (if Wr.cnt (natVal r : Int) = true then 0 else 3) else natErr r) := Lib.hid rfl
  clear h
  generalize takeErr Wr.cnt r = er at HE ⊢
  generalize natErr r = err at HC HE
  generalize natVal r = v at HC HE ⊢
  generalize natTaken r = t at HC ⊢
  go_enter Try.func32, Try.ntmps32
  go_wp2_with fail
  refine HC.out.mono ?_
  rintro e w1 (⟨he, rfl, hp, hk⟩ | ⟨he, rfl, hk⟩)
  · have HP := Lib.hid (And.intro hp hk)
    have hE := HE.out
    rw [if_pos he] at hE
    clear hp hk HC HE he
    cases hq : Wr.cnt (v : Int)
    · rw [hq] at hE
      have HE := Lib.hid hE
      clear hE
      go_wp2_with (first | (go_at_call 22; refine (iscnt_at hq).mono ?_; rintro e w' ⟨rfl, rfl⟩) | (go_at_call 54; refine (need_err 3 rfl _).mono ?_; rintro e w' ⟨rfl, rfl⟩))
      exact ⟨rfl, .inr ⟨by rw [HE.out]; decide, by rw [HE.out]; rfl, HP.out.2⟩⟩
    · rw [hq] at hE
      have HE := Lib.hid hE
      clear hE
      go_wp2_with (first | (go_at_call 22; refine (iscnt_at hq).mono ?_; rintro e w' ⟨rfl, rfl⟩) | (go_at_call 54; refine (need_ok 3 _).mono ?_; rintro e w' ⟨rfl, rfl⟩))
      go_ret
      exact .inl ⟨by rw [HE.out]; rfl, rfl, HP.out.1, HP.out.2⟩
  · have hE := HE.out
    rw [if_neg he] at hE
    exact ⟨rfl, .inr ⟨by rw [hE]; exact he, by rw [hE], hk⟩⟩
end Go.Proofs.Ytgenmebmdpnjhaa
