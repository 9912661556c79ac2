/- The machine of package source: what is made of values by operators and names. -/
import Derived.Test.YtmodmojocclmaaaGreatDoorMg09
import Derived.StillTailTactics
import Derived.Deep.RegionHeld3
namespace Go.Proofs.YtmodmojocclmaaaGreatDoor.K
open Go Go.RowKit
namespace So

def lookS (nm : Str) (en : Env) (s : St) : St := match find nm en with | some v => s.has v | none => s.ends 4
set_option maxRecDepth 100000 in
set_option maxHeartbeats 4000000 in
theorem look_any {w0 : World} {mb : Nat} {H : Mem} {s : St} {w : World} (h : MS w0 mb H s w) {t : Tm} {en : Env} (ha : s.at_ = some (t, en)) (nm : Str) :
  Calls Tryz.prog 30 #[pt mb, .string (ba nm)] w (MEnd w0 mb H (lookS nm en s)) := by
 have hms := h
 obtain ⟨tv, ev, v0, v1, v2, v3, fv, hv', cv, iv, lv, h⟩ := h
 have hat := h.at_
 rw [ha] at hat
 obtain ⟨_, hen, _⟩ := hat
 have z1 : w.cell? ⟨mb, 1, none⟩ = some ev := h.lies.cell 1
 obtain ⟨x, rfl⟩ := hen.ptr
 have hf := find_any h.core.sub hen nm
 have HF := Lib.hid hf
 have HM := Lib.hid hms
 clear hf hms h hen ha
 unfold pt
 go_enter Tryz.func30, Tryz.ntmps30
 go_wp2_with fail
 refine HF.out.mono ?_
 rintro e w2 ⟨hb, hr⟩
 have hm2 := HM.out.later hb
 cases hq : find nm en with
 | none =>
  rw [hq] at hr
  have hr' : e = .returned (.tuple #[.agg (litL 0 0).toArray, .bool false]) := hr
  subst hr'
  have HM2 := Lib.hid hm2
  have HQ := Lib.hid hq
  clear hm2 hb hq hr
  unfold litL
  go_wp2_with fail
  refine (end_any (HM2.out.later (below_new _ _)) 4).mono ?_
  rintro e w3 ⟨rfl, H3, k3, m3⟩
  go_wp2
  exact bodyPost_ret (results_none rfl _ _ _) rfl ⟨rfl, H3, k3, by unfold lookS; rw [HQ.out]; exact m3⟩
 | some v =>
  rw [hq] at hr
  obtain ⟨l, hv, hr'⟩ : ∃ l, VV H s.cells.length v l ∧ e = .returned (.tuple #[.agg l.toArray, .bool true]) := hr
  subst hr'
  have HM2 := Lib.hid hm2
  have HV := Lib.hid hv
  have HQ := Lib.hid hq
  obtain ⟨k, n, c, f, rfl, hf⟩ := hv.four
  clear hm2 hb hq hv
  rcases hf with rfl | ⟨ft, fx, rfl⟩
  all_goals
   go_wp2_with fail
   refine (answer_any (HM2.out.later (below_new _ _)) HV.out).mono ?_
   rintro e w3 ⟨rfl, H3, k3, m3⟩
   go_wp2
   go_end0
   exact ⟨rfl, H3, k3, by unfold lookS; rw [HQ.out]; exact m3⟩
end So
end Go.Proofs.YtmodmojocclmaaaGreatDoor.K
