/- The machine of package source: what gathers values goes on. -/
import Derived.Test.YtfkakmafedhgdaaGreatDoorSoL
import Derived.Deep.RegionHeld3
import Derived.BigRegion
namespace Go.Proofs.YtfkakmafedhgdaaGreatDoor.K
open Go Go.RowKit
namespace So

theorem operate_any {w0 : World} {mb : Nat} {H : Mem} {s : St} {w : World} (h : MS w0 mb H s w) {l : List Val} {g : Nat} {cur : Array Value} (ha : ArgsAt H s.cells.length l g cur) {op : Str} (hop : argc op = some l.length) (ht : s.trace.length ≤ 1000000) (hc : s.cells.length ≤ 1000000) :
    Calls Tryz.prog 60 #[pt mb, .string (ba op), .slice (some ⟨g, 0, none⟩) l.length l.length] w (MEnd w0 mb H (operate op l s)) := by
  by_cases h1 : op = [114, 101, 97, 100]
  · subst h1; exact operate_read h ha
  by_cases h2 : op = [112, 114, 105, 110, 116]
  · subst h2; exact operate_print h ha (by have : (1 : Nat) = l.length := Option.some.inj hop; omega) ht
  by_cases h3 : op = [114, 101, 102]
  · subst h3; exact operate_ref h ha (by have : (1 : Nat) = l.length := Option.some.inj hop; omega) hc
  by_cases h4 : op = [33]
  · subst h4; exact operate_deref h ha (by have : (1 : Nat) = l.length := Option.some.inj hop; omega)
  by_cases h5 : op = [58, 61]
  · subst h5; exact operate_assign h ha (by have : (2 : Nat) = l.length := Option.some.inj hop; omega)
  refine operate_calc h ha ?_ h1 h2 h3 h4 h5
  unfold argc at hop
  rw [if_neg h1, if_neg h2, if_neg h3, if_neg h4] at hop
  repeat' split at hop
  all_goals first | exact (Option.some.inj hop).symm | exact absurd hop (by simp)
set_option maxRecDepth 100000 in
set_option maxHeartbeats 4000000 in
theorem gather_more {w0 : World} {mb : Nat} {H : Mem} {s : St} {w : World} (h : MS w0 mb H s w) {t : Tm} {en : Env} {done : List Val} {b tb to : Nat} {ev lv : Value} (hg : HR H b 0 [ptO tb to, ev, .int .i64 (done.length : Int), lv]) (ht : TmA H tb to t) (he : EV H s.cells.length en ev) (hd : RV H s.cells.length done lv)
    (hk : t.k = 11 ∨ (t.k = 10 ∧ argc t.nm = some t.kids.length)) (hl : done.length < t.kids.length) :
    Calls Tryz.prog 38 #[pt mb, pt b] w (MEnd w0 mb H (gather t en done s)) := by
  have e : gather t en done s = (s.push (.gath t en done)).goes (kid t done.length) en := by unfold gather; rw [if_pos hl]
  rw [e]
  clear e
  obtain ⟨av, kv, rv, rest, hr, hsl, hks, har⟩ := ht.open
  obtain ⟨A, c, rfl, hAc, hAl, hA⟩ := hsl
  have g0 := hg 0 _ rfl
  have g1 := hg 1 _ rfl
  have g2 := hg 2 _ rfl
  have q0 : w.cell? ⟨b, 0, none⟩ = some (ptO tb to) := g0.cell h.sub
  have q1 : w.cell? ⟨b, 1, none⟩ = some ev := g1.cell h.sub
  have q2 : w.cell? ⟨b, 2, none⟩ = some (.int .i64 (done.length : Int)) := g2.cell h.sub
  have r0' : HC H ⟨tb, to, none⟩ (.int .i64 t.k) := hr 0 _ rfl
  have r2' : HC H ⟨tb, to + 2, none⟩ (.string (ba t.nm)) := hr 2 _ rfl
  have r5' : HC H ⟨tb, to + 5, none⟩ (.slice A t.kids.length c) := hr 5 _ rfl
  have r0 := r0'.cell h.sub
  have r2 := r2'.cell h.sub
  have r5 := r5'.cell h.sub
  obtain ⟨kg, ko, rfl⟩ := hA (by omega)
  have hkid : TmA H kg (ko + done.length * 21) (kid t done.length) := hks done.length _ (kid_get hl)
  have hli : (done.length : Int) < (t.kids.length : Int) := by omega
  have hp := push_any h.drew (.gath t en done b tb to ev lv hg ht he hd hk hl)
  have HP := Lib.hid hp
  have G0 := Lib.hid g0
  have G1 := Lib.hid g1
  have G2 := Lib.hid g2
  have R5 := Lib.hid r5'
  have HKID := Lib.hid hkid
  have HE := Lib.hid he
  clear hp h hg ht he hd hk hl g0 g1 g2 r0' r2' r5' hr hks har hA hkid
  obtain ⟨a, rfl⟩ := HE.out.ptr
  unfold pt ptO at *
  go_enter Tryz.func38, Tryz.ntmps38
  go_wp2
  go_region
  all_goals
    go_wp2_with fail
    refine HP.out.mono ?_
    rintro e w2 ⟨rfl, H2, k2, m2⟩
    have x0 := (G0.out.le k2).cell m2.sub
    have x1 := (G1.out.le k2).cell m2.sub
    have x2 := (G2.out.le k2).cell m2.sub
    have x5 := (R5.out.le k2).cell m2.sub
    have HAT := Lib.hid (at_any m2.drew (HKID.out.le k2) (HE.out.le k2 (Nat.le_refl _)))
    have K2 := Lib.hid k2
    clear m2 k2
    go_wp2_with fail
    go_still_tail 17, (by kernel_rfl)
    change wpList _ _ _ _ _ w2.drew
    go_wp2_with fail
    refine HAT.out.mono ?_
    rintro e w3 ⟨rfl, H3, k3, m3⟩
    go_wp2
    go_end0
    exact ⟨rfl, H3, K2.out.trans k3, m3⟩
theorem con_of {H : Mem} {N : Nat} {kids : List Val} {nm : Str} {g b : Nat} {cur : Array Value} (hm : H g = some (.cells cur 68 (0, 0))) (_hs : cur.size = kids.length * 4) (hrow : RowAt H N cur kids 0) (hn : kids.length ≤ 2000000)
    (hb : HR H b 0 [.string (ba nm), .slice (some ⟨g, 0, none⟩) kids.length kids.length]) : VV H N (.con nm kids) [.int .i64 4, .int .i64 0, pt b, .nilIface] := by
  have hcell : ∀ i u, cur[i]? = some u → HC H ⟨g, i, none⟩ u := fun i u hu => ⟨_, hm, fun w hw => by
    have hl : Lies w g 68 cur := hw
    exact (hl.cell i).trans hu⟩
  refine .con nm kids b (.slice (some ⟨g, 0, none⟩) kids.length kids.length) (fun i => [cur[i * 4]?.getD undef, cur[i * 4 + 1]?.getD undef, cur[i * 4 + 2]?.getD undef, cur[i * 4 + 3]?.getD undef]) hb ⟨_, _, rfl, Nat.le_refl _, hn, fun _ => ⟨_, _, rfl⟩⟩ (fun i v hv => ?_) (fun i hi => ?_)
  · obtain ⟨a, b', c, d, hvv, h0, h1, h2, h3⟩ := hrow i v (Nat.zero_le _) hv
    rw [h0, h1, h2, h3]
    exact hvv
  · obtain ⟨v, hv⟩ : ∃ v, kids[i]? = some v := ⟨_, List.getElem?_eq_getElem hi⟩
    obtain ⟨a, b', c, d, hvv, h0, h1, h2, h3⟩ := hrow i v (Nat.zero_le _) hv
    intro j u hu
    simp only [h0, h1, h2, h3, Option.getD_some] at hu
    simp only [blk, off, Nat.zero_add]
    match j, hu with
    | 0, hu => obtain rfl : a = u := by simpa using hu
               exact hcell _ _ h0
    | 1, hu => obtain rfl : b' = u := by simpa using hu
               exact hcell _ _ h1
    | 2, hu => obtain rfl : c = u := by simpa using hu
               exact hcell _ _ h2
    | 3, hu => obtain rfl : d = u := by simpa using hu
               exact hcell _ _ h3
    | j + 4, hu => simp at hu
theorem RowAt.le {H H' : Mem} {N N' : Nat} (hk : MLe H H') (hN : N ≤ N') {cur : Array Value} {l : List Val} {m : Nat} (h : RowAt H N cur l m) : RowAt H' N' cur l m := fun i v h1 h2 => by
  obtain ⟨a, b, c, d, k0, k1, k2, k3, k4⟩ := h i v h1 h2
  exact ⟨a, b, c, d, k0.le hk hN, k1, k2, k3, k4⟩
def AllAny (w0 : World) (mb : Nat) (H : Mem) (s : St) (l : List Val) (e : Ending) (w' : World) : Prop := ∃ H' g cur, e = .returned (.slice (some ⟨g, 0, none⟩) l.length l.length) ∧ MLe H H' ∧ MS w0 mb H' s w' ∧ ArgsAt H' s.cells.length l g cur
theorem all_ms {w0 : World} {mb : Nat} {H : Mem} {s : St} {w : World} (h : MS w0 mb H s w) (b : Nat) (tv ev lv : Value) (done : List Val) (hr : HR H b 0 [tv, ev, .int .i64 (done.length : Int), lv]) (hd : RV H s.cells.length done lv) (hn : done.length ≤ 2000000) :
    Calls Tryz.prog 59 #[pt b] w (AllAny w0 mb H s done.reverse) :=
  (all_any h.sub b tv ev lv done hr hd hn).mono fun e w' ⟨g, cur, h1, h2, h3, h4, h5, h6⟩ => by
    obtain ⟨k1, k2⟩ := h.keep h6 h2 h3
    exact ⟨_, g, cur, h1, k1, k2, ins_same _ _ _, h4, h5.le k1 (Nat.le_refl _)⟩
def ConAny (w0 : World) (mb : Nat) (H : Mem) (s : St) (v : Val) (e : Ending) (w' : World) : Prop := ∃ H' x, e = .returned (.agg x) ∧ MLe H H' ∧ MS w0 mb H' s w' ∧ ∃ l, x = l.toArray ∧ VV H' s.cells.length v l
theorem con_ms {w0 : World} {mb : Nat} {H : Mem} {s : St} {w : World} (h : MS w0 mb H s w) {l : List Val} {g : Nat} {cur : Array Value} (ha : ArgsAt H s.cells.length l g cur) (hn : l.length ≤ 2000000) (nm : Str) :
    Calls Tryz.prog 58 #[.string (ba nm), .slice (some ⟨g, 0, none⟩) l.length l.length] w (ConAny w0 mb H s (.con nm l)) :=
  (con_raw w nm (some ⟨g, 0, none⟩) l.length l.length).mono fun e w' ⟨N, h1, h2, h3, h4⟩ => by
    obtain ⟨k1, k2⟩ := h.keep h4 h2 h3
    exact ⟨_, _, h1, k1, k2, _, rfl, con_of (k1 _ _ ha.mem) ha.size (ha.row.le k1 (Nat.le_refl _)) hn (ins_row _ _ _ _)⟩
theorem answer_agg {w0 : World} {mb : Nat} {H : Mem} {s : St} {w : World} (h : MS w0 mb H s w) {v : Val} {x : Array Value} (hv : ∃ l, x = l.toArray ∧ VV H s.cells.length v l) : Calls Tryz.prog 31 #[pt mb, .agg x] w (MEnd w0 mb H (s.has v)) := by
  obtain ⟨l, rfl, hv⟩ := hv
  exact answer_any h hv
set_option maxRecDepth 100000 in
set_option maxHeartbeats 4000000 in
theorem gather_con {w0 : World} {mb : Nat} {H : Mem} {s : St} {w : World} (h : MS w0 mb H s w) {t : Tm} {en : Env} {done : List Val} {b tb to : Nat} {ev lv : Value} (hg : HR H b 0 [ptO tb to, ev, .int .i64 (done.length : Int), lv]) (ht : TmA H tb to t) (_he : EV H s.cells.length en ev) (hd : RV H s.cells.length done lv) (hk : t.k = 11) (hl : ¬ done.length < t.kids.length) (hl2 : done.length ≤ 2000000) :
    Calls Tryz.prog 38 #[pt mb, pt b] w (MEnd w0 mb H (gather t en done s)) := by
  have e : gather t en done s = s.has (.con t.nm done.reverse) := by unfold gather; rw [if_neg hl, if_pos hk]
  rw [e]
  clear e
  obtain ⟨av, kv, rv, rest, hr, hsl, hks, har⟩ := ht.open
  obtain ⟨A, c, rfl, hAc, hAl, hA⟩ := hsl
  have g0 := hg 0 _ rfl
  have g1 := hg 1 _ rfl
  have g2 := hg 2 _ rfl
  have q0 : w.cell? ⟨b, 0, none⟩ = some (ptO tb to) := g0.cell h.sub
  have q1 : w.cell? ⟨b, 1, none⟩ = some ev := g1.cell h.sub
  have q2 : w.cell? ⟨b, 2, none⟩ = some (.int .i64 (done.length : Int)) := g2.cell h.sub
  have r0' : HC H ⟨tb, to, none⟩ (.int .i64 t.k) := hr 0 _ rfl
  have r2' : HC H ⟨tb, to + 2, none⟩ (.string (ba t.nm)) := hr 2 _ rfl
  have r5' : HC H ⟨tb, to + 5, none⟩ (.slice A t.kids.length c) := hr 5 _ rfl
  have r0 := r0'.cell h.sub
  rw [hk] at r0
  have r2 := r2'.cell h.sub
  have r5 := r5'.cell h.sub
  have hli : ¬ (done.length : Int) < (t.kids.length : Int) := by omega
  obtain ⟨nm, hnm⟩ : ∃ nm, nm = t.nm := ⟨_, rfl⟩
  rw [← hnm] at r2 r2' ⊢
  have hall := all_ms h.drew.drew b (ptO tb to) ev lv done hg hd hl2
  obtain ⟨dl, hdl⟩ : ∃ dl, dl = done.reverse := ⟨_, rfl⟩
  rw [← hdl] at hall ⊢
  have hS : ∀ V, Sub H V → V.cell? ⟨b, 0, none⟩ = some (ptO tb to) ∧ V.cell? ⟨tb, to + 2, none⟩ = some (.string (ba nm)) := fun V hV => ⟨g0.cell hV, r2'.cell hV⟩
  have hw0 : Sub H w.drew.drew := h.sub
  have hsu : ∀ {H' : Mem} {W : World} {S : St}, MLe H H' → MS w0 mb H' S W → Sub H W := fun k m b o hb => m.sub b o (k b o hb)
  have HS0 := Lib.hid (hS _ hw0)
  have HSS := Lib.hid hS
  have HALL := Lib.hid hall
  have HSU := Lib.hid (fun (H' : Mem) (W : World) (S : St) (k : MLe H H') (m : MS w0 mb H' S W) => hsu k m)
  have HN2 := Lib.hid (show dl.length ≤ 2000000 by rw [hdl, List.length_reverse]; exact hl2)
  have HK := Lib.hid (hk)
  clear hall h hg ht _he hd hl g0 g1 g2 r0' r2' r5' hr hks har hA hS hw0 hsu hnm hdl
  unfold pt ptO at *
  go_enter Tryz.func38, Tryz.ntmps38
  go_wp2
  go_region
  all_goals
    go_wp2_with fail
    go_region_held3 (fun VV => VV.cell? ⟨b, 0, none⟩ = some (.pointer (some ⟨tb, to, none⟩)) ∧ VV.cell? ⟨tb, to + 2, none⟩ = some (.string (ba nm)))
      (first | with_reducible exact HS0.out | with_reducible exact hS2 | with_reducible exact hS3 | with_reducible exact hS4)
      ((first | (go_at_call 59; refine HALL.out.mono ?_; rintro e w2 ⟨H2, gg, cur, rfl, k2, m2, ha2⟩; have hS2 := HSS.out _ (HSU.out _ _ _ k2 m2); have K2 := Lib.hid k2; have M2 := Lib.hid m2; have A2 := Lib.hid ha2; clear k2 m2 ha2) | (go_at_call 58; refine (con_ms M2.out A2.out HN2.out _).mono ?_; rintro e w3 ⟨H3, x3, rfl, k3, m3, hx3⟩; have hS3 := HSS.out _ (HSU.out _ _ _ (K2.out.trans k3) m3); have K3 := Lib.hid k3; have M3 := Lib.hid m3; have X3 := Lib.hid hx3; clear k3 m3 hx3) | (go_at_call 31; refine (answer_agg M3.out X3.out).mono ?_; rintro e w4 ⟨rfl, H4, k4, m4⟩; have hS4 := HSS.out _ (HSU.out _ _ _ ((K2.out.trans K3.out).trans k4) m4); have K4 := Lib.hid k4; have M4 := Lib.hid m4; clear k4 m4)))
    all_goals
      go_wp2
      go_end0
      exact ⟨rfl, H4, (K2.out.trans K3.out).trans K4.out, M4.out⟩
set_option maxRecDepth 100000 in
set_option maxHeartbeats 4000000 in
theorem gather_op {w0 : World} {mb : Nat} {H : Mem} {s : St} {w : World} (h : MS w0 mb H s w) {t : Tm} {en : Env} {done : List Val} {b tb to : Nat} {ev lv : Value} (hg : HR H b 0 [ptO tb to, ev, .int .i64 (done.length : Int), lv]) (ht : TmA H tb to t) (_he : EV H s.cells.length en ev) (hd : RV H s.cells.length done lv) (hk : t.k = 10) (hag : argc t.nm = some done.reverse.length) (htr : s.trace.length ≤ 1000000) (hce : s.cells.length ≤ 1000000) (hl : ¬ done.length < t.kids.length) (hl2 : done.length ≤ 2000000) :
    Calls Tryz.prog 38 #[pt mb, pt b] w (MEnd w0 mb H (gather t en done s)) := by
  have e : gather t en done s = operate t.nm done.reverse s := by unfold gather; rw [if_neg hl, if_neg (by rw [hk]; decide)]
  rw [e]
  clear e
  obtain ⟨av, kv, rv, rest, hr, hsl, hks, har⟩ := ht.open
  obtain ⟨A, c, rfl, hAc, hAl, hA⟩ := hsl
  have g0 := hg 0 _ rfl
  have g1 := hg 1 _ rfl
  have g2 := hg 2 _ rfl
  have q0 : w.cell? ⟨b, 0, none⟩ = some (ptO tb to) := g0.cell h.sub
  have q1 : w.cell? ⟨b, 1, none⟩ = some ev := g1.cell h.sub
  have q2 : w.cell? ⟨b, 2, none⟩ = some (.int .i64 (done.length : Int)) := g2.cell h.sub
  have r0' : HC H ⟨tb, to, none⟩ (.int .i64 t.k) := hr 0 _ rfl
  have r2' : HC H ⟨tb, to + 2, none⟩ (.string (ba t.nm)) := hr 2 _ rfl
  have r5' : HC H ⟨tb, to + 5, none⟩ (.slice A t.kids.length c) := hr 5 _ rfl
  have r0 := r0'.cell h.sub
  rw [hk] at r0
  have r2 := r2'.cell h.sub
  have r5 := r5'.cell h.sub
  have hli : ¬ (done.length : Int) < (t.kids.length : Int) := by omega
  obtain ⟨nm, hnm⟩ : ∃ nm, nm = t.nm := ⟨_, rfl⟩
  rw [← hnm] at r2 r2' hag ⊢
  have hall := all_ms h.drew.drew b (ptO tb to) ev lv done hg hd hl2
  obtain ⟨dl, hdl⟩ : ∃ dl, dl = done.reverse := ⟨_, rfl⟩
  rw [← hdl] at hall hag ⊢
  have HAG := Lib.hid hag
  have HTR := Lib.hid htr
  have HCE := Lib.hid hce
  have hS : ∀ V, Sub H V → V.cell? ⟨b, 0, none⟩ = some (ptO tb to) ∧ V.cell? ⟨tb, to + 2, none⟩ = some (.string (ba nm)) := fun V hV => ⟨g0.cell hV, r2'.cell hV⟩
  have hw0 : Sub H w.drew.drew := h.sub
  have hsu : ∀ {H' : Mem} {W : World} {S : St}, MLe H H' → MS w0 mb H' S W → Sub H W := fun k m b o hb => m.sub b o (k b o hb)
  have HS0 := Lib.hid (hS _ hw0)
  have HSS := Lib.hid hS
  have HALL := Lib.hid hall
  have HSU := Lib.hid (fun (H' : Mem) (W : World) (S : St) (k : MLe H H') (m : MS w0 mb H' S W) => hsu k m)
  have HN2 := Lib.hid (show dl.length ≤ 2000000 by rw [hdl, List.length_reverse]; exact hl2)
  have HK := Lib.hid (hk)
  clear hall h hg ht _he hd hl g0 g1 g2 r0' r2' r5' hr hks har hA hS hw0 hsu hnm hdl hag htr hce
  unfold pt ptO at *
  go_enter Tryz.func38, Tryz.ntmps38
  go_wp2
  go_region
  all_goals
    go_wp2_with fail
    go_region_held3 (fun VV => VV.cell? ⟨b, 0, none⟩ = some (.pointer (some ⟨tb, to, none⟩)) ∧ VV.cell? ⟨tb, to + 2, none⟩ = some (.string (ba nm)))
      (first | with_reducible exact HS0.out | with_reducible exact hS2 | with_reducible exact hS3 | with_reducible exact hS4)
      ((first | (go_at_call 59; refine HALL.out.mono ?_; rintro e w2 ⟨H2, gg, cur, rfl, k2, m2, ha2⟩; have hS2 := HSS.out _ (HSU.out _ _ _ k2 m2); have K2 := Lib.hid k2; have M2 := Lib.hid m2; have A2 := Lib.hid ha2; clear k2 m2 ha2) | (go_at_call 60; refine (operate_any M2.out A2.out HAG.out HTR.out HCE.out).mono ?_; rintro e w4 ⟨rfl, H4, k4, m4⟩; have hS4 := HSS.out _ (HSU.out _ _ _ (K2.out.trans k4) m4); have K4 := Lib.hid k4; have M4 := Lib.hid m4; clear k4 m4)))
    all_goals
      go_wp2
      go_end0
      exact ⟨rfl, H4, K2.out.trans K4.out, M4.out⟩
end So
end Go.Proofs.YtfkakmafedhgdaaGreatDoor.K

/- The machine of package source: what waits for a term's first kid. -/
namespace Go.Proofs.YtfkakmafedhgdaaGreatDoor.K
open Go Go.RowKit
namespace So

theorem gather_any {w0 : World} {mb : Nat} {H : Mem} {s : St} {w : World} (h : MS w0 mb H s w) {t : Tm} {en : Env} {done : List Val} {b tb to : Nat} {ev lv : Value} (hg : HR H b 0 [ptO tb to, ev, .int .i64 (done.length : Int), lv]) (ht : TmA H tb to t) (he : EV H s.cells.length en ev) (hd : RV H s.cells.length done lv)
    (hk : t.k = 11 ∨ (t.k = 10 ∧ argc t.nm = some t.kids.length)) (hl : done.length ≤ t.kids.length) (htr : s.trace.length ≤ 1000000) (hce : s.cells.length ≤ 1000000) :
    Calls Tryz.prog 38 #[pt mb, pt b] w (MEnd w0 mb H (gather t en done s)) := by
  by_cases hm : done.length < t.kids.length
  · exact gather_more h hg ht he hd hk hm
  · obtain ⟨av, kv, rv, rest, _, ⟨A, c, _, _, hAl, _⟩, _, _⟩ := ht.open
    rcases hk with hk | ⟨hk, hag⟩
    · exact gather_con h hg ht he hd hk hm (by omega)
    · exact gather_op h hg ht he hd hk (by rw [List.length_reverse, hag]; congr 1; omega) htr hce hm (by omega)
theorem MS.env {w0 : World} {mb : Nat} {H : Mem} {s : St} {w : World} (h : MS w0 mb H s w) {t : Tm} {en : Env} (ha : s.at_ = some (t, en)) : ∃ x, w.cell? ⟨mb, 1, none⟩ = some (.pointer x) ∧ EV H s.cells.length en (.pointer x) := by
  obtain ⟨tv, ev, v0, v1, v2, v3, fv, hv, cv, iv, lv, h⟩ := h
  have hat := h.at_
  rw [ha] at hat
  obtain ⟨_, hen, _⟩ := hat
  obtain ⟨x, rfl⟩ := hen.ptr
  exact ⟨x, h.lies.cell 1, hen⟩
theorem TmA.kidsAt {H : Mem} {b o : Nat} {t : Tm} (h : TmA H b o t) (hn : 0 < t.kids.length) : ∃ g ko c, HC H ⟨b, o + 5, none⟩ (.slice (some ⟨g, ko, none⟩) t.kids.length c) ∧ ∀ i, i < t.kids.length → TmA H g (ko + i * 21) (kid t i) := by
  obtain ⟨av, kv, rv, rest, hr, ⟨A, c, rfl, _, _, hA⟩, hks, _⟩ := h.open
  obtain ⟨g, ko, rfl⟩ := hA hn
  exact ⟨g, ko, c, hr 5 _ rfl, fun i hi => hks i _ (kid_get hi)⟩
theorem TmA.heads {H : Mem} {b o : Nat} {t : Tm} (h : TmA H b o t) : HC H ⟨b, o, none⟩ (.int .i64 t.k) ∧ HC H ⟨b, o + 2, none⟩ (.string (ba t.nm)) ∧ HC H ⟨b, o + 3, none⟩ (.string (ba t.pm)) ∧ HC H ⟨b, o + 4, none⟩ (.int .i64 t.n) ∧ ∃ B d, HC H ⟨b, o + 6, none⟩ (.slice B t.arms.length d) ∧ ArmsA H t.arms (.slice B t.arms.length d) := by
  obtain ⟨av, kv, rv, rest, hr, _, _, har⟩ := h.open
  obtain ⟨⟨B, d, rfl, h1, h2, h3⟩, h4⟩ := har
  exact ⟨hr 0 _ rfl, hr 2 _ rfl, hr 3 _ rfl, hr 4 _ rfl, B, d, hr 6 _ rfl, ⟨B, d, rfl, h1, h2, h3⟩, h4⟩
/-- What waits for the first kid of a term. -/
def waitsF (t : Tm) (en : Env) : Frame :=
  if t.k = 6 then .arg (kid t 1) en else if t.k = 7 then .name t.nm (kid t 1) en else if t.k = 9 then .choice (kid t 1) (kid t 2) en else if t.k = 12 then .mat t.arms en else .ask t.nm
def FEnd (w0 : World) (mb : Nat) (H : Mem) (s : St) (f : Frame) (e : Ending) (w' : World) : Prop := ∃ H' x, e = .returned x ∧ MLe H H' ∧ MS w0 mb H' s w' ∧ FV H' s.cells.length f x
set_option maxRecDepth 100000 in
set_option maxHeartbeats 4000000 in
theorem waits_any {w0 : World} {mb : Nat} {H : Mem} {s : St} {w : World} (h : MS w0 mb H s w) {t0 t : Tm} {en : Env} (ha : s.at_ = some (t0, en)) {b o : Nat} (ht : TmA H b o t)
    (hlen : if t.k = 6 then 2 ≤ t.kids.length else if t.k = 7 then 2 ≤ t.kids.length else if t.k = 9 then 3 ≤ t.kids.length else True) :
    Calls Tryz.prog 41 #[pt mb, ptO b o] w (FEnd w0 mb H s (waitsF t en)) := by
  obtain ⟨x, z1, hen⟩ := h.env ha
  obtain ⟨r0h, r2h, _, _, B, d, r6h, har⟩ := ht.heads
  have r0 := r0h.cell h.sub
  have r2 := r2h.cell h.sub
  have r6 := r6h.cell h.sub
  clear ha
  by_cases h6 : t.k = 6
  · have e : waitsF t en = .arg (kid t 1) en := by unfold waitsF; rw [if_pos h6]
    rw [e]
    clear e
    rw [h6] at r0
    have hln : 2 ≤ t.kids.length := by have := hlen; rw [h6] at this; simpa using this
    obtain ⟨g, ko, c, k5, hks⟩ := ht.kidsAt (by omega)
    have q5 := k5.cell h.sub
    have hi : (1 : Int) < (t.kids.length : Int) := by omega
    have hi1 : (1 : Int) < (t.kids.length : Int) := by omega
    have HKEEP := Lib.hid (h.alloc (.cells [ptO g (ko + 21), .pointer x].toArray 159))
    have HE := Lib.hid hen
    have HKS := Lib.hid hks
    have HT := Lib.hid ht
    have HAR := Lib.hid har
    clear k5 hks
    clear h hen ht har hlen r0h r2h r6h
    unfold pt ptO at *
    go_enter Tryz.func41, Tryz.ntmps41
    go_wp2
    go_region
    all_goals
      go_wp2
      go_ret
      have hkp := HKEEP.out
      refine ⟨_, _, rfl, hkp.1, hkp.2.drew, ?_⟩
      exact .arg _ _ w.heap.size g (ko + 21) (.pointer x) (ins_row _ _ _ _) (by have := HKS.out 1 (by omega); exact this.le hkp.1) (HE.out.le hkp.1 (Nat.le_refl _))
  by_cases h7 : t.k = 7
  · have e : waitsF t en = .name t.nm (kid t 1) en := by unfold waitsF; rw [if_neg (by rw [h7]; decide), if_pos h7]
    rw [e]
    clear e
    rw [h7] at r0
    have hln : 2 ≤ t.kids.length := by have := hlen; rw [h7] at this; simpa using this
    obtain ⟨g, ko, c, k5, hks⟩ := ht.kidsAt (by omega)
    have q5 := k5.cell h.sub
    have hi : (1 : Int) < (t.kids.length : Int) := by omega
    have hi1 : (1 : Int) < (t.kids.length : Int) := by omega
    have HKEEP := Lib.hid (h.alloc (.cells [.string (ba t.nm), ptO g (ko + 21), .pointer x].toArray 162))
    have HE := Lib.hid hen
    have HKS := Lib.hid hks
    have HT := Lib.hid ht
    have HAR := Lib.hid har
    clear k5 hks
    clear h hen ht har hlen r0h r2h r6h
    unfold pt ptO at *
    go_enter Tryz.func41, Tryz.ntmps41
    go_wp2
    go_region
    all_goals
      go_wp2
      go_ret
      have hkp := HKEEP.out
      refine ⟨_, _, rfl, hkp.1, hkp.2.drew, ?_⟩
      exact .name _ _ _ w.heap.size g (ko + 21) (.pointer x) (ins_row _ _ _ _) (by have := HKS.out 1 (by omega); exact this.le hkp.1) (HE.out.le hkp.1 (Nat.le_refl _))
  by_cases h9 : t.k = 9
  · have e : waitsF t en = .choice (kid t 1) (kid t 2) en := by unfold waitsF; rw [if_neg (by rw [h9]; decide), if_neg (by rw [h9]; decide), if_pos h9]
    rw [e]
    clear e
    rw [h9] at r0
    have hln : 3 ≤ t.kids.length := by have := hlen; rw [h9] at this; simpa using this
    obtain ⟨g, ko, c, k5, hks⟩ := ht.kidsAt (by omega)
    have q5 := k5.cell h.sub
    have hi : (2 : Int) < (t.kids.length : Int) := by omega
    have hi1 : (1 : Int) < (t.kids.length : Int) := by omega
    have HKEEP := Lib.hid (h.alloc (.cells [ptO g (ko + 21), ptO g (ko + 42), .pointer x].toArray 165))
    have HE := Lib.hid hen
    have HKS := Lib.hid hks
    have HT := Lib.hid ht
    have HAR := Lib.hid har
    clear k5 hks
    clear h hen ht har hlen r0h r2h r6h
    unfold pt ptO at *
    go_enter Tryz.func41, Tryz.ntmps41
    go_wp2
    go_region
    all_goals
      go_wp2
      go_ret
      have hkp := HKEEP.out
      refine ⟨_, _, rfl, hkp.1, hkp.2.drew, ?_⟩
      exact .choice _ _ _ w.heap.size g (ko + 21) g (ko + 42) (.pointer x) (ins_row _ _ _ _) (by have := HKS.out 1 (by omega); exact this.le hkp.1) (by have := HKS.out 2 (by omega); exact this.le hkp.1) (HE.out.le hkp.1 (Nat.le_refl _))
  by_cases h12 : t.k = 12
  · have e : waitsF t en = .mat t.arms en := by unfold waitsF; rw [if_neg (by rw [h12]; decide), if_neg (by rw [h12]; decide), if_neg (by rw [h12]; decide), if_pos h12]
    rw [e]
    clear e
    rw [h12] at r0
    have HKEEP := Lib.hid (h.alloc (.cells [.slice B t.arms.length d, .pointer x].toArray 167))
    have HE := Lib.hid hen
    have HT := Lib.hid ht
    have HAR := Lib.hid har
    clear h hen ht har hlen r0h r2h r6h
    unfold pt ptO at *
    go_enter Tryz.func41, Tryz.ntmps41
    go_wp2
    go_region
    all_goals
      go_wp2
      go_ret
      have hkp := HKEEP.out
      refine ⟨_, _, rfl, hkp.1, hkp.2.drew, ?_⟩
      exact .mat _ _ w.heap.size (.slice B t.arms.length d) (.pointer x) (ins_row _ _ _ _) (HAR.out.le hkp.1) (HE.out.le hkp.1 (Nat.le_refl _))
  have e : waitsF t en = .ask t.nm := by unfold waitsF; rw [if_neg h6, if_neg h7, if_neg h9, if_neg h12]
  rw [e]
  clear e
  have HKEEP := Lib.hid (h.alloc (.cells [.string (ba t.nm)].toArray 170))
  obtain ⟨k, hk⟩ : ∃ k, k = t.k := ⟨_, rfl⟩
  rw [← hk] at r0 h6 h7 h9 h12
  have n6 : (k == 6) = false := by rw [beq_eq_false_iff_ne]; exact h6
  have n7 : (k == 7) = false := by rw [beq_eq_false_iff_ne]; exact h7
  have n9 : (k == 9) = false := by rw [beq_eq_false_iff_ne]; exact h9
  have n12 : (k == 12) = false := by rw [beq_eq_false_iff_ne]; exact h12
  clear h hen ht har hlen r0h r2h r6h hk
  unfold pt ptO at *
  go_enter Tryz.func41, Tryz.ntmps41
  go_wp2
  go_ret
  have hkp := HKEEP.out
  exact ⟨_, _, rfl, hkp.1, hkp.2, .ask _ w.heap.size (ins_row _ _ _ _)⟩
end So
end Go.Proofs.YtfkakmafedhgdaaGreatDoor.K
