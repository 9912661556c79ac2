/- The machine of package source: the step at a function, a rec, a handler. -/
import Derived.Test.YtfkakmafedhgdaaGreatDoorMg06
import Derived.Test.YtfkakmafedhgdaaGreatDoorSoQ
namespace Go.Proofs.YtfkakmafedhgdaaGreatDoor.K
open Go Go.RowKit
namespace So

def ValAny (w0 : World) (mb : Nat) (H : Mem) (s : St) (v : Val) (w : World) (e : Ending) (w' : World) : Prop := ∃ x, e = .returned (.agg x) ∧ MS w0 mb H s w' ∧ Below w.heap.size w w' ∧ ∃ l, x = l.toArray ∧ VV H s.cells.length v l
theorem fun_ms {w0 : World} {mb : Nat} {H : Mem} {s : St} {w : World} (h : MS w0 mb H s w) {v : Val} {T : TypeId} {x : Value} (hv : VV H s.cells.length v [.int .i64 6, .int .i64 0, .pointer none, .iface T x]) :
    Calls Tryz.prog 35 #[.iface T x] w (ValAny w0 mb H s v w) :=
  (fun_any w T x).mono fun _ _ ⟨h1, h2⟩ => ⟨_, h1, h.later h2, h2, _, rfl, hv⟩
theorem with_agg {w0 : World} {mb : Nat} {H : Mem} {s : St} {w : World} (h : MS w0 mb H s w) {en : Env} {x : Value} {nm : Str} {v : Val} {y : Array Value} (he : EV H s.cells.length en x) (hv : ∃ l, y = l.toArray ∧ VV H s.cells.length v l) :
    Calls Tryz.prog 37 #[x, .string (ba nm), .agg y] w (EEnd w0 mb H s ((nm, v) :: en)) := by
  obtain ⟨l, rfl, hv⟩ := hv
  exact with_any h he hv
set_option maxRecDepth 100000 in
set_option maxHeartbeats 4000000 in
theorem enter_fun {w0 : World} {mb : Nat} {H : Mem} {s : St} {w : World} (h : MS w0 mb H s w) {t : Tm} {en : Env} (ha : s.at_ = some (t, en)) {b o : Nat} (ht : TmA H b o t) (hc : complete t = true) (hk : t.k = 5) (hkn : 1 ≤ t.kids.length) :
    Calls Tryz.prog 20 #[pt mb, ptO b o] w (MEnd w0 mb H (s.has (.clo [] t.nm (kid t 0) en))) := by
  have hco := complete_any h.sub ht
  rw [hc] at hco
  have HC := Lib.hid hco
  obtain ⟨x, z1, hen⟩ := h.env ha
  obtain ⟨r0h, r2h, r3h, r4h, B, d, r6h, har⟩ := ht.heads
  have r0 := r0h.cell h.sub
  have r2 := r2h.cell h.sub
  have r3 := r3h.cell h.sub
  have r4 := r4h.cell h.sub
  have r6 := r6h.cell h.sub
  rw [hk] at r0
  obtain ⟨g, ko, c, k5, hks⟩ := ht.kidsAt (by omega)
  have r5 := k5.cell h.sub
  have hi0 : (0 : Int) < (t.kids.length : Int) := by omega
  have hn0 : 0 < t.kids.length := by omega
  have hkt : TmA H g ko (kid t 0) := by have := hks 0 (by omega); simpa using this
  obtain ⟨nm, hnm⟩ : ∃ nm, nm = t.nm := ⟨_, rfl⟩
  rw [← hnm] at r2 r2h ⊢
  have hkp := h.alloc (.cells [.string (ba []), .string (ba nm), ptO g ko, .pointer x].toArray 106)
  have hvv : VV _ s.cells.length (.clo [] nm (kid t 0) en) _ := .clo [] nm (kid t 0) en w.heap.size g ko (.pointer x) (ins_row H w.heap.size 106 _) (hkt.le hkp.1) (hen.le hkp.1 (Nat.le_refl _))
  have hs1 : ∀ V, Sub H V → V.cell? ⟨b, o + 2, none⟩ = some (.string (ba nm)) ∧ V.cell? ⟨b, o + 5, none⟩ = some (.slice (some ⟨g, ko, none⟩) t.kids.length c) := fun V hV => ⟨r2h.cell hV, k5.cell hV⟩
  have hsu : ∀ (H' : Mem) (S : St) (W : World), MLe H H' → MS w0 mb H' S W → Sub H W := fun H' S W k m b o hb => m.sub b o (k b o hb)
  have HS0 := Lib.hid (hs1 w.drew h.sub)
  have HSA := Lib.hid (hs1 (w.alloc (.cells [.string (ba []), .string (ba nm), ptO g ko, .pointer x].toArray 106)).drew (hsu _ _ _ hkp.1 hkp.2.drew))
  have HSS := Lib.hid hs1
  have HSU := Lib.hid hsu
  have z1d : w.drew.cell? ⟨mb, 1, none⟩ = some (.pointer x) := z1
  have HKP := Lib.hid hkp.1
  have HFU := Lib.hid (fun_ms hkp.2.drew hvv)
  clear hco hc h ht hen har r0h r2h r3h r4h r6h ha hks k5 hkt hk hnm hkp hvv hs1 hsu
  unfold pt ptO at *
  have hba : ba [] = ⟨#[]⟩ := rfl
  rw [hba] at HSA HFU HKP
  clear hba
  go_enter Tryz.func20, Tryz.ntmps20
  go_wp2_with fail
  refine HC.out.mono ?_
  rintro e w2 ⟨rfl, rfl⟩
  go_wp2_with fail
  refine wp_region_held_drew (S := fun VV => VV.cell? ⟨b, o + 2, none⟩ = some (.string (ba nm)) ∧ VV.cell? ⟨b, o + 5, none⟩ = some (.slice (some ⟨g, ko, none⟩) t.kids.length c)) (by kernel_rfl) ?_ (fun hHeld => ?_)
  · exact HS0.out
  refine tkH 0 66 rfl ?_
  try simp only [Act.put, s1, s2, s3]
  refine tkH 1 67 rfl ?_
  try simp only [Act.put, s1, s2, s3]
  refine tkH 2 68 rfl ?_
  try simp only [Act.put, s1, s2, s3]
  refine tkH 3 69 rfl ?_
  try simp only [Act.put, s1, s2, s3]
  refine tkH 4 70 rfl ?_
  try simp only [Act.put, s1, s2, s3]
  refine tkH 5 71 rfl ?_
  try simp only [Act.put, s1, s2, s3]
  refine tkH 6 72 rfl ?_
  try simp only [Act.put, s1, s2, s3]
  refine tkH 7 73 rfl ?_
  try simp only [Act.put, s1, s2, s3]
  refine tkH 8 74 rfl ?_
  try simp only [Act.put, s1, s2, s3]
  refine tkH 9 75 rfl ?_
  try simp only [Act.put, s1, s2, s3]
  refine tkH 10 76 rfl ?_
  try simp only [Act.put, s1, s2, s3]
  refine tkH 11 77 rfl ?_
  try simp only [Act.put, s1, s2, s3]
  refine tkH 12 78 rfl ?_
  try simp only [Act.put, s1, s2, s3]
  refine rd1 13 (some 79) rfl fun K hK => ?_
  go_simp
  refine hK.out _ _ ?_ (fun hHeld => ?_)
  · exact HS0.out
  clear hK K
  try simp only [Act.put, s1, s2, s3]
  refine tkH 14 80 rfl ?_
  try simp only [Act.put, s1, s2, s3]
  refine rd1 15 (some 81) rfl fun K hK => ?_
  go_simp
  refine hK.out _ _ ?_ (fun hHeld => ?_)
  · exact HSA.out
  clear hK K
  try simp only [Act.put, s1, s2, s3]
  refine tkH 16 82 rfl ?_
  try simp only [Act.put, s1, s2, s3]
  refine rd1 17 (some 83) rfl fun K hK => ?_
  go_simp
  refine HFU.out.mono ?_
  rintro e w3 ⟨x3, rfl, m3, hb3, hx3⟩
  have hS2 := HSS.out _ (HSU.out _ _ _ HKP.out m3)
  have M3 := Lib.hid m3
  have X3 := Lib.hid hx3
  clear m3 hb3 hx3
  (try dsimp only)
  refine hK.out _ _ ?_ (fun hHeld => ?_)
  · exact hS2
  clear hK K
  try simp only [Act.put, s1, s2, s3]
  refine rd1 18 (some 84) rfl fun K hK => ?_
  go_simp
  refine (answer_agg M3.out X3.out).mono ?_
  rintro e w4 ⟨rfl, H4, k4, m4⟩
  have hS3 := HSS.out _ (HSU.out _ _ _ (HKP.out.trans k4) m4)
  have K4 := Lib.hid k4
  have M4 := Lib.hid m4
  clear k4 m4
  (try dsimp only)
  refine hK.out _ _ ?_ (fun hHeld => ?_)
  · exact hS3
  clear hK K
  try simp only [Act.put, s1, s2, s3]
  refine wpAnyH_done (by kernel_rfl) ?_ _
  go_wp2
  go_end0
  exact ⟨rfl, H4, HKP.out.trans K4.out, M4.out⟩
set_option maxRecDepth 100000 in
set_option maxHeartbeats 4000000 in
theorem enter_handle {w0 : World} {mb : Nat} {H : Mem} {s : St} {w : World} (h : MS w0 mb H s w) {t : Tm} {en : Env} (ha : s.at_ = some (t, en)) {b o : Nat} (ht : TmA H b o t) (hc : complete t = true) (hk : t.k = 14) (hkn : 1 ≤ t.kids.length) (hho : hdOk t.arms = true) :
    Calls Tryz.prog 20 #[pt mb, ptO b o] w (MEnd w0 mb H ((s.encl (t.arms, en)).goes (kid t 0) en)) := by
  have hco := complete_any h.sub ht
  rw [hc] at hco
  have HC := Lib.hid hco
  obtain ⟨x, z1, hen⟩ := h.env ha
  obtain ⟨r0h, r2h, r3h, r4h, B, d, r6h, har⟩ := ht.heads
  have r0 := r0h.cell h.sub
  have r2 := r2h.cell h.sub
  have r3 := r3h.cell h.sub
  have r4 := r4h.cell h.sub
  have r6 := r6h.cell h.sub
  rw [hk] at r0
  obtain ⟨g, ko, c, k5, hks⟩ := ht.kidsAt (by omega)
  have hi0 : (0 : Int) < (t.kids.length : Int) := by omega
  have hn0 : 0 < t.kids.length := by omega
  have hkt : TmA H g ko (kid t 0) := by have := hks 0 (by omega); simpa using this
  have hkp := h.alloc (.cells [.slice B t.arms.length d, .pointer x].toArray 117)
  have hhd : HdV _ s.cells.length t.arms en (pt w.heap.size) := .mk _ _ w.heap.size (.slice B t.arms.length d) (.pointer x) (ins_row H w.heap.size 117 _) (har.le hkp.1) hho (hen.le hkp.1 (Nat.le_refl _))
  have hs1 : ∀ V, Sub H V → V.cell? ⟨b, o + 6, none⟩ = some (.slice B t.arms.length d) := fun V hV => r6h.cell hV
  have hsu : ∀ (H' : Mem) (S : St) (W : World), MLe H H' → MS w0 mb H' S W → Sub H W := fun H' S W k m b o hb => m.sub b o (k b o hb)
  have HS0 := Lib.hid (hs1 w.drew h.sub)
  have HSA := Lib.hid (hs1 (w.alloc (.cells [.slice B t.arms.length d, .pointer x].toArray 117)).drew (hsu _ _ _ hkp.1 hkp.2.drew))
  have HSS := Lib.hid hs1
  have HSU := Lib.hid hsu
  have z1d : w.drew.cell? ⟨mb, 1, none⟩ = some (.pointer x) := z1
  have HKP := Lib.hid hkp.1
  have HEC := Lib.hid (encl_any hkp.2.drew hhd)
  have HKT := Lib.hid hkt
  have K5 := Lib.hid k5
  have HA := Lib.hid ha
  clear hco hc h ht hen har r0h r2h r3h r4h r6h ha hks k5 hkt hk hkp hhd hs1 hsu hho
  unfold pt ptO at *
  go_enter Tryz.func20, Tryz.ntmps20
  go_wp2_with fail
  refine HC.out.mono ?_
  rintro e w2 ⟨rfl, rfl⟩
  go_wp2_with fail
  refine wp_region_held_drew (S := fun VV => VV.cell? ⟨b, o + 6, none⟩ = some (.slice B t.arms.length d)) (by kernel_rfl) ?_ (fun hHeld => ?_)
  · exact HS0.out
  refine tkH 0 139 rfl ?_
  try simp only [Act.put, s1, s2, s3]
  refine tkH 1 140 rfl ?_
  try simp only [Act.put, s1, s2, s3]
  refine tkH 2 141 rfl ?_
  try simp only [Act.put, s1, s2, s3]
  refine tkH 3 142 rfl ?_
  try simp only [Act.put, s1, s2, s3]
  refine tkH 4 143 rfl ?_
  try simp only [Act.put, s1, s2, s3]
  refine tkH 5 144 rfl ?_
  try simp only [Act.put, s1, s2, s3]
  refine tkH 6 145 rfl ?_
  try simp only [Act.put, s1, s2, s3]
  refine tkH 7 146 rfl ?_
  try simp only [Act.put, s1, s2, s3]
  refine tkH 8 147 rfl ?_
  try simp only [Act.put, s1, s2, s3]
  refine tkH 9 148 rfl ?_
  try simp only [Act.put, s1, s2, s3]
  refine rd1 10 (some 149) rfl fun K hK => ?_
  go_simp
  refine hK.out _ _ ?_ (fun hHeld => ?_)
  · exact HS0.out
  clear hK K
  try simp only [Act.put, s1, s2, s3]
  refine tkH 11 150 rfl ?_
  try simp only [Act.put, s1, s2, s3]
  refine rd1 12 (some 151) rfl fun K hK => ?_
  go_simp
  refine hK.out _ _ ?_ (fun hHeld => ?_)
  · exact HSA.out
  clear hK K
  try simp only [Act.put, s1, s2, s3]
  refine rd1 13 (some 152) rfl fun K hK => ?_
  go_simp
  refine HEC.out.mono ?_
  rintro e w4 ⟨rfl, H4, k4, m4⟩
  have hS2 := HSS.out _ (HSU.out _ _ _ (HKP.out.trans k4) m4)
  have K4 := Lib.hid k4
  have M4 := Lib.hid m4
  clear k4 m4
  (try dsimp only)
  refine hK.out _ _ ?_ (fun hHeld => ?_)
  · exact hS2
  clear hK K
  try simp only [Act.put, s1, s2, s3]
  refine wpAnyH_done (by kernel_rfl) ?_ _
  all_goals
    obtain ⟨x5, y1, hen5⟩ := M4.out.env (t := t) (en := en) HA.out
    have y5 := (K5.out.le (HKP.out.trans K4.out)).cell M4.out.sub
    have HAT := Lib.hid (at_any M4.out.drew (HKT.out.le (HKP.out.trans K4.out)) hen5)
    clear hen5
    go_wp2_with fail
    go_still_tail 10, (by kernel_rfl)
    change wpList _ _ _ _ _ w4.drew
    go_wp2_with fail
    refine HAT.out.mono ?_
    rintro e w5 ⟨rfl, H5, k5, m5⟩
    go_wp2
    go_end0
    exact ⟨rfl, H5, (HKP.out.trans K4.out).trans k5, m5⟩
set_option maxRecDepth 100000 in
set_option maxHeartbeats 4000000 in
theorem enter_rec {w0 : World} {mb : Nat} {H : Mem} {s : St} {w : World} (h : MS w0 mb H s w) {t : Tm} {en : Env} (ha : s.at_ = some (t, en)) {b o : Nat} (ht : TmA H b o t) (hc : complete t = true) (hk : t.k = 8) (hkn : 2 ≤ t.kids.length) :
    Calls Tryz.prog 20 #[pt mb, ptO b o] w (MEnd w0 mb H (s.goes (kid t 1) ((t.nm, .clo t.nm t.pm (kid t 0) en) :: en))) := by
  have hco := complete_any h.sub ht
  rw [hc] at hco
  have HC := Lib.hid hco
  obtain ⟨x, z1, hen⟩ := h.env ha
  obtain ⟨r0h, r2h, r3h, r4h, B, d, r6h, har⟩ := ht.heads
  have r0 := r0h.cell h.sub
  have r2 := r2h.cell h.sub
  have r3 := r3h.cell h.sub
  have r4 := r4h.cell h.sub
  have r6 := r6h.cell h.sub
  rw [hk] at r0
  obtain ⟨g, ko, c, k5, hks⟩ := ht.kidsAt (by omega)
  have r5 := k5.cell h.sub
  have hi0 : (0 : Int) < (t.kids.length : Int) := by omega
  have hn0 : 0 < t.kids.length := by omega
  have hi1 : (1 : Int) < (t.kids.length : Int) := by omega
  have hn1 : 1 < t.kids.length := by omega
  have hkt : TmA H g ko (kid t 0) := by have := hks 0 (by omega); simpa using this
  have hkt1 : TmA H g (ko + 21) (kid t 1) := by have := hks 1 (by omega); simpa using this
  obtain ⟨nm, hnm⟩ : ∃ nm, nm = t.nm := ⟨_, rfl⟩
  obtain ⟨pm, hpm⟩ : ∃ pm, pm = t.pm := ⟨_, rfl⟩
  rw [← hnm] at r2 r2h ⊢
  rw [← hpm] at r3 ⊢
  have hkp := h.alloc (.cells [.string (ba nm), .string (ba pm), ptO g ko, .pointer x].toArray 106)
  have hvv : VV _ s.cells.length (.clo nm pm (kid t 0) en) _ := .clo nm pm (kid t 0) en w.heap.size g ko (.pointer x) (ins_row H w.heap.size 106 _) (hkt.le hkp.1) (hen.le hkp.1 (Nat.le_refl _))
  obtain ⟨W, hW⟩ : ∃ W, W = (w.alloc (.cells [.string (ba nm), .string (ba pm), ptO g ko, .pointer x].toArray 106)).drew := ⟨_, rfl⟩
  have hmW := hkp.2.drew
  rw [← hW] at hmW
  have hzW : W.cell? ⟨mb, 1, none⟩ = some (.pointer x) := by rw [hW]; exact ((below_new w _).cell (p := ⟨mb, 1, none⟩) h.lt).trans z1
  have hs1 : ∀ V, Sub H V → V.cell? ⟨b, o + 2, none⟩ = some (.string (ba nm)) ∧ V.cell? ⟨b, o + 5, none⟩ = some (.slice (some ⟨g, ko, none⟩) t.kids.length c) := fun V hV => ⟨r2h.cell hV, k5.cell hV⟩
  have hsu : ∀ (H' : Mem) (S : St) (W : World), MLe H H' → MS w0 mb H' S W → Sub H W := fun H' S W k m b o hb => m.sub b o (k b o hb)
  have u2 := (hs1 W (hsu _ _ _ hkp.1 hmW)).1
  have u5 := (hs1 W (hsu _ _ _ hkp.1 hmW)).2
  have HS0 := Lib.hid (hs1 W.drew (hsu _ _ _ hkp.1 hmW.drew))
  have HSS := Lib.hid hs1
  have HSU := Lib.hid hsu
  have hzd : W.drew.cell? ⟨mb, 1, none⟩ = some (.pointer x) := hzW
  have hlw := h.lt
  have HKP := Lib.hid hkp.1
  have HFU := Lib.hid (fun_ms hmW.drew hvv)
  have HEN := Lib.hid (hen.le hkp.1 (Nat.le_refl _))
  have HKT := Lib.hid (hkt1.le hkp.1)
  have HLT := Lib.hid hmW.lt
  have HW := Lib.hid hW
  clear hco hc h ht hen har r0h r2h r3h r4h r6h ha hks k5 hkt hk hnm hpm hkp hvv hs1 hsu hmW hW hkt1
  unfold pt ptO at *
  go_enter Tryz.func20, Tryz.ntmps20
  go_wp2_with fail
  refine HC.out.mono ?_
  rintro e w2 ⟨rfl, rfl⟩
  go_wp2_with fail
  go_region
  all_goals
    rw [← HW.out]
    go_wp2_with fail
    refine wp_region_held_drew (S := fun VV => VV.cell? ⟨b, o + 2, none⟩ = some (.string (ba nm)) ∧ VV.cell? ⟨b, o + 5, none⟩ = some (.slice (some ⟨g, ko, none⟩) t.kids.length c)) (by kernel_rfl) ?_ (fun hHeld => ?_)
    · exact HS0.out
    refine tkH 0 106 rfl ?_
    try simp only [Act.put, s1, s2, s3]
    refine tkH 1 107 rfl ?_
    try simp only [Act.put, s1, s2, s3]
    refine tkH 2 108 rfl ?_
    try simp only [Act.put, s1, s2, s3]
    refine tkH 3 109 rfl ?_
    try simp only [Act.put, s1, s2, s3]
    refine tkH 4 110 rfl ?_
    try simp only [Act.put, s1, s2, s3]
    refine tkH 5 111 rfl ?_
    try simp only [Act.put, s1, s2, s3]
    refine tkH 6 112 rfl ?_
    try simp only [Act.put, s1, s2, s3]
    refine tkH 7 113 rfl ?_
    try simp only [Act.put, s1, s2, s3]
    refine tkH 8 114 rfl ?_
    try simp only [Act.put, s1, s2, s3]
    refine tkH 10 116 rfl ?_
    try simp only [Act.put, s1, s2, s3]
    refine tkH 11 117 rfl ?_
    try simp only [Act.put, s1, s2, s3]
    refine tkH 12 118 rfl ?_
    try simp only [Act.put, s1, s2, s3]
    refine tkH 13 119 rfl ?_
    try simp only [Act.put, s1, s2, s3]
    refine tkH 14 120 rfl ?_
    try simp only [Act.put, s1, s2, s3]
    refine tkH 15 121 rfl ?_
    try simp only [Act.put, s1, s2, s3]
    refine wpAnyH_ready (rs := [9, 16]) (by kernel_rfl) (by simp) ?_
    refine AllReadyH.cons (o := ⟨some 115, _, _, _, _, _⟩) rfl (fun K hK => ?_) (AllReadyH.cons (o := ⟨some 122, _, _, _, _, _⟩) rfl (fun K hK => ?_) AllReadyH.nil)
    · go_simp
      refine hK.out _ _ ?_ (fun hHeld => ?_)
      · exact HS0.out
      clear hK K
      try simp only [Act.put, s1, s2, s3]
      refine rd1 16 (some 122) rfl fun K hK => ?_
      go_simp
      refine HFU.out.mono ?_
      rintro e w3 ⟨x3, rfl, m3, hb3, hx3⟩
      have hS2 := HSS.out _ (HSU.out _ _ _ HKP.out m3)
      have z3 := (hb3.cell (p := ⟨mb, 1, none⟩) HLT.out).trans hzd
      have M3 := Lib.hid m3
      have X3 := Lib.hid hx3
      clear m3 hb3 hx3
      (try dsimp only)
      refine hK.out _ _ ?_ (fun hHeld => ?_)
      · exact hS2
      clear hK K
      try simp only [Act.put, s1, s2, s3]
      refine rd1 17 (some 123) rfl fun K hK => ?_
      go_simp
      refine (with_agg M3.out HEN.out X3.out).mono ?_
      rintro e w4 ⟨H4, x4, rfl, k4, m4, he4⟩
      have hS3 := HSS.out _ (HSU.out _ _ _ (HKP.out.trans k4) m4)
      have K4 := Lib.hid k4
      have M4 := Lib.hid m4
      have E4 := Lib.hid he4
      clear k4 m4 he4
      (try dsimp only)
      refine hK.out _ _ ?_ (fun hHeld => ?_)
      · exact hS3
      clear hK K
      try simp only [Act.put, s1, s2, s3]
      refine rd1 18 (some 124) rfl fun K hK => ?_
      go_simp
      refine (at_any M4.out (HKT.out.le K4.out) E4.out).mono ?_
      rintro e w5 ⟨rfl, H5, k5, m5⟩
      have hS4 := HSS.out _ (HSU.out _ _ _ ((HKP.out.trans K4.out).trans k5) m5)
      have K5 := Lib.hid k5
      have M5 := Lib.hid m5
      clear k5 m5
      (try dsimp only)
      refine hK.out _ _ ?_ (fun hHeld => ?_)
      · exact hS4
      clear hK K
      try simp only [Act.put, s1, s2, s3]
      refine wpAnyH_done (by kernel_rfl) ?_ _
      go_wp2
      go_end0
      exact ⟨rfl, H5, (HKP.out.trans K4.out).trans K5.out, M5.out⟩
    · go_simp
      refine HFU.out.mono ?_
      rintro e w3 ⟨x3, rfl, m3, hb3, hx3⟩
      have hS2 := HSS.out _ (HSU.out _ _ _ HKP.out m3)
      have z3 := (hb3.cell (p := ⟨mb, 1, none⟩) HLT.out).trans hzd
      have M3 := Lib.hid m3
      have X3 := Lib.hid hx3
      clear m3 hb3 hx3
      (try dsimp only)
      refine hK.out _ _ ?_ (fun hHeld => ?_)
      · exact hS2
      clear hK K
      try simp only [Act.put, s1, s2, s3]
      refine rd1 9 (some 115) rfl fun K hK => ?_
      go_simp
      refine hK.out _ _ ?_ (fun hHeld => ?_)
      · exact hS2
      clear hK K
      try simp only [Act.put, s1, s2, s3]
      refine rd1 17 (some 123) rfl fun K hK => ?_
      go_simp
      refine (with_agg M3.out HEN.out X3.out).mono ?_
      rintro e w4 ⟨H4, x4, rfl, k4, m4, he4⟩
      have hS3 := HSS.out _ (HSU.out _ _ _ (HKP.out.trans k4) m4)
      have K4 := Lib.hid k4
      have M4 := Lib.hid m4
      have E4 := Lib.hid he4
      clear k4 m4 he4
      (try dsimp only)
      refine hK.out _ _ ?_ (fun hHeld => ?_)
      · exact hS3
      clear hK K
      try simp only [Act.put, s1, s2, s3]
      refine rd1 18 (some 124) rfl fun K hK => ?_
      go_simp
      refine (at_any M4.out (HKT.out.le K4.out) E4.out).mono ?_
      rintro e w5 ⟨rfl, H5, k5, m5⟩
      have hS4 := HSS.out _ (HSU.out _ _ _ ((HKP.out.trans K4.out).trans k5) m5)
      have K5 := Lib.hid k5
      have M5 := Lib.hid m5
      clear k5 m5
      (try dsimp only)
      refine hK.out _ _ ?_ (fun hHeld => ?_)
      · exact hS4
      clear hK K
      try simp only [Act.put, s1, s2, s3]
      refine wpAnyH_done (by kernel_rfl) ?_ _
      go_wp2
      go_end0
      exact ⟨rfl, H5, (HKP.out.trans K4.out).trans K5.out, M5.out⟩
end So
end Go.Proofs.YtfkakmafedhgdaaGreatDoor.K
