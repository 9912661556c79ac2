/- The walk of the law ParseDeclares. -/
import Derived.Test.YtboejbnkkhcccaaGreatDoorLdA
import Derived.Deep.DeepCutAuto
import Derived.Deep.QuietTactic
import Derived.BigQuiet
namespace Go.Proofs.YtboejbnkkhcccaaGreatDoor
open Go.RowKit Pz

/-- A slice of truths that reads as a list. -/
def Bo (w : World) (v : Value) (l : List Bool) : Prop :=
  ∃ A c, v = .slice A l.length c ∧ l.length ≤ c ∧ (0 < l.length → ∃ a : Addr, A = some a ∧ ∀ j (h : j < l.length), w.cell? (a.add j) = some (.bool l[j]))
theorem ba_rule2 {a b c : List UInt8} (h : a ++ b = c) : ba a ++ ba b = ba c := by rw [ba_app2, h]
theorem ba_extract (x : Nat) : (ba (nmD x)).extract 1 (ba (nmD x)).size = ba (dgF 5 x) := by
  rw [extract_ba, ba_list, ba_size]
  unfold nmD
  simp
/-- Where the loop that writes the text stands. -/
def DcRel (K : List Bool) (w1 : World) (s e d i : Value) (wr : World) : Prop :=
  ∃ j : Nat, j ≤ K.length ∧ i = .int .i64 (j : Nat) ∧ s = .string (ba (decsB 0 (K.take j))) ∧
    wr.ownsRow w1.heap.size 9 1 e (idxs true 0 (K.take j)).length (((idxs true 0 (K.take j)).map nmD).map strV) ∧ wr.ownsRow w1.heap.size 9 1 d (idxs false 0 (K.take j)).length (((idxs false 0 (K.take j)).map nmD).map strV) ∧
    (∀ g, e.ownBlock = some g → d.ownBlock ≠ some g) ∧ Below w1.heap.size w1 wr
theorem dc_next {K : List Bool} {w1 wr w4 w5 : World} {b : Bool} {j : Nat} {v u v' : Value} (hj : K[j]? = some b) (hnx : Below w1.heap.size w1 wr) (hb4 : Below wr.heap.size wr w4)
    (hu : wr.ownsRow w1.heap.size 9 1 u (idxs (!b) 0 (K.take j)).length (((idxs (!b) 0 (K.take j)).map nmD).map strV)) (hv : wr.ownsRow w1.heap.size 9 1 v (idxs b 0 (K.take j)).length (((idxs b 0 (K.take j)).map nmD).map strV))
    (hne : ∀ g, v.ownBlock = some g → u.ownBlock ≠ some g)
    (hown : w5.ownsRow w1.heap.size 9 1 v' ((idxs b 0 (K.take j)).length + 1) (((idxs b 0 (K.take j)).map nmD ++ [nmD j]).map strV)) (hgr : w4.grownBy w5 v.ownBlock) (hnb : v'.ownBlock = v.ownBlock ∨ v'.ownBlock = some w4.heap.size) :
    w5.ownsRow w1.heap.size 9 1 v' (idxs b 0 (K.take (j + 1))).length (((idxs b 0 (K.take (j + 1))).map nmD).map strV) ∧ w5.ownsRow w1.heap.size 9 1 u (idxs (!b) 0 (K.take (j + 1))).length (((idxs (!b) 0 (K.take (j + 1))).map nmD).map strV) ∧
    (∀ g, v'.ownBlock = some g → u.ownBlock ≠ some g) ∧ Below w1.heap.size w1 w5 := by
  have hlt := (List.getElem?_eq_some_iff.1 hj).1
  have hjl : (K.take j).length = j := by rw [List.length_take]; omega
  have ht : K.take (j + 1) = K.take j ++ [b] := by rw [List.take_add_one, hj]; rfl
  have e1 : idxs b 0 (K.take (j + 1)) = idxs b 0 (K.take j) ++ [j] := by rw [ht, idxs_snoc, if_pos rfl, hjl, Nat.zero_add]
  have e2 : idxs (!b) 0 (K.take (j + 1)) = idxs (!b) 0 (K.take j) := by rw [ht, idxs_snoc, if_neg (by cases b <;> decide), List.append_nil]
  rw [e1, e2]
  have hsz := hnx.size
  have hsz4 := hb4.size
  refine ⟨?_, ?_, ?_, ?_⟩
  · rw [List.length_append, List.map_append]
    exact hown
  · refine own_keep (own_later hu hb4) fun g hg => ?_
    obtain ⟨h1, h2⟩ := own_block hu g hg
    exact hgr.block g (by omega) (fun e => hne g e.symm hg)
  · intro g hg hug
    obtain ⟨h1, h2⟩ := own_block hu g hug
    rcases hnb with h | h
    · exact hne g (h ▸ hg) hug
    · rw [h] at hg
      injection hg with hg
      omega
  · exact (hnx.trans (hb4.mono hsz)).grown hgr (by omega) (fun g hg => (own_block hv g hg).1)
theorem unit_cells {w : World} {P : Nat → Prop} {k p n : Nat} {nm pm : Str} {kids : List Tm} {arms : List Arm} {b : List Value} (h : HT w P (.mk k p nm pm n kids arms) b) : ∃ kv av, b = tmC k p nm pm n kv av := by
  cases h
  exact ⟨_, _, rfl⟩
theorem own_text {w : World} {B n c x i : Nat} {A : Option Addr} {E : List Nat} (h : w.ownsRow B 9 1 (.slice A n c) E.length ((E.map nmD).map strV)) (hi : i < E.length) (hx : E[i]? = some x) :
    ∃ g c2, Value.slice A n c = .slice (some ⟨g, 0, none⟩) E.length c2 ∧ E.length ≤ c2 ∧ w.cell? ⟨g, i, none⟩ = some (.string (ba (nmD x))) := by
  rcases own_cells h with ⟨_, h0⟩ | ⟨g, cap, h1, hcap, _, _, hc⟩
  · omega
  · refine ⟨g, cap, h1, hcap, hc i _ ?_⟩
    rw [List.getElem?_map, List.getElem?_map, hx]
    rfl
theorem two_range {w : World} {g o : Nat} {u v : Value} (h0 : w.cell? ⟨g, o, none⟩ = some u) (h1 : w.cell? ⟨g, o + 1, none⟩ = some v) : w.rangeAt g o [u, v] := by
  intro i x hx
  match i, hx with
  | 0, hx => simp only [List.getElem?_cons_zero, Option.some.injEq] at hx; subst hx; exact h0
  | 1, hx => simp only [List.getElem?_cons_succ, List.getElem?_cons_zero, Option.some.injEq] at hx; subst hx; exact h1
theorem own_len {w : World} {B : Nat} {e : TypeId} {n m c : Nat} {A : Option Addr} {xs : List Value} (h : w.ownsRow B e 1 (.slice A m c) n xs) : m = n := by
  rcases h.2 with ⟨h1, h2⟩ | ⟨g, cap, cur, h1, _⟩
  · injection h1 with _ h3 _; omega
  · injection h1 with _ h3 _

set_option maxRecDepth 100000 in
set_option maxHeartbeats 4000000 in
theorem parseDeclares_any (v : Value) (K0 : List Bool) (w : World) (hb : Bo w v K0) (hG : Good w) (hll : K0.length ≤ 140737488351232) :
    Calls Tryz.prog 7 #[v] w (Yes w) := by
  obtain ⟨A, c, rfl, hlc, hcell⟩ := hb
  obtain ⟨K, hK⟩ : ∃ K, K = K0.take 20 := ⟨_, rfl⟩
  have hKl : K.length = min K0.length 20 := by rw [hK, List.length_take, Nat.min_comm]
  have hK20 : K.length ≤ 20 := by omega
  have HKL := Lib.hid hKl
  have HK := Lib.hid hK
  have HC := Lib.hid hcell
  clear hKl hK hcell
  have hle0 : (0:Int) ≤ (K0.length : Int) := by omega
  go_enter Tryz.func7, Tryz.ntmps7
  go_wp2_with fail
  refine (shown_any _ hG).mono ?_
  rintro e w1 ⟨rfl, hB1⟩
  have hG1 := hG.later hB1
  have hs1 := hB1.size
  go_wp2_with fail
  go_loopw [4, 5, 6, 7] (fun s e d i wr => DcRel K w1 s e d i wr) (fun _ _ _ i _ => K.length - (intOf i).toNat)
  case atStart => exact ⟨0, Nat.zero_le _, rfl, rfl, World.ownsRow_nil _ _ _ _, World.ownsRow_nil _ _ _ _, (fun g h => by simp [Value.ownBlock] at h), Below.refl _ _⟩
  case round =>
    rename_i wr
    obtain ⟨j, hj, rfl, rfl, hoE, hoD, hne, hnx⟩ := hrel
    have HNE := Lib.hid hne
    clear hne
    have hsz := hnx.size
    have hlD := decsB_len (K.take j) 0
    rw [List.length_take] at hlD
    by_cases hlt : j < K.length
    · have hj0 : j < K0.length := by have := HKL.out; omega
      have hj20 : (j : Int) < 20 := by have := HKL.out; omega
      obtain ⟨a, rfl, hcl⟩ := HC.out (by omega)
      have hc0 : wr.cell? (a.add j) = some (.bool K0[j]) := by
        have h1 := hcl j hj0
        have h2 := (hB1.cell (p := a.add j) (World.block_lt_of_cell? _ _ h1)).trans h1
        exact (hnx.cell (p := a.add j) (World.block_lt_of_cell? _ _ h2)).trans h2
      have hKj : K[j]? = some K0[j] := by rw [HK.out, List.getElem?_take, if_pos (by omega), List.getElem?_eq_getElem hj0]
      have hd0 : decsB 0 (K.take (j + 1)) = decsB 0 (K.take j) ++ decB j K0[j] := by
        rw [List.take_add_one, hKj]
        show decsB 0 (K.take j ++ [K0[j]]) = _
        rw [decsB_snoc, List.length_take, show 0 + min j K.length = j by omega]
      obtain ⟨D0, hD0⟩ : ∃ X, X = decsB 0 (K.take j) := ⟨_, rfl⟩
      rw [← hD0] at hlD hd0 ⊢
      have hD0l : D0.length ≤ 1200 := by omega
      have HD0 := Lib.hid hd0
      have sD0 := ba_size D0
      have zD0 : (ba D0).size ≤ 1250 := by omega
      have hdl := dgF_len 5 j
      have sdg := ba_size (dgF 5 j)
      have zdg : (ba (dgF 5 j)).size ≤ 5 := by omega
      have snm := ba_size (nmD j)
      have znm : (ba (nmD j)).size ≤ 6 := by rw [snm]; unfold nmD; rw [List.length_cons]; omega
      have nD : (⟨#[68]⟩ : ByteArray) ++ ba (dgF 5 j) = ba (nmD j) := ba_app2 [68] _
      have hdg := digits_any 5 j (by omega) (by decide) (by decide)
      have hjk : j ≤ 20 := by omega
      clear hlD hD0 hd0 sD0 sdg snm hdl hcl
      generalize K0[j] = b at hc0 hKj HD0
      cases b with
      | true =>
        have q0 : ba D0 ++ ⟨#[101, 102, 102, 101, 99, 116, 32]⟩ = ba (D0 ++ [101, 102, 102, 101, 99, 116, 32]) := ba_app2 _ _
        have z0 : (ba (D0 ++ [101, 102, 102, 101, 99, 116, 32])).size ≤ 1257 := by rw [← q0, ByteArray.size_append]; show _ + 7 ≤ _; omega
        obtain ⟨Q0, hQ0⟩ : ∃ X, X = D0 ++ [101, 102, 102, 101, 99, 116, 32] := ⟨_, rfl⟩
        rw [← hQ0] at q0 z0
        have q1 : ba Q0 ++ ba (nmD j) = ba (Q0 ++ nmD j) := ba_app2 _ _
        have z1 : (ba (Q0 ++ nmD j)).size ≤ 1263 := by rw [← q1, ByteArray.size_append]; omega
        obtain ⟨Q1, hQ1⟩ : ∃ X, X = Q0 ++ nmD j := ⟨_, rfl⟩
        rw [← hQ1] at q1 z1
        have q2 : ba Q1 ++ ⟨#[32, 123, 32, 111, 112]⟩ = ba (Q1 ++ [32, 123, 32, 111, 112]) := ba_app2 _ _
        have z2 : (ba (Q1 ++ [32, 123, 32, 111, 112])).size ≤ 1268 := by rw [← q2, ByteArray.size_append]; show _ + 5 ≤ _; omega
        obtain ⟨Q2, hQ2⟩ : ∃ X, X = Q1 ++ [32, 123, 32, 111, 112] := ⟨_, rfl⟩
        rw [← hQ2] at q2 z2
        have q3 : ba Q2 ++ ba (dgF 5 j) = ba (Q2 ++ dgF 5 j) := ba_app2 _ _
        have z3 : (ba (Q2 ++ dgF 5 j)).size ≤ 1274 := by rw [← q3, ByteArray.size_append]; omega
        obtain ⟨Q3, hQ3⟩ : ∃ X, X = Q2 ++ dgF 5 j := ⟨_, rfl⟩
        rw [← hQ3] at q3 z3
        have q4 : ba Q3 ++ ⟨#[32, 58, 32, 105, 110, 116, 32, 45, 62, 32]⟩ = ba (Q3 ++ [32, 58, 32, 105, 110, 116, 32, 45, 62, 32]) := ba_app2 _ _
        have z4 : (ba (Q3 ++ [32, 58, 32, 105, 110, 116, 32, 45, 62, 32])).size ≤ 1284 := by rw [← q4, ByteArray.size_append]; show _ + 10 ≤ _; omega
        obtain ⟨Q4, hQ4⟩ : ∃ X, X = Q3 ++ [32, 58, 32, 105, 110, 116, 32, 45, 62, 32] := ⟨_, rfl⟩
        rw [← hQ4] at q4 z4
        have q5 : ba Q4 ++ ba (nmD j) = ba (Q4 ++ nmD j) := ba_app2 _ _
        have z5 : (ba (Q4 ++ nmD j)).size ≤ 1290 := by rw [← q5, ByteArray.size_append]; omega
        obtain ⟨Q5, hQ5⟩ : ∃ X, X = Q4 ++ nmD j := ⟨_, rfl⟩
        rw [← hQ5] at q5 z5
        have q6 : ba Q5 ++ ⟨#[32, 125, 32]⟩ = ba (decsB 0 (K.take (j + 1))) := (ba_app2 Q5 [32, 125, 32]).trans (congrArg ba (by rw [HD0.out, hQ5, hQ4, hQ3, hQ2, hQ1, hQ0]; unfold decB effB nmO; simp))
        clear hQ0 hQ1 hQ2 hQ3 hQ4 hQ5
        go_wp2_with fail
        refine (hdg _).mono ?_
        rintro e w2 ⟨rfl, hb2⟩
        have hc2 := (hb2.cell (p := a.add j) (World.block_lt_of_cell? _ _ hc0)).trans hc0
        have hs2 := hb2.size
        go_wp2_with fail
        refine (hdg _).mono ?_
        rintro e w3 ⟨rfl, hb3⟩
        have hb03 := hb2.trans (hb3.mono hs2)
        have hb4 := hb03.trans ((below_new w3 (.cells #[.string (ba (nmD j))] 9)).mono hb03.size)
        obtain ⟨A8, m8, c8, hv8⟩ := own_slice hoE
        have hn8 := hoE.1
        have HO8 := Lib.hid (own_later hoE hb4)
        have HOA := Lib.hid hoE
        have HOB := Lib.hid hoD
        have hcell := Lies.new w3 9 #[.string (ba (nmD j))]
        have hcl2 := hcell.cell 0
        have hlen8 := idxs_len true (K.take j) 0
        rw [List.length_take] at hlen8
        have hsz4 := hb4.size
        clear hoE hoD hcell hn8
        subst hv8
        have hl8 := HOA.out
        obtain rfl : m8 = (idxs true 0 (K.take j)).length := own_len hl8
        clear hl8
        go_wp2_with (at_builtin; go_loud (refine wpList_append_text rfl (.tmp 46) (.tmp 48) rfl w1.heap.size _ _ _ rfl HO8.out _ _ (nmD j) rfl hcl2 (by omega) (by omega) ?_); intro v5 w5 hown5 hgr5 hnb5)
        go_roundw
        case rel =>
          obtain ⟨r1, r2, r3, r4⟩ := dc_next (b := true) hKj hnx hb4 HOB.out HOA.out HNE.out hown5 hgr5 hnb5
          exact ⟨j + 1, by omega, by go_num, rfl, r1, r2, r3, r4⟩
        case measure => simp [intOf] <;> omega
      | false =>
        have q0 : ba D0 ++ ⟨#[100, 97, 116, 97, 32]⟩ = ba (D0 ++ [100, 97, 116, 97, 32]) := ba_app2 _ _
        have z0 : (ba (D0 ++ [100, 97, 116, 97, 32])).size ≤ 1255 := by rw [← q0, ByteArray.size_append]; show _ + 5 ≤ _; omega
        obtain ⟨Q0, hQ0⟩ : ∃ X, X = D0 ++ [100, 97, 116, 97, 32] := ⟨_, rfl⟩
        rw [← hQ0] at q0 z0
        have q1 : ba Q0 ++ ba (nmD j) = ba (Q0 ++ nmD j) := ba_app2 _ _
        have z1 : (ba (Q0 ++ nmD j)).size ≤ 1261 := by rw [← q1, ByteArray.size_append]; omega
        obtain ⟨Q1, hQ1⟩ : ∃ X, X = Q0 ++ nmD j := ⟨_, rfl⟩
        rw [← hQ1] at q1 z1
        have q2 : ba Q1 ++ ⟨#[32, 123, 32, 67]⟩ = ba (Q1 ++ [32, 123, 32, 67]) := ba_app2 _ _
        have z2 : (ba (Q1 ++ [32, 123, 32, 67])).size ≤ 1265 := by rw [← q2, ByteArray.size_append]; show _ + 4 ≤ _; omega
        obtain ⟨Q2, hQ2⟩ : ∃ X, X = Q1 ++ [32, 123, 32, 67] := ⟨_, rfl⟩
        rw [← hQ2] at q2 z2
        have q3 : ba Q2 ++ ba (dgF 5 j) = ba (Q2 ++ dgF 5 j) := ba_app2 _ _
        have z3 : (ba (Q2 ++ dgF 5 j)).size ≤ 1271 := by rw [← q3, ByteArray.size_append]; omega
        obtain ⟨Q3, hQ3⟩ : ∃ X, X = Q2 ++ dgF 5 j := ⟨_, rfl⟩
        rw [← hQ3] at q3 z3
        have q4 : ba Q3 ++ ⟨#[32, 98, 111, 111, 108, 32, 117, 110, 105, 116, 32, 125, 32]⟩ = ba (decsB 0 (K.take (j + 1))) := (ba_app2 Q3 [32, 98, 111, 111, 108, 32, 117, 110, 105, 116, 32, 125, 32]).trans (congrArg ba (by rw [HD0.out, hQ3, hQ2, hQ1, hQ0]; unfold decB datB nmC; simp))
        clear hQ0 hQ1 hQ2 hQ3
        go_wp2_with fail
        refine (hdg _).mono ?_
        rintro e w2 ⟨rfl, hb2⟩
        have hc2 := (hb2.cell (p := a.add j) (World.block_lt_of_cell? _ _ hc0)).trans hc0
        have hs2 := hb2.size
        go_wp2_with fail
        refine (hdg _).mono ?_
        rintro e w3 ⟨rfl, hb3⟩
        have hb03 := hb2.trans (hb3.mono hs2)
        have hb4 := hb03.trans ((below_new w3 (.cells #[.string (ba (nmD j))] 9)).mono hb03.size)
        obtain ⟨A8, m8, c8, hv8⟩ := own_slice hoD
        have hn8 := hoD.1
        have HO8 := Lib.hid (own_later hoD hb4)
        have HOA := Lib.hid hoD
        have HOB := Lib.hid hoE
        have hcell := Lies.new w3 9 #[.string (ba (nmD j))]
        have hcl2 := hcell.cell 0
        have hlen8 := idxs_len false (K.take j) 0
        rw [List.length_take] at hlen8
        have hsz4 := hb4.size
        clear hoE hoD hcell hn8
        subst hv8
        have hl8 := HOA.out
        obtain rfl : m8 = (idxs false 0 (K.take j)).length := own_len hl8
        clear hl8
        go_wp2_with (at_builtin; go_loud (refine wpList_append_text rfl (.tmp 59) (.tmp 61) rfl w1.heap.size _ _ _ rfl HO8.out _ _ (nmD j) rfl hcl2 (by omega) (by omega) ?_); intro v5 w5 hown5 hgr5 hnb5)
        go_roundw
        case rel =>
          obtain ⟨r1, r2, r3, r4⟩ := dc_next (b := false) hKj hnx hb4 HOB.out HOA.out (fun g h1 h2 => HNE.out g h2 h1) hown5 hgr5 hnb5
          exact ⟨j + 1, by omega, by go_num, rfl, r2, r1, fun g h1 h2 => r3 g h2 h1, r4⟩
        case measure => simp [intOf] <;> omega
    · obtain rfl : j = K.length := by omega
      rw [List.take_of_length_le (Nat.le_refl _)] at hoE hoD ⊢
      have hwhich : ¬ K.length < K0.length ∨ ((20 : Int) ≤ (K.length : Int) ∧ K.length < K0.length) := by have := HKL.out; omega
      obtain ⟨p, hp⟩ := decs_parse K hK20
      obtain ⟨D0, hD0⟩ : ∃ X, X = decsB 0 K := ⟨_, rfl⟩
      obtain ⟨E, hE⟩ : ∃ X, X = idxs true 0 K := ⟨_, rfl⟩
      obtain ⟨D, hD⟩ : ∃ X, X = idxs false 0 K := ⟨_, rfl⟩
      have hlD := decsB_len K 0
      have hEl := idxs_len true K 0
      have hDl := idxs_len false K 0
      rw [← hD0] at hlD hp ⊢
      rw [← hE] at hEl hp hoE
      rw [← hD] at hDl hp hoD
      have hD0l : D0.length ≤ 1200 := by omega
      have HP := Lib.hid hp
      clear hp hD0 hE hD hlD
      obtain ⟨A5, m5, c5, rfl⟩ := own_slice hoE
      obtain ⟨A6, m6, c6, rfl⟩ := own_slice hoD
      obtain rfl : m5 = E.length := own_len hoE
      obtain rfl : m6 = D.length := own_len hoD
      have hA : ba D0 ++ ⟨#[40, 41]⟩ = ba (D0 ++ unitB) := ba_app2 _ _
      have hAl : (D0 ++ unitB).length ≤ 1300 := by rw [List.length_append]; show _ + 2 ≤ _; omega
      obtain ⟨X5, hX5⟩ : ∃ X, X = D0 ++ unitB := ⟨_, rfl⟩
      rw [← hX5] at hA hAl HP
      have sD0 := ba_size D0
      have zD0 : (ba D0).size ≤ 1200 := by omega
      clear hX5 sD0
      have hGr := hG1.later hnx
      have hBr := hB1.trans (hnx.mono hs1)
      have hcv := conv_sb
      have hbs := Bs.bytes wr X5 X5.length (ba_size _).symm
      have hBb := Lib.bytesWorld_below wr 5 (ba X5)
      have hG3 := hGr.later hBb
      have hB3 := hBr.trans (hBb.mono hBr.size)
      have hoE2 := own_later hoE hBb
      have hoD2 := own_later hoD hBb
      have HG3 := Lib.hid hG3
      rcases hwhich with hk1 | ⟨hk1, hk2⟩
      all_goals
        go_wp2_with fail
        refine (parse_any _ X5 _ hbs HG3.out (by omega)).mono ?_
        rintro e w3 ⟨l1, rfl, hit1, hB4⟩
        have hB03 := hB3.trans (hB4.mono hB3.size)
        have hs3 := hB03.size
        obtain ⟨hon1, hsz1, hzz1⟩ := pg_store hit1
        have HON1 := Lib.hid hon1
        have HSZ1 := Lib.hid hsz1
        have HZZ1 := Lib.hid hzz1
        have lz1 := Lies.new w3 41 zP
        have lp1 := Lies.new w3 41 l1.toArray
        have hb5 := below_new w3 (.cells l1.toArray 41)
        have hB05 := hB03.trans (hb5.mono hs3)
        have hoE3 := own_later (own_later hoE2 hB4) hb5
        have hoD3 := own_later (own_later hoD2 hB4) hb5
        unfold zP at lz1 HZZ1
        clear hon1 hsz1 hzz1
        rw [HP.out] at hit1 ⊢
        dsimp only at hit1 ⊢
        obtain ⟨A1, ca1, B1, cb1, b1, hl1, hT1, hca1, hcb1, hE1, hD1⟩ := open_decls hit1
        obtain ⟨kv1, av1, hb1'⟩ := unit_cells hT1
        obtain ⟨W, hW⟩ : ∃ W, W = w3.alloc (.cells l1.toArray 41) := ⟨_, rfl⟩
        have d0 : W.cell? ⟨w3.heap.size, 0, none⟩ = some (.slice A1 E.length ca1) := by rw [hW, lp1.cell, hl1]; rfl
        have d1 : W.cell? ⟨w3.heap.size, 1, none⟩ = some (.slice B1 D.length cb1) := by rw [hW, lp1.cell, hl1]; rfl
        have d2 : W.cell? ⟨w3.heap.size, 2, none⟩ = some (.int .i64 4) := by rw [hW, lp1.cell, hl1, hb1']; rfl
        rw [← hW] at hB05 hoE3 hoD3
        have HCE : Hid (0 < E.length → ∃ ge, A1 = some ⟨ge, 0, none⟩ ∧ ∀ (i x : Nat), E[i]? = some x → ∃ go co, W.cell? ⟨ge, i * 2, none⟩ = some (.string (ba (nmD x))) ∧ W.cell? ⟨ge, i * 2 + 1, none⟩ = some (.slice (some ⟨go, 0, none⟩) 1 co) ∧ 1 ≤ co ∧
          W.cell? ⟨go, 0, none⟩ = some (.string (ba (nmO x))) ∧ W.cell? ⟨go, 1, none⟩ = some (.int .i64 1) ∧ W.cell? ⟨go, 8, none⟩ = some (.string (ba (nmD x)))) := Lib.hid (fun h0 => by
            obtain ⟨ge, h1, h2⟩ := hE1 h0
            refine ⟨ge, h1, fun i x hi => ?_⟩
            obtain ⟨go, co, k0, k1, k2, k3, k4, k5⟩ := h2 i x hi
            rw [hW]
            exact ⟨go, co, (hb5.cell (World.block_lt_of_cell? _ _ k0)).trans k0, (hb5.cell (World.block_lt_of_cell? _ _ k1)).trans k1, k2, (hb5.cell (World.block_lt_of_cell? _ _ k3)).trans k3, (hb5.cell (World.block_lt_of_cell? _ _ k4)).trans k4, (hb5.cell (World.block_lt_of_cell? _ _ k5)).trans k5⟩)
        have HCD : Hid (0 < D.length → ∃ ge, B1 = some ⟨ge, 0, none⟩ ∧ ∀ (i x : Nat), D[i]? = some x → ∃ go co gf cf, W.cell? ⟨ge, i * 2, none⟩ = some (.string (ba (nmD x))) ∧ W.cell? ⟨ge, i * 2 + 1, none⟩ = some (.slice (some ⟨go, 0, none⟩) 1 co) ∧ 1 ≤ co ∧
          W.cell? ⟨go, 0, none⟩ = some (.string (ba (nmC x))) ∧ W.cell? ⟨go, 1, none⟩ = some (.slice (some ⟨gf, 0, none⟩) 2 cf) ∧ 2 ≤ cf ∧ W.cell? ⟨gf, 6, none⟩ = some (.int .i64 3)) := Lib.hid (fun h0 => by
            obtain ⟨ge, h1, h2⟩ := hD1 h0
            refine ⟨ge, h1, fun i x hi => ?_⟩
            obtain ⟨go, co, gf, cf, k0, k1, k2, k3, k4, k5, k6⟩ := h2 i x hi
            rw [hW]
            exact ⟨go, co, gf, cf, (hb5.cell (World.block_lt_of_cell? _ _ k0)).trans k0, (hb5.cell (World.block_lt_of_cell? _ _ k1)).trans k1, k2, (hb5.cell (World.block_lt_of_cell? _ _ k3)).trans k3, (hb5.cell (World.block_lt_of_cell? _ _ k4)).trans k4, k5, (hb5.cell (World.block_lt_of_cell? _ _ k6)).trans k6⟩)
        have HOE := Lib.hid hoE3
        have HOD := Lib.hid hoD3
        have HW := Lib.hid hW
        have d0' := d0
        have d1' := d1
        have d2' := d2
        rw [hW] at d0' d1' d2'
        clear hW hit1 hT1 hE1 hD1 hl1 hb1' hoE3 hoD3 lp1 hb5 hB4 hA hAl zD0 hcv hbs hBb
        go_upto_region 15 with ((with_reducible show wpList _ _ _ (⟨_, Op.store _ (.tmp 9) _, _, _, _, _⟩ :: _) _ _); refine wpList_store_rowTo rfl 41 (.tmp 9) (.tmp 68) rfl rfl _ l1.toArray rfl rfl 41 _ lz1 HSZ1.out HZZ1.out HON1.out ?_; rw [set_new rfl])
        go_wp2_with fail
        rw [← HW.out]
        clear d0' d1' d2' lz1
        go_loopw [12] (fun i wq => ∃ q : Nat, q ≤ E.length ∧ i = .int .i64 (q : Nat) ∧ Below W.heap.size W wq) (fun i _ => E.length - (intOf i).toNat)
        case atStart => exact ⟨0, Nat.zero_le _, rfl, Below.refl _ _⟩
        case round =>
          rename World => wq
          obtain ⟨q, hq, rfl, hbq⟩ := hrel
          by_cases hqj : q < E.length
          · obtain ⟨x, hx⟩ : ∃ x, E[q]? = some x := ⟨_, List.getElem?_eq_getElem hqj⟩
            obtain ⟨ge, rfl, hce⟩ := HCE.out (by omega)
            obtain ⟨go, co, k0, k1, hco, k2, k3, k4⟩ := hce q x hx
            obtain ⟨g5, c5, h5, h5c, k5⟩ := own_text HOE.out hqj hx
            injection h5 with h5a h5b h5d
            subst h5a h5d
            clear h5b
            have hszq := hbq.size
            have D8 := (hbq.cell (p := ⟨w3.heap.size, 0, none⟩) (World.block_lt_of_cell? _ _ d0)).trans d0
            have m0 := (hbq.cell (p := ⟨ge, q * 2, none⟩) (World.block_lt_of_cell? _ _ k0)).trans k0
            have m1 := (hbq.cell (p := ⟨ge, q * 2 + 1, none⟩) (World.block_lt_of_cell? _ _ k1)).trans k1
            have m2 := (hbq.cell (p := ⟨go, 0, none⟩) (World.block_lt_of_cell? _ _ k2)).trans k2
            have m3 := (hbq.cell (p := ⟨go, 1, none⟩) (World.block_lt_of_cell? _ _ k3)).trans k3
            have m4 := (hbq.cell (p := ⟨go, 8, none⟩) (World.block_lt_of_cell? _ _ k4)).trans k4
            have m5 := (hbq.cell (p := ⟨g5, q, none⟩) (World.block_lt_of_cell? _ _ k5)).trans k5
            have hr : wq.rangeAt ge (q * 2) [.string (ba (nmD x)), .slice (some ⟨go, 0, none⟩) 1 co] := two_range m0 m1
            have lz := Lies.new wq 56 #[.string ⟨#[]⟩, .slice none 0 0]
            have lA := Lies.new wq 56 #[.string (ba (nmD x)), .slice (some ⟨go, 0, none⟩) 1 co]
            have hbA := below_new wq (.cells #[.string (ba (nmD x)), .slice (some ⟨go, 0, none⟩) 1 co] 56)
            have n2 := (hbA.cell (p := ⟨go, 0, none⟩) (World.block_lt_of_cell? _ _ m2)).trans m2
            have n3 := (hbA.cell (p := ⟨go, 1, none⟩) (World.block_lt_of_cell? _ _ m3)).trans m3
            have n4 := (hbA.cell (p := ⟨go, 8, none⟩) (World.block_lt_of_cell? _ _ m4)).trans m4
            have n5 := (hbA.cell (p := ⟨g5, q, none⟩) (World.block_lt_of_cell? _ _ m5)).trans m5
            have hbAll := hbq.trans (hbA.mono hszq)
            clear hce k0 k1 k2 k3 k4 k5 m0 m1 m2 m3 m4 m5
            go_upto_region 21 with (first | ((with_reducible show wpList _ _ _ (⟨_, Op.load _ (.tmp 104), _, _, _, _⟩ :: _) _ _); refine wpList_load_mid rfl 56 (.tmp 104) rfl ge (q * 2) rfl [.string (ba (nmD x)), .slice (some ⟨go, 0, none⟩) 1 co] _ hr Tryz.underlying56 rfl (by rw [sz_effect]; rfl) ?_) | ((with_reducible show wpList _ _ _ (⟨_, Op.store _ (.tmp 13) _, _, _, _, _⟩ :: _) _ _); refine wpList_store_rowTo rfl 56 (.tmp 13) (.tmp 105) rfl rfl _ #[.string (ba (nmD x)), .slice (some ⟨go, 0, none⟩) 1 co] rfl rfl 56 _ lz (by rw [sz_effect]; rfl) rfl (by rfl) ?_; rw [set_new rfl]))
            obtain ⟨W2, hW2⟩ : ∃ W2, W2 = wq.alloc (.cells #[.string (ba (nmD x)), .slice (some ⟨go, 0, none⟩) 1 co] 56) := ⟨_, rfl⟩
            rw [← hW2]
            rw [← hW2] at lA n2 n3 n4 n5 hbAll
            have p0 : W2.cell? ⟨wq.heap.size, 0, none⟩ = some (.string (ba (nmD x))) := lA.cell 0
            have p1 : W2.cell? ⟨wq.heap.size, 1, none⟩ = some (.slice (some ⟨go, 0, none⟩) 1 co) := lA.cell 1
            clear hW2 lz lA hr hbA D8
            have hext := ba_extract x
            have hx1 : 1 ≤ (ba (nmD x)).size := by rw [ba_size]; unfold nmD; rw [List.length_cons]; omega
            have hx2 : (ba (nmD x)).size ≤ 6 := by have := dgF_len 5 x; rw [ba_size]; unfold nmD; rw [List.length_cons]; omega
            have hx3 : (ba (dgF 5 x)).size ≤ 5 := by have := dgF_len 5 x; rw [ba_size]; omega
            have nO : (⟨#[111, 112]⟩ : ByteArray) ++ ba (dgF 5 x) = ba (nmO x) := ba_app2 [111, 112] _
            have hq0 : (0 : Int) ≤ (q : Int) := by omega
            have hqe : (q : Int) < (E.length : Int) := by omega
            go_quiet (fail)
            go_wp2_with fail
            go_roundw
            case rel => first | exact ⟨q + 1, by omega, by go_num, bdrewN hbAll _⟩ | ((repeat apply Exists.intro); exact ⟨⟨q + 1, by omega, by go_num, bdrewN hbAll _⟩, rfl⟩)
            case measure => simp [intOf] <;> omega
          · obtain rfl : q = E.length := by omega
            go_wp2_with fail
            have hbW1 := hbq
            clear hbq
            go_loopw [14] (fun i wq => ∃ q : Nat, q ≤ D.length ∧ i = .int .i64 (q : Nat) ∧ Below W.heap.size W wq) (fun i _ => D.length - (intOf i).toNat)
            case atStart => exact ⟨0, Nat.zero_le _, rfl, hbW1⟩
            case round =>
              rename World => wq
              obtain ⟨q, hq, rfl, hbq⟩ := hrel
              by_cases hqj : q < D.length
              · obtain ⟨x, hx⟩ : ∃ x, D[q]? = some x := ⟨_, List.getElem?_eq_getElem hqj⟩
                obtain ⟨ge, rfl, hce⟩ := HCD.out (by omega)
                obtain ⟨go, co, gf, cf, k0, k1, hco, k2, k3, hcf, k4⟩ := hce q x hx
                obtain ⟨g5, c5, h5, h5c, k5⟩ := own_text HOD.out hqj hx
                injection h5 with h5a h5b h5d
                subst h5a h5d
                clear h5b
                have hszq := hbq.size
                have D8 := (hbq.cell (p := ⟨w3.heap.size, 1, none⟩) (World.block_lt_of_cell? _ _ d1)).trans d1
                have m0 := (hbq.cell (p := ⟨ge, q * 2, none⟩) (World.block_lt_of_cell? _ _ k0)).trans k0
                have m1 := (hbq.cell (p := ⟨ge, q * 2 + 1, none⟩) (World.block_lt_of_cell? _ _ k1)).trans k1
                have m2 := (hbq.cell (p := ⟨go, 0, none⟩) (World.block_lt_of_cell? _ _ k2)).trans k2
                have m3 := (hbq.cell (p := ⟨go, 1, none⟩) (World.block_lt_of_cell? _ _ k3)).trans k3
                have m4 := (hbq.cell (p := ⟨gf, 6, none⟩) (World.block_lt_of_cell? _ _ k4)).trans k4
                have m5 := (hbq.cell (p := ⟨g5, q, none⟩) (World.block_lt_of_cell? _ _ k5)).trans k5
                have hr : wq.rangeAt ge (q * 2) [.string (ba (nmD x)), .slice (some ⟨go, 0, none⟩) 1 co] := two_range m0 m1
                have lz := Lies.new wq 67 #[.string ⟨#[]⟩, .slice none 0 0]
                have lA := Lies.new wq 67 #[.string (ba (nmD x)), .slice (some ⟨go, 0, none⟩) 1 co]
                have hbA := below_new wq (.cells #[.string (ba (nmD x)), .slice (some ⟨go, 0, none⟩) 1 co] 67)
                have n2 := (hbA.cell (p := ⟨go, 0, none⟩) (World.block_lt_of_cell? _ _ m2)).trans m2
                have n3 := (hbA.cell (p := ⟨go, 1, none⟩) (World.block_lt_of_cell? _ _ m3)).trans m3
                have n4 := (hbA.cell (p := ⟨gf, 6, none⟩) (World.block_lt_of_cell? _ _ m4)).trans m4
                have n5 := (hbA.cell (p := ⟨g5, q, none⟩) (World.block_lt_of_cell? _ _ m5)).trans m5
                have hbAll := hbq.trans (hbA.mono hszq)
                clear hce k0 k1 k2 k3 k4 k5 m0 m1 m2 m3 m4 m5
                go_upto_region 27 with (first | ((with_reducible show wpList _ _ _ (⟨_, Op.load _ (.tmp 164), _, _, _, _⟩ :: _) _ _); refine wpList_load_mid rfl 67 (.tmp 164) rfl ge (q * 2) rfl [.string (ba (nmD x)), .slice (some ⟨go, 0, none⟩) 1 co] _ hr Tryz.underlying67 rfl (by rw [sz_data]; rfl) ?_) | ((with_reducible show wpList _ _ _ (⟨_, Op.store _ (.tmp 15) _, _, _, _, _⟩ :: _) _ _); refine wpList_store_rowTo rfl 67 (.tmp 15) (.tmp 165) rfl rfl _ #[.string (ba (nmD x)), .slice (some ⟨go, 0, none⟩) 1 co] rfl rfl 67 _ lz (by rw [sz_data]; rfl) rfl (by rfl) ?_; rw [set_new rfl]))
                obtain ⟨W2, hW2⟩ : ∃ W2, W2 = wq.alloc (.cells #[.string (ba (nmD x)), .slice (some ⟨go, 0, none⟩) 1 co] 67) := ⟨_, rfl⟩
                rw [← hW2]
                rw [← hW2] at lA n2 n3 n4 n5 hbAll
                have p0 : W2.cell? ⟨wq.heap.size, 0, none⟩ = some (.string (ba (nmD x))) := lA.cell 0
                have p1 : W2.cell? ⟨wq.heap.size, 1, none⟩ = some (.slice (some ⟨go, 0, none⟩) 1 co) := lA.cell 1
                clear hW2 lz lA hr hbA D8
                have hext := ba_extract x
                have hx1 : 1 ≤ (ba (nmD x)).size := by rw [ba_size]; unfold nmD; rw [List.length_cons]; omega
                have hx2 : (ba (nmD x)).size ≤ 6 := by have := dgF_len 5 x; rw [ba_size]; unfold nmD; rw [List.length_cons]; omega
                have hx3 : (ba (dgF 5 x)).size ≤ 5 := by have := dgF_len 5 x; rw [ba_size]; omega
                have nO : (⟨#[67]⟩ : ByteArray) ++ ba (dgF 5 x) = ba (nmC x) := ba_app2 [67] _
                have hq0 : (0 : Int) ≤ (q : Int) := by omega
                have hqe : (q : Int) < (D.length : Int) := by omega
                go_quiet (fail)
                go_wp2_with fail
                go_roundw
                case rel => first | exact ⟨q + 1, by omega, by go_num, bdrewN hbAll _⟩ | ((repeat apply Exists.intro); exact ⟨⟨q + 1, by omega, by go_num, bdrewN hbAll _⟩, rfl⟩)
                case measure => simp [intOf] <;> omega
              · obtain rfl : q = D.length := by omega
                go_wp2_with fail
                go_ret
                exact ⟨rfl, hB05.trans (hbq.mono hB05.size)⟩
end Go.Proofs.YtboejbnkkhcccaaGreatDoor
