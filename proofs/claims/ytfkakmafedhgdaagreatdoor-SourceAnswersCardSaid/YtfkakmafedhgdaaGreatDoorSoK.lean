/- The machine of package source: what an operator makes of its values. -/
import Derived.Test.YtfkakmafedhgdaaGreatDoorMg11
namespace Go.Proofs.YtfkakmafedhgdaaGreatDoor.K
open Go Go.RowKit
namespace So

theorem of_kind1' {v : Val} (h : kV v = 1) : v = .lit 1 (nV v) := by
  obtain ⟨n, rfl⟩ := of_kind1 h
  rfl
theorem of_kind5' {v : Val} (h : kV v = 5) : v = .lit 5 (nV v) := by
  obtain ⟨n, rfl⟩ := of_kind5 h
  rfl
theorem VV.ref5 {H : Mem} {N : Nat} {m : Int} {l : List Value} (h : VV H N (.lit 5 m) l) : l = litL 5 m ∧ 0 ≤ m ∧ m < (N : Int) := by
  cases h with
  | lit _ _ hc => exact ⟨rfl, by omega, by omega⟩
/-- The values that an operator is called with. -/
structure ArgsAt (H : Mem) (N : Nat) (l : List Val) (g : Nat) (cur : Array Value) : Prop where
  mem : H g = some (.cells cur 68 (0, 0))
  size : cur.size = l.length * 4
  row : RowAt H N cur l 0
theorem ArgsAt.get {H : Mem} {N : Nat} {w : World} {l : List Val} {g : Nat} {cur : Array Value} (h : ArgsAt H N l g cur) (hs : Sub H w) {i : Nat} {v : Val} (hv : l[i]? = some v) :
    ∃ k n p f, VV H N v [.int .i64 k, .int .i64 n, .pointer p, f] ∧ IfV f ∧ w.cell? ⟨g, i * 4, none⟩ = some (.int .i64 k) ∧ w.cell? ⟨g, i * 4 + 1, none⟩ = some (.int .i64 n) ∧ w.cell? ⟨g, i * 4 + 2, none⟩ = some (.pointer p) ∧ w.cell? ⟨g, i * 4 + 3, none⟩ = some f := by
  obtain ⟨a, b, c, d, hvv, h0, h1, h2, h3⟩ := h.row i v (Nat.zero_le _) hv
  obtain ⟨k, n, p, f, he, hf⟩ := hvv.four
  simp only [List.cons.injEq, and_true] at he
  obtain ⟨rfl, rfl, rfl, rfl⟩ := he
  have hl : Lies w g 68 cur := hs _ _ h.mem
  exact ⟨k, n, p, _, hvv, hf, (hl.cell _).trans h0, (hl.cell _).trans h1, (hl.cell _).trans h2, (hl.cell _).trans h3⟩
set_option maxRecDepth 100000 in
set_option maxHeartbeats 4000000 in
theorem operate_read {w0 : World} {mb : Nat} {H : Mem} {s : St} {w : World} (h : MS w0 mb H s w) {l : List Val} {g : Nat} {cur : Array Value} (_ha : ArgsAt H s.cells.length l g cur) :
    Calls Tryz.prog 60 #[pt mb, .string (ba [114, 101, 97, 100]), .slice (some ⟨g, 0, none⟩) l.length l.length] w (MEnd w0 mb H (operate [114, 101, 97, 100] l s)) := by
  have t_read := tl_is (m := [114, 101, 97, 100]) (l := [114, 101, 97, 100]) rfl
  obtain ⟨n, hn⟩ : ∃ n, n = l.length := ⟨_, rfl⟩
  rw [← hn]
  have hr : Calls Tryz.prog 84 #[pt mb] w (MEnd w0 mb H (operate [114, 101, 97, 100] l s)) := by
    cases hi : s.input with
    | nil =>
      have e : operate [114, 101, 97, 100] l s = s.ends 3 := by unfold operate; rw [if_pos rfl, hi]
      rw [e]
      exact read_none h hi
    | cons n r =>
      have e : operate [114, 101, 97, 100] l s = { s.has (.lit 1 n) with input := r } := by unfold operate; rw [if_pos rfl, hi]
      rw [e]
      exact read_some h hi
  have HR := Lib.hid hr
  clear hr _ha h hn
  unfold pt at HR ⊢
  go_enter Tryz.func60, Tryz.ntmps60
  go_wp2_with fail
  refine HR.out.mono ?_
  rintro e w3 ⟨rfl, H3, k3, m3⟩
  go_wp2
  go_end0
  exact ⟨rfl, H3, k3, m3⟩
set_option maxRecDepth 100000 in
set_option maxHeartbeats 4000000 in
theorem operate_print {w0 : World} {mb : Nat} {H : Mem} {s : St} {w : World} (h : MS w0 mb H s w) {l : List Val} {g : Nat} {cur : Array Value} (ha : ArgsAt H s.cells.length l g cur) (hl : l.length = 1) (hb : s.trace.length ≤ 1000000) :
    Calls Tryz.prog 60 #[pt mb, .string (ba [112, 114, 105, 110, 116]), .slice (some ⟨g, 0, none⟩) l.length l.length] w (MEnd w0 mb H (operate [112, 114, 105, 110, 116] l s)) := by
  have t_read := tl_not (m := [112, 114, 105, 110, 116]) (l := [114, 101, 97, 100]) (by decide)
  have t_print := tl_is (m := [112, 114, 105, 110, 116]) (l := [112, 114, 105, 110, 116]) rfl
  obtain ⟨v, rfl⟩ : ∃ v, l = [v] := by
    match l, hl with
    | [v], _ => exact ⟨v, rfl⟩
  obtain ⟨k, n, p, f, hvv, hf, q0, q1, q2, q3⟩ := ha.get h.sub (i := 0) (v := v) rfl
  have q0 : w.cell? ⟨g, 0, none⟩ = some (.int .i64 k) := q0
  have q1 : w.cell? ⟨g, 1, none⟩ = some (.int .i64 n) := q1
  have q2 : w.cell? ⟨g, 2, none⟩ = some (.pointer p) := q2
  have q3 : w.cell? ⟨g, 3, none⟩ = some f := q3
  have hr : Calls Tryz.prog 85 #[pt mb, .agg #[.int .i64 k, .int .i64 n, .pointer p, f]] w (MEnd w0 mb H (operate [112, 114, 105, 110, 116] [v] s)) := by
    by_cases hk : kV v = 1
    · have e : operate [112, 114, 105, 110, 116] [v] s = { s.has unitV with trace := s.trace ++ [nV v] } := by unfold operate; rw [if_neg (by decide), if_pos rfl]; exact if_pos hk
      rw [e]
      have hv1 := of_kind1' hk
      obtain ⟨m, hm⟩ : ∃ m, m = nV v := ⟨_, rfl⟩
      rw [← hm] at hv1 ⊢
      subst hv1
      have hh := print_int h m hb
      cases hvv
      exact hh
    · have e : operate [112, 114, 105, 110, 116] [v] s = s.ends 4 := by unfold operate; rw [if_neg (by decide), if_pos rfl]; exact if_neg hk
      rw [e]
      exact print_stuck h hvv hk
  have HR := Lib.hid hr
  clear hr ha h hvv hl
  unfold pt at HR ⊢
  rcases hf with rfl | ⟨ft, fx, rfl⟩
  all_goals
    go_enter Tryz.func60, Tryz.ntmps60
    go_wp2_with fail
    refine HR.out.mono ?_
    rintro e w3 ⟨rfl, H3, k3, m3⟩
    go_wp2
    go_end0
    exact ⟨rfl, H3, k3, m3⟩
set_option maxRecDepth 100000 in
set_option maxHeartbeats 4000000 in
theorem operate_deref {w0 : World} {mb : Nat} {H : Mem} {s : St} {w : World} (h : MS w0 mb H s w) {l : List Val} {g : Nat} {cur : Array Value} (ha : ArgsAt H s.cells.length l g cur) (hl : l.length = 1) :
    Calls Tryz.prog 60 #[pt mb, .string (ba [33]), .slice (some ⟨g, 0, none⟩) l.length l.length] w (MEnd w0 mb H (operate [33] l s)) := by
  have t_read := tl_not (m := [33]) (l := [114, 101, 97, 100]) (by decide)
  have t_print := tl_not (m := [33]) (l := [112, 114, 105, 110, 116]) (by decide)
  have t_ref := tl_not (m := [33]) (l := [114, 101, 102]) (by decide)
  have t_deref := tl_is (m := [33]) (l := [33]) rfl
  obtain ⟨v, rfl⟩ : ∃ v, l = [v] := by
    match l, hl with
    | [v], _ => exact ⟨v, rfl⟩
  obtain ⟨k, n, p, f, hvv, hf, q0, q1, q2, q3⟩ := ha.get h.sub (i := 0) (v := v) rfl
  have q0 : w.cell? ⟨g, 0, none⟩ = some (.int .i64 k) := q0
  have q1 : w.cell? ⟨g, 1, none⟩ = some (.int .i64 n) := q1
  have q2 : w.cell? ⟨g, 2, none⟩ = some (.pointer p) := q2
  have q3 : w.cell? ⟨g, 3, none⟩ = some f := q3
  have hr : Calls Tryz.prog 87 #[pt mb, .agg #[.int .i64 k, .int .i64 n, .pointer p, f]] w (MEnd w0 mb H (operate [33] [v] s)) := by
    by_cases hk : kV v = 5
    · have e : operate [33] [v] s = s.has (s.cells.getD (nV v).toNat unitV) := by unfold operate; rw [if_neg (by decide), if_neg (by decide), if_neg (by decide), if_pos rfl]; exact if_pos hk
      rw [e]
      have hv1 := of_kind5' hk
      obtain ⟨m, hm⟩ : ∃ m, m = nV v := ⟨_, rfl⟩
      rw [← hm] at hv1 ⊢
      subst hv1
      obtain ⟨he, h0, h1⟩ := hvv.ref5
      obtain ⟨i, rfl⟩ : ∃ i : Nat, m = (i : Int) := ⟨m.toNat, by omega⟩
      have hi : i < s.cells.length := by omega
      have hg : s.cells[i]? = some (s.cells.getD (i : Int).toNat unitV) := by
        rw [show (i : Int).toNat = i from rfl, List.getD_eq_getElem?_getD, List.getElem?_eq_getElem hi]
        rfl
      rw [show (#[.int .i64 k, .int .i64 n, .pointer p, f] : Array Value) = (litL 5 (i : Int)).toArray from congrArg List.toArray he]
      exact load_ref h i hg
    · have e : operate [33] [v] s = s.ends 4 := by unfold operate; rw [if_neg (by decide), if_neg (by decide), if_neg (by decide), if_pos rfl]; exact if_neg hk
      rw [e]
      exact load_stuck h hvv hk
  have HR := Lib.hid hr
  clear hr ha h hvv hl
  unfold pt at HR ⊢
  rcases hf with rfl | ⟨ft, fx, rfl⟩
  all_goals
    go_enter Tryz.func60, Tryz.ntmps60
    go_wp2_with fail
    refine HR.out.mono ?_
    rintro e w3 ⟨rfl, H3, k3, m3⟩
    go_wp2
    go_end0
    exact ⟨rfl, H3, k3, m3⟩
end So
end Go.Proofs.YtfkakmafedhgdaaGreatDoor.K
