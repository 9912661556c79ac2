/- Plain words on memory that the walks of lex and parse share. -/
import Derived.Test.YtmodmojocclmaaaGreatDoorProg
import Derived.Test.YtmodmojocclmaaaGreatDoorMg00
import Derived.Test.YtmodmojocclmaaaGreatDoorMg01
import Derived.WalkKit
import Derived.WalkSpells
import Derived.WalkLawsBesides
import Derived.Lib.Hide
import Derived.Laws.EntriesVeiled
import Derived.Shelf.Small.Strs
import Derived.Shelf.LaysM
import Derived.Shelf.LaysC
import Derived.Shelf.Strconv.ParseIntPublic10
import Derived.Lib.ParseIntB
import Derived.Lib.AtoiErrMem
namespace Go.Proofs.YtmodmojocclmaaaGreatDoor
open Go.RowKit

def ba (l : List UInt8) : ByteArray := ⟨l.toArray⟩
theorem extract_ba (s : ByteArray) (a b : Nat) : s.extract a b = ba ((s.data.toList.drop a).take (b - a)) := by
 rw [ba, ← Lib.extract_data]
theorem extract_ba0 (s : ByteArray) (b : Nat) : s.extract 0 b = ba (s.data.toList.take b) := by
 rw [extract_ba]; simp
def tkV (x : Lx.Tk) : Value := .agg #[.int .i64 (x.k : Int), .string (ba x.t), .int .i64 (x.n : Int), .int .i64 (x.pos : Int)]
def zeroV : Value := .agg #[.int .i64 0, .string ⟨#[]⟩, .int .i64 0, .int .i64 0]
def Lies (w : World) (g : Nat) (t : TypeId) (cs : Array Value) : Prop := w.heap[g]? = some (.cells cs t (0, 0))
theorem Lies.lt {w : World} {g : Nat} {t : TypeId} {cs : Array Value} (h : Lies w g t cs) : g < w.heap.size := lt_of_block h
theorem Lies.cell {w : World} {g : Nat} {t : TypeId} {cs : Array Value} (h : Lies w g t cs) (i : Nat) : w.cell? ⟨g, i, none⟩ = cs[i]? := cell_of_row w g i cs t (0, 0) h
theorem Lies.free {w : World} {g : Nat} {t : TypeId} {cs : Array Value} (h : Lies w g t cs) (i : Nat) : w.frozen? ⟨g, i, none⟩ = false := by
 unfold Lies at h
 simp [World.frozen?, h]
theorem Lies.new (w : World) (t : TypeId) (cs : Array Value) : Lies (w.alloc (.cells cs t)) w.heap.size t cs := heap_alloc_new w _
theorem Lies.alloc {w : World} {g : Nat} {t : TypeId} {cs : Array Value} (h : Lies w g t cs) (o : Obj) : Lies (w.alloc o) g t cs := (Below.heap_alloc w o g h.lt).trans h
theorem Lies.below {w w' : World} {g : Nat} {t : TypeId} {cs : Array Value} (h : Lies w g t cs) {B : Nat} (hb : Below B w w') (hg : g < B) : Lies w' g t cs := (hb.block g hg).trans h
theorem Lies.later {w w' : World} {g : Nat} {t : TypeId} {cs : Array Value} (h : Lies w g t cs) (hb : Below w.heap.size w w') : Lies w' g t cs := h.below hb h.lt
theorem Lies.grown {w w' : World} {g : Nat} {t : TypeId} {cs : Array Value} (h : Lies w g t cs) {row : Option Nat} (hb : w.grownBy w' row) (hg : some g ≠ row) : Lies w' g t cs := (hb.block g h.lt hg).trans h
theorem Lies.far {w : World} {g : Nat} {t : TypeId} {cs : Array Value} (h : Lies w g t cs) {p : Addr} (hp : g ≠ p.block) (u : Value) : Lies (w.setCell p u) g t cs := (Below.heap_setCell w p u g hp).trans h
theorem Lies.apart {w : World} {g : Nat} {t : TypeId} {cs : Array Value} (h : Lies w g t cs) {base : Nat} {e : TypeId} {size n : Nat} {v : Value} {xs : List Value} (ho : w.ownsRow base e size v n xs) (hne : e ≠ t) : some g ≠ v.ownBlock := by
 rcases ho.2 with ⟨rfl, _⟩ | ⟨g', cap, cur, rfl, _, hh, _⟩
 ·simp [Value.ownBlock]
 ·intro he
  have : g = g' := by simpa [Value.ownBlock] using he
  subst this
  unfold Lies at h
  rw [h] at hh
  injection hh with hh
  injection hh with _ ht
  exact hne ht.symm

theorem heap_alloc_some {w : World} {g : Nat} {x : Obj} (h : w.heap[g]? = some x) (o : Obj) : (w.alloc o).heap[g]? = some x := (Below.heap_alloc w o g (lt_of_block h)).trans h

theorem Lies.new' (w : World) (t : TypeId) (cs : Array Value) {N : Nat} (hN : w.heap.size = N) : Lies (w.alloc (.cells cs t)) N t cs := by subst hN; exact Lies.new w t cs
theorem new_two (w : World) (t : TypeId) (a b : Value) {N : Nat} (hN : w.heap.size = N) : ∀ j u, [a, b][j]? = some u → (w.alloc (.cells #[a, b] t)).cell? ((⟨N, 0, none⟩ : Addr).add j) = some u := by
 intro j u hj
 have h := Lies.new' w t #[a, b] hN
 match j, hj with
 | 0, hj => have := h.cell 0; simp at hj; subst hj; simpa [Addr.add] using this
 | 1, hj => have := h.cell 1; simp at hj; subst hj; simpa [Addr.add] using this
def tkC (x : Lx.Tk) : List Value := [.int .i64 (x.k : Int), .string (ba x.t), .int .i64 (x.n : Int), .int .i64 (x.pos : Int)]
def wordsC (ws : List Lx.Tk) : List Value := ws.flatMap tkC
theorem ba_size (l : List UInt8) : (ba l).size = l.length := by simp [ba, ByteArray.size]

theorem wordsC_snoc (ws : List Lx.Tk) (x : Lx.Tk) : wordsC (ws ++ [x]) = wordsC ws ++ tkC x := by simp [wordsC]
theorem own_mono {w : World} {B B' : Nat} {e : TypeId} {size n : Nat} {v : Value} {xs : List Value} (h : w.ownsRow B e size v n xs) (hB : B' ≤ B) : w.ownsRow B' e size v n xs := by
 refine ⟨h.1, ?_⟩
 rcases h.2 with h0 | ⟨g, cap, cur, h1, h2, h3⟩
 ·exact .inl h0
 ·exact .inr ⟨g, cap, cur, h1, by omega, h3⟩
theorem own_later {w w' : World} {B : Nat} {e : TypeId} {size n : Nat} {v : Value} {xs : List Value} (h : w.ownsRow B e size v n xs) (hb : Below w.heap.size w w') : w'.ownsRow B e size v n xs := by
 refine ⟨h.1, ?_⟩
 rcases h.2 with h0 | ⟨g, cap, cur, h1, h2, h3, h4⟩
 ·exact .inl h0
 ·exact .inr ⟨g, cap, cur, h1, h2, (hb.block g (lt_of_block h3)).trans h3, h4⟩
def Ts (w : World) (v : Value) (ws : List Lx.Tk) : Prop :=
 ∃ A c, v = .slice A ws.length c ∧ ws.length ≤ c ∧ (0 < ws.length → ∃ g o, A = some ⟨g, o, none⟩ ∧ ∀ j u, (wordsC ws)[j]? = some u → w.cell? ⟨g, o + j, none⟩ = some u)
theorem Ts.later {w w' : World} {v : Value} {ws : List Lx.Tk} (h : Ts w v ws) (hb : Below w.heap.size w w') : Ts w' v ws := by
 obtain ⟨A, c, h1, h2, h3⟩ := h
 refine ⟨A, c, h1, h2, fun h => ?_⟩
 obtain ⟨g, o, h4, h5⟩ := h3 h
 exact ⟨g, o, h4, fun j u hj => (hb.cell (p := ⟨g, o + j, none⟩) (World.block_lt_of_cell? w _ (h5 j u hj))).trans (h5 j u hj)⟩
theorem words_at (ws : List Lx.Tk) : ∀ (i : Nat) (x : Lx.Tk), ws[i]? = some x → (wordsC ws)[i * 4]? = some (.int .i64 (x.k : Int)) ∧ (wordsC ws)[i * 4 + 1]? = some (.string (ba x.t)) ∧ (wordsC ws)[i * 4 + 2]? = some (.int .i64 (x.n : Int)) ∧ (wordsC ws)[i * 4 + 3]? = some (.int .i64 (x.pos : Int)) := by
 induction ws with
 | nil => intro i x h; simp at h
 | cons y r ih =>
  intro i x h
  have e : wordsC (y :: r) = tkC y ++ wordsC r := rfl
  match i, h with
  | 0, h => simp at h; subst h; simp [e, tkC]
  | i + 1, h =>
   have := ih i x (by simpa using h)
   have hl : (tkC y).length = 4 := rfl
   rw [e, List.getElem?_append_right (by rw [hl]; omega), List.getElem?_append_right (by rw [hl]; omega), List.getElem?_append_right (by rw [hl]; omega), List.getElem?_append_right (by rw [hl]; omega), hl,
    show (i + 1) * 4 - 4 = i * 4 by omega, show (i + 1) * 4 + 1 - 4 = i * 4 + 1 by omega, show (i + 1) * 4 + 2 - 4 = i * 4 + 2 by omega, show (i + 1) * 4 + 3 - 4 = i * 4 + 3 by omega]
   exact this
theorem Ts.at_ {w : World} {ws : List Lx.Tk} {g o c n : Nat} (h : Ts w (.slice (some ⟨g, o, none⟩) n c) ws) {i : Nat} {x : Lx.Tk} (hx : ws[i]? = some x) :
  w.cell? ⟨g, o + i * 4, none⟩ = some (.int .i64 (x.k : Int)) ∧ w.cell? ⟨g, o + i * 4 + 1, none⟩ = some (.string (ba x.t)) ∧ w.cell? ⟨g, o + i * 4 + 2, none⟩ = some (.int .i64 (x.n : Int)) ∧ w.cell? ⟨g, o + i * 4 + 3, none⟩ = some (.int .i64 (x.pos : Int)) := by
 obtain ⟨A, c', h1, h2, h3⟩ := h
 have hi : i < ws.length := (List.getElem?_eq_some_iff.1 hx).1
 obtain ⟨g', o', h4, h5⟩ := h3 (by omega)
 injection h1 with hA _ _
 rw [h4] at hA
 injection hA with hA
 injection hA with hg ho _
 subst hg ho
 obtain ⟨a1, a2, a3, a4⟩ := words_at ws i x hx
 exact ⟨h5 _ _ a1, h5 _ _ a2, h5 _ _ a3, h5 _ _ a4⟩
theorem Ts.form {w : World} {v : Value} {ws : List Lx.Tk} (h : Ts w v ws) (h0 : 0 < ws.length) : ∃ g o c, v = .slice (some ⟨g, o, none⟩) ws.length c ∧ ws.length ≤ c := by
 obtain ⟨A, c, h1, h2, h3⟩ := h
 obtain ⟨g, o, h4, _⟩ := h3 h0
 exact ⟨g, o, c, by rw [h1, h4], h2⟩

end Go.Proofs.YtmodmojocclmaaaGreatDoor

/- Contracts of library functions, laid from the shelf at this translation: strings.IndexByte, (*strings.Builder).String, strconv.ParseInt at base 10 and 64 bits. -/
namespace Go.Proofs.YtmodmojocclmaaaGreatDoor
open Go.Shelf Go.Proofs
def Tryz.lays137_ren : Go.Shelf.Ren := ⟨fun | 137 => 97 | 217 => 112 | 266 => 125 | n => n, fun | 9 => 9 | 5 => 5 | 3 => 3 | n => n, fun | n => n⟩
theorem Tryz.lays137 : Go.Proofs.Lays.n137 Tryz.prog Tryz.lays137_ren := {
 mixed := by kernel_rfl
 f137 := Tryz.func97.trans (congrArg some (by kernel_rfl))
 f217 := Tryz.func112.trans (congrArg some (by kernel_rfl))
 f266 := Tryz.func125.trans (congrArg some (by kernel_rfl))
 t3 := Tryz.underlying3
 a3 := Tryz.isAgg3
 z3 := Tryz.sizeOf3
 v3 := Tryz.zeroValue3
 t5 := Tryz.underlying5
 a5 := Tryz.isAgg5
 z5 := Tryz.sizeOf5
 v5 := Tryz.zeroValue5
 t9 := Tryz.underlying9
 a9 := Tryz.isAgg9
 z9 := Tryz.sizeOf9
 v9 := Tryz.zeroValue9 }
open Go.RowKit in
theorem Tryz.strings_IndexByte (s : ByteArray) (c : Int) (w : World) :
  Calls Tryz.prog 97 #[.string s, .int .u8 c] w fun e w' => e = .returned (.int .i64 (Lib.indexByte s.data.toList c.toNat.toUInt8)) ∧ w' = w := Any.strings_IndexByte Tryz.lays137 s c w
def Tryz.laysC174_ren : Go.Shelf.Ren := ⟨fun | 174 => 92 | 247 => 109 | 245 => 110 | 287 => 120 | 279 => 121 | 280 => 122 | 281 => 123 | 282 => 124 | 321 => 136 | 322 => 137 | 316 => 138 | 171 => 140 | 205 => 139 | 243 => 143 | 246 => 145 | 283 => 148 | 284 => 149 | 285 => 150 | 286 => 151 | 129 => 155 | 317 => 154 | 318 => 156 | 319 => 157 | 320 => 158 | 337 => 161 | 338 => 162 | n => n, fun | 9 => 9 | 3 => 3 | 2 => 2 | 75 => 206 | 85 => 207 | 4 => 4 | 167 => 231 | 5 => 5 | 53 => 232 | 175 => 233 | 46 => 235 | 168 => 236 | 37 => 80 | 0 => 0 | 210 => 245 | 21 => 21 | 127 => 248 | 145 => 251 | 143 => 249 | 171 => 256 | 173 => 259 | 212 => 265 | 51 => 266 | 20 => 20 | 213 => 267 | 232 => 272 | 233 => 273 | 80 => 189 | n => n, fun | 15 => 1 | 16 => 2 | 17 => 4 | 18 => 5 | 19 => 6 | n => n⟩
theorem Tryz.laysC174 : Go.Proofs.LaysC.n174 Tryz.prog Tryz.laysC174_ren := {
 mixed := by kernel_rfl
 f129 := Tryz.func155.trans (congrArg some (by kernel_rfl))
 f171 := Tryz.func140.trans (congrArg some (by kernel_rfl))
 f174 := Tryz.func92.trans (congrArg some (by kernel_rfl))
 f205 := Tryz.func139.trans (congrArg some (by kernel_rfl))
 f243 := Tryz.func143.trans (congrArg some (by kernel_rfl))
 f245 := Tryz.func110.trans (congrArg some (by kernel_rfl))
 f246 := Tryz.func145.trans (congrArg some (by kernel_rfl))
 f247 := Tryz.func109.trans (congrArg some (by kernel_rfl))
 f279 := Tryz.func121.trans (congrArg some (by kernel_rfl))
 f280 := Tryz.func122.trans (congrArg some (by kernel_rfl))
 f281 := Tryz.func123.trans (congrArg some (by kernel_rfl))
 f282 := Tryz.func124.trans (congrArg some (by kernel_rfl))
 f283 := Tryz.func148.trans (congrArg some (by kernel_rfl))
 f284 := Tryz.func149.trans (congrArg some (by kernel_rfl))
 f285 := Tryz.func150.trans (congrArg some (by kernel_rfl))
 f286 := Tryz.func151.trans (congrArg some (by kernel_rfl))
 f287 := Tryz.func120.trans (congrArg some (by kernel_rfl))
 f316 := Tryz.func138.trans (congrArg some (by kernel_rfl))
 f317 := Tryz.func154.trans (congrArg some (by kernel_rfl))
 f318 := Tryz.func156.trans (congrArg some (by kernel_rfl))
 f319 := Tryz.func157.trans (congrArg some (by kernel_rfl))
 f320 := Tryz.func158.trans (congrArg some (by kernel_rfl))
 f321 := Tryz.func136.trans (congrArg some (by kernel_rfl))
 f322 := Tryz.func137.trans (congrArg some (by kernel_rfl))
 f337 := Tryz.func161.trans (congrArg some (by kernel_rfl))
 f338 := Tryz.func162.trans (congrArg some (by kernel_rfl))
 t0 := Tryz.underlying0
 a0 := Tryz.isAgg0
 z0 := Tryz.sizeOf0
 v0 := Tryz.zeroValue0
 t2 := Tryz.underlying2
 a2 := Tryz.isAgg2
 z2 := Tryz.sizeOf2
 v2 := Tryz.zeroValue2
 t3 := Tryz.underlying3
 a3 := Tryz.isAgg3
 z3 := Tryz.sizeOf3
 v3 := Tryz.zeroValue3
 t4 := Tryz.underlying4
 a4 := Tryz.isAgg4
 z4 := Tryz.sizeOf4
 v4 := Tryz.zeroValue4
 t5 := Tryz.underlying5
 a5 := Tryz.isAgg5
 z5 := Tryz.sizeOf5
 v5 := Tryz.zeroValue5
 t9 := Tryz.underlying9
 a9 := Tryz.isAgg9
 z9 := Tryz.sizeOf9
 v9 := Tryz.zeroValue9
 t20 := Tryz.underlying20
 a20 := Tryz.isAgg20
 z20 := Tryz.sizeOf20
 v20 := Tryz.zeroValue20
 t21 := Tryz.underlying21
 a21 := Tryz.isAgg21
 z21 := Tryz.sizeOf21
 v21 := Tryz.zeroValue21
 t37 := Tryz.underlying80
 a37 := Tryz.isAgg80
 z37 := Tryz.sizeOf80
 v37 := Tryz.zeroValue80
 t46 := Tryz.underlying235
 a46 := Tryz.isAgg235
 z46 := Tryz.sizeOf235
 v46 := Tryz.zeroValue235
 t51 := Tryz.underlying266
 a51 := Tryz.isAgg266
 z51 := Tryz.sizeOf266
 v51 := Tryz.zeroValue266
 t53 := Tryz.underlying232
 a53 := Tryz.isAgg232
 z53 := Tryz.sizeOf232
 v53 := Tryz.zeroValue232
 t75 := Tryz.underlying206
 a75 := Tryz.isAgg206
 z75 := Tryz.sizeOf206
 v75 := Tryz.zeroValue206
 t85 := Tryz.underlying207
 a85 := Tryz.isAgg207
 z85 := Tryz.sizeOf207
 v85 := Tryz.zeroValue207
 t127 := Tryz.underlying248
 a127 := Tryz.isAgg248
 z127 := Tryz.sizeOf248
 v127 := Tryz.zeroValue248
 t143 := Tryz.underlying249
 a143 := Tryz.isAgg249
 z143 := Tryz.sizeOf249
 v143 := Tryz.zeroValue249
 t145 := Tryz.underlying251
 a145 := Tryz.isAgg251
 z145 := Tryz.sizeOf251
 v145 := Tryz.zeroValue251
 t167 := Tryz.underlying231
 a167 := Tryz.isAgg231
 z167 := Tryz.sizeOf231
 v167 := Tryz.zeroValue231
 t168 := Tryz.underlying236
 a168 := Tryz.isAgg236
 z168 := Tryz.sizeOf236
 v168 := Tryz.zeroValue236
 t171 := Tryz.underlying256
 a171 := Tryz.isAgg256
 z171 := Tryz.sizeOf256
 v171 := Tryz.zeroValue256
 t173 := Tryz.underlying259
 a173 := Tryz.isAgg259
 z173 := Tryz.sizeOf259
 v173 := Tryz.zeroValue259
 t175 := Tryz.underlying233
 a175 := Tryz.isAgg233
 z175 := Tryz.sizeOf233
 v175 := Tryz.zeroValue233
 t210 := Tryz.underlying245
 a210 := Tryz.isAgg245
 z210 := Tryz.sizeOf245
 v210 := Tryz.zeroValue245
 t212 := Tryz.underlying265
 a212 := Tryz.isAgg265
 z212 := Tryz.sizeOf265
 v212 := Tryz.zeroValue265
 t213 := Tryz.underlying267
 a213 := Tryz.isAgg267
 z213 := Tryz.sizeOf267
 t232 := Tryz.underlying272
 a232 := Tryz.isAgg272
 z232 := Tryz.sizeOf272
 v232 := Tryz.zeroValue272
 t233 := Tryz.underlying273
 a233 := Tryz.isAgg273
 z233 := Tryz.sizeOf273
 v233 := Tryz.zeroValue273
 g15 := by kernel_rfl
 g16 := by kernel_rfl
 g17 := by kernel_rfl
 g18 := by kernel_rfl
 g19 := by kernel_rfl
 t80 := Tryz.underlying189
 a80 := Tryz.isAgg189
 z80 := Tryz.sizeOf189
 v80 := Tryz.zeroValue189
 i0 := by kernel_rfl
 i2 := by kernel_rfl
 i3 := by kernel_rfl
 i4 := by kernel_rfl
 i5 := by kernel_rfl
 i9 := by kernel_rfl
 i20 := by kernel_rfl
 i21 := by kernel_rfl
 i37 := by kernel_rfl
 i46 := by kernel_rfl
 i51 := by kernel_rfl
 i53 := by kernel_rfl
 i75 := by kernel_rfl
 i80 := by kernel_rfl
 i85 := by kernel_rfl
 i127 := by kernel_rfl
 i143 := by kernel_rfl
 i145 := by kernel_rfl
 i167 := by kernel_rfl
 i168 := by kernel_rfl
 i171 := by kernel_rfl
 i173 := by kernel_rfl
 i175 := by kernel_rfl
 i210 := by kernel_rfl
 i212 := by kernel_rfl
 i232 := by kernel_rfl
 i233 := by kernel_rfl
 m15 := by kernel_rfl
 m16 := by kernel_rfl
 m17 := by kernel_rfl
 m18 := by kernel_rfl
 m19 := by kernel_rfl
 c0 := by kernel_rfl
 c2 := by kernel_rfl
 c3 := by kernel_rfl
 c4 := by kernel_rfl
 c5 := by kernel_rfl
 c9 := by kernel_rfl
 c20 := by kernel_rfl
 c21 := by kernel_rfl
 c37 := by kernel_rfl
 c46 := by kernel_rfl
 c51 := by kernel_rfl
 c53 := by kernel_rfl
 c75 := by kernel_rfl
 c80 := by kernel_rfl
 c85 := by kernel_rfl
 c127 := by kernel_rfl
 c143 := by kernel_rfl
 c145 := by kernel_rfl
 c167 := by kernel_rfl
 c168 := by kernel_rfl
 c171 := by kernel_rfl
 c173 := by kernel_rfl
 c175 := by kernel_rfl
 c210 := by kernel_rfl
 c212 := by kernel_rfl
 c213 := by kernel_rfl
 c232 := by kernel_rfl
 c233 := by kernel_rfl }
open Go.RowKit in
theorem Tryz.strconv_ParseInt_10_at64_ok (s : ByteArray) (hmax : s.size ≤ 9223372036854775806) (v : Int) (h : Lib.parseIntB 64 s.data.toList = .ok v) (w : World) :
  Calls Tryz.prog 92 #[.string s, .int .i64 10, .int .i64 64] w fun e w' => e = .returned (.tuple #[.int .i64 v, .nilIface]) ∧ (w' = w ∨ ∃ t, w' = Lib.bytesWorld w 5 t) := Any.strconv_ParseInt_10_at64_ok Tryz.laysC174 s hmax v h w
open Go.RowKit in
theorem Tryz.strconv_ParseInt_10_at64_range (s : ByteArray) (hlim : s.size ≤ 281474976710656) (h : Lib.parseIntB 64 s.data.toList = .range) (ev : Value) (w : World) (hv : w.cell? ⟨2, 0, none⟩ = some ev) (hev : ev = .nilIface ∨ ∃ te pe, ev = .iface te pe) :
  Calls Tryz.prog 92 #[.string s, .int .i64 10, .int .i64 64] w fun e w' => ∃ N, e = .returned (.tuple #[.int .i64 (Lib.intSat 64 s.data.toList), .iface 236 (.pointer (some ⟨N, 0, none⟩))]) ∧ w.heap.size ≤ N ∧ w'.heap[N]? = some (.cells #[.string ⟨#[80, 97, 114, 115, 101, 73, 110, 116]⟩, .string s, ev] 245 (0, 0)) ∧ Below w.heap.size w w' := Any.strconv_ParseInt_10_at64_range Tryz.laysC174 s hlim h ev w hv hev
end Go.Proofs.YtmodmojocclmaaaGreatDoor

/- Contracts of package lex, third part: what makes the table, and what reads a number or a name. -/
namespace Go.Proofs.YtmodmojocclmaaaGreatDoor
open Go.RowKit

def resV : Option (Lx.Tk × Nat) → Value
 | some (x, m) => .tuple #[tkV x, .int .i64 (m : Int), .bool true]
 | none => .tuple #[zeroV, .int .i64 0, .bool false]

set_option maxHeartbeats 400000 in
theorem within_any (s : ByteArray) (w : World) :
  Calls Tryz.prog 62 #[.string s] w fun e w' => e = .returned (.func (.func 90) #[] #[.pointer (some ⟨w.heap.size, 0, none⟩)]) ∧ w' = w.alloc (.cells #[.string s] 9) := by
 go_enter Tryz.func62, Tryz.ntmps62
 go_wp2
 go_ret
 exact ⟨rfl, rfl⟩

set_option maxHeartbeats 400000 in
theorem ahead_any (p : Addr) (w : World) :
  Calls Tryz.prog 63 #[.func (.func 90) #[] #[.pointer (some p)]] w fun e w' => e = .returned (.func (.func 91) #[] #[.pointer (some ⟨w.heap.size, 0, none⟩)]) ∧ w' = w.alloc (.cells #[.func (.func 90) #[] #[.pointer (some p)]] 173) := by
 go_enter Tryz.func63, Tryz.ntmps63
 go_wp2
 go_ret
 exact ⟨rfl, rfl⟩

def signF1 (N : Nat) : Value := .func (.func 95) #[] #[.pointer (some ⟨N, 0, none⟩)]
def signF2 (N : Nat) : Value := .func (.func 96) #[] #[.pointer (some ⟨N + 1 + 1, 0, none⟩), .pointer (some ⟨N, 0, none⟩)]
set_option maxHeartbeats 400000 in
theorem signKind_any (s : ByteArray) (w : World) :
  Calls Tryz.prog 69 #[.string s] w fun e w' => e = .returned (.agg #[signF1 w.heap.size, signF2 w.heap.size]) ∧
   w' = ((w.alloc (.cells #[.string s] 9)).alloc (.cells #[signF1 w.heap.size, signF2 w.heap.size] 181)).alloc (.cells #[.int .i64 5, .string s, .int .i64 0, .int .i64 0] 130) := by
 go_enter Tryz.func69, Tryz.ntmps69
 go_wp2
 exact bodyPost_ret (v := .agg #[signF1 w.heap.size, signF2 w.heap.size]) (by simp [results, Tryz.results69, go_sem, signF1, signF2]) rfl ⟨rfl, by simp [signF1, signF2]⟩

theorem capB_s (s : ByteArray) (n : Nat) (h : 0 < n) (hs : n ≤ s.size) (hx : 0 < (s.extract 0 n).size) : Lx.capB s.data.toList = (decide (65 ≤ (s.extract 0 n)[0].toNat) && decide ((s.extract 0 n)[0].toNat ≤ 90)) := by
 have e : (s.extract 0 n)[0] = s[0] := by simp [ByteArray.getElem_extract]
 rw [e]
 have h0 : 0 < s.size := by omega
 have := drop_one s 0 h0
 simp only [List.drop_zero] at this
 rw [this]
 rfl
def NameEnd (l : List UInt8) (n : Nat) (w : World) (e : Ending) (w' : World) : Prop := e = .returned (resV (Lx.nameF l n)) ∧ Below w.heap.size w w'
set_option maxHeartbeats 3000000 in
theorem name_any (s : ByteArray) (n : Nat) (w : World) (h0 : 0 < n) (hs : n ≤ s.size) (hl : s.size ≤ 140737488351232) :
  Calls Tryz.prog 68 #[.string s, .int .i64 (n : Int)] w (NameEnd s.data.toList n w) := by
 have HX := Lib.hid (extract_ba0 s n)
 by_cases hn : 60 < n
 ·go_enter Tryz.func68, Tryz.ntmps68
  go_wp2
  exact bodyPost_ret (v := resV none) (by simp [results, Tryz.results68, go_sem, resV, zeroV]) rfl ⟨by rw [Lx.nameF, if_pos hn], ((Below.refl _ _).alloc (Nat.le_refl _) _)⟩
 have hx : 0 < (s.extract 0 n).size := by simp; omega
 have HC := Lib.hid (capB_s s n h0 hs hx)
 by_cases hc1 : 65 ≤ (s.extract 0 n)[0].toNat ∧ (s.extract 0 n)[0].toNat ≤ 90
 ·obtain ⟨hc1, hc2⟩ := hc1
  go_enter Tryz.func68, Tryz.ntmps68
  go_wp2
  exact bodyPost_ret (v := .tuple #[tkV ⟨3, s.data.toList.take n, 0, 0⟩, .int .i64 n, .bool true]) (by simp [results, Tryz.results68, go_sem, tkV, HX.out]) rfl ⟨by rw [Lx.nameF, if_neg hn, HC.out, if_pos (by simp [hc1, hc2])]; rfl, ((Below.refl _ _).alloc (Nat.le_refl _) _)⟩
 have HN : Hid (Lx.capB s.data.toList = false) := by rw [HC.out, Bool.eq_false_iff]; intro h; simp at h; exact hc1 h
 have e1 : (s.extract 0 n).toList = s.data.toList.take n := by rw [Lib.toList_data, Lib.extract_data]; simp
 have e2 : (s.extract n s.size).data.toList = s.data.toList.drop n := by
  rw [Lib.extract_data]; exact List.take_of_length_le (by simp)
 by_cases hk : Lx.kwB (s.data.toList.take n) = true
 ·have HK : Hid (Lx.kwB (s.extract 0 n).toList = true) := by rw [e1]; exact hk
  have hk2 := Lib.hid hk
  clear hk e1 e2
  by_cases hd1 : 65 ≤ (s.extract 0 n)[0].toNat
  all_goals
   go_enter Tryz.func68, Tryz.ntmps68
   go_wp2_with (go_at_call 93; refine (keyword_any _ _).mono ?_; rintro e w' ⟨rfl, rfl⟩; rw [HK.out])
   exact bodyPost_ret (v := .tuple #[tkV ⟨4, s.data.toList.take n, 0, 0⟩, .int .i64 n, .bool true]) (by simp [results, Tryz.results68, go_sem, tkV, HX.out]) rfl ⟨by rw [Lx.nameF, if_neg hn, HN.out, if_neg (by simp), if_pos hk2.out]; rfl, ((Below.refl _ _).alloc (Nat.le_refl _) _)⟩
 have HK : Hid (Lx.kwB (s.extract 0 n).toList = false) := by rw [e1]; exact Bool.eq_false_iff.2 hk
 have hk2 := Lib.hid hk
 clear hk e1
 by_cases hb : Lx.preB [33] (s.data.toList.drop n) = true
 ·have HB : Hid (Lx.preB (⟨#[33]⟩ : ByteArray).data.toList (s.extract n s.size).data.toList = true) := by rw [e2]; exact hb
  have hb2 := Lib.hid hb
  clear hb e2
  by_cases hd1 : 65 ≤ (s.extract 0 n)[0].toNat
  all_goals
   go_enter Tryz.func68, Tryz.ntmps68
   go_wp2_with (first | (go_at_call 93; refine (keyword_any _ _).mono ?_; rintro e w' ⟨rfl, rfl⟩; rw [HK.out]) | (go_at_call 94; refine (hasPrefix_any _ _ _ (by simp; omega) (by decide)).mono ?_; rintro e w' ⟨rfl, rfl⟩; rw [HB.out]))
   exact bodyPost_ret (v := .tuple #[tkV ⟨6, s.data.toList.take n, 0, 0⟩, .int .i64 ((n + 1 : Nat) : Int), .bool true]) (by simp [results, Tryz.results68, go_sem, tkV, HX.out]) rfl ⟨by rw [Lx.nameF, if_neg hn, HN.out, if_neg (by simp), if_neg hk2.out, if_pos hb2.out]; rfl, ((Below.refl _ _).alloc (Nat.le_refl _) _)⟩
 ·have HB : Hid (Lx.preB (⟨#[33]⟩ : ByteArray).data.toList (s.extract n s.size).data.toList = false) := by rw [e2]; exact Bool.eq_false_iff.2 hb
  have hb2 := Lib.hid hb
  clear hb e2
  by_cases hd1 : 65 ≤ (s.extract 0 n)[0].toNat
  all_goals
   go_enter Tryz.func68, Tryz.ntmps68
   go_wp2_with (first | (go_at_call 93; refine (keyword_any _ _).mono ?_; rintro e w' ⟨rfl, rfl⟩; rw [HK.out]) | (go_at_call 94; refine (hasPrefix_any _ _ _ (by simp; omega) (by decide)).mono ?_; rintro e w' ⟨rfl, rfl⟩; rw [HB.out]))
   exact bodyPost_ret (v := .tuple #[tkV ⟨2, s.data.toList.take n, 0, 0⟩, .int .i64 n, .bool true]) (by simp [results, Tryz.results68, go_sem, tkV, HX.out]) rfl ⟨by rw [Lx.nameF, if_neg hn, HN.out, if_neg (by simp), if_neg hk2.out, if_neg hb2.out]; rfl, ((Below.refl _ _).alloc (Nat.le_refl _) _)⟩
end Go.Proofs.YtmodmojocclmaaaGreatDoor

/- Digits as a number: what ParseInt says of them (plain facts on lists). -/
namespace Go.Proofs.YtmodmojocclmaaaGreatDoor

def digB (c : UInt8) : Prop := 48 ≤ c.toNat ∧ c.toNat ≤ 57
theorem inB_digs (c : UInt8) : Lx.inB Lx.digs c = true ↔ digB c := by
 simp [Lx.inB, Lx.digs, digB]
def accN (a : Nat) (l : List UInt8) : Nat := l.foldl (fun a c => a * 10 + (c.toNat - 48)) a
theorem accN_ge (l : List UInt8) : ∀ a, a ≤ accN a l := by
 induction l with
 | nil => intro a; exact Nat.le_refl _
 | cons c r ih => intro a; exact Nat.le_trans (by omega) (ih (a * 10 + (c.toNat - 48)))
theorem parseUintM_digits (l : List UInt8) (hl : ∀ c ∈ l, digB c) : ∀ a, a ≤ 18446744073709551615 →
  Lib.parseUintM 18446744073709551615 a l = if accN a l ≤ 18446744073709551615 then .ok (accN a l) else .range := by
 induction l with
 | nil => intro a ha; simp [Lib.parseUintM, accN, ha]
 | cons c r ih =>
  intro a ha
  have hc := hl c (by simp)
  have hg := accN_ge r (a * 10 + (c.toNat - 48))
  have e : accN a (c :: r) = accN (a * 10 + (c.toNat - 48)) r := rfl
  rw [Lib.parseUintM, if_pos (show 48 ≤ c.toNat ∧ c.toNat ≤ 57 from hc), e]
  by_cases h1 : 1844674407370955162 ≤ a
  ·rw [if_pos h1, if_neg (by omega)]
  ·rw [if_neg h1]
   by_cases h2 : 18446744073709551615 < a * 10 + (c.toNat - 48)
   ·rw [if_pos h2, if_neg (by omega)]
   ·rw [if_neg h2, ih (fun c hc => hl c (by simp [hc])) _ (by omega)]
theorem parse_ok (l : List UInt8) (hn : l ≠ []) (hl : ∀ c ∈ l, digB c) (hv : Lx.valN l < 9223372036854775808) : Lib.parseIntB 64 l = .ok (Lx.valN l : Int) := by
 match l, hn with
 | c :: r, _ =>
  have hc := hl c (by simp)
  unfold digB at hc
  have ha : accN 0 (c :: r) = Lx.valN (c :: r) := rfl
  have hp := parseUintM_digits (c :: r) hl 0 (by omega)
  rw [ha, if_pos (by omega)] at hp
  have h1 : ¬ (c.toNat = 43 ∨ c.toNat = 45) := by omega
  have h2 : ¬ c.toNat = 45 := by omega
  have hu : Lib.parseUintB 64 (if c.toNat = 43 ∨ c.toNat = 45 then r else c :: r) = .ok (Lx.valN (c :: r)) := by
   rw [if_neg h1, Lib.parseUintB, if_neg (by simp)]; exact hp
  simp only [Lib.parseIntB]
  rw [hu]
  simp only [h2]
  rw [if_neg (by simp; omega), if_neg (by simp)]
  simp
theorem parse_range (l : List UInt8) (hn : l ≠ []) (hl : ∀ c ∈ l, digB c) (hv : ¬ Lx.valN l < 9223372036854775808) : Lib.parseIntB 64 l = .range := by
 match l, hn with
 | c :: r, _ =>
  have hc := hl c (by simp)
  unfold digB at hc
  have ha : accN 0 (c :: r) = Lx.valN (c :: r) := rfl
  have hp := parseUintM_digits (c :: r) hl 0 (by omega)
  rw [ha] at hp
  have h1 : ¬ (c.toNat = 43 ∨ c.toNat = 45) := by omega
  have h2 : ¬ c.toNat = 45 := by omega
  by_cases h3 : Lx.valN (c :: r) ≤ 18446744073709551615
  ·have hu : Lib.parseUintB 64 (if c.toNat = 43 ∨ c.toNat = 45 then r else c :: r) = .ok (Lx.valN (c :: r)) := by
    rw [if_neg h1, Lib.parseUintB, if_neg (by simp)]; rw [if_pos h3] at hp; exact hp
   simp only [Lib.parseIntB]
   rw [hu]
   simp only [h2]
   rw [if_pos (by simp; omega)]
  ·have hu : Lib.parseUintB 64 (if c.toNat = 43 ∨ c.toNat = 45 then r else c :: r) = .range := by
    rw [if_neg h1, Lib.parseUintB, if_neg (by simp)]; rw [if_neg h3] at hp; exact hp
   simp only [Lib.parseIntB]
   rw [hu]
end Go.Proofs.YtmodmojocclmaaaGreatDoor

/- Contracts of package lex, fourth part: a number, and the two closures of the table's first rows. -/
namespace Go.Proofs.YtmodmojocclmaaaGreatDoor
open Go.RowKit

theorem bcell {W w1 : World} (hb : Below W.heap.size W w1) : (∀ b o, b < W.heap.size → w1.cell? ⟨b, o, none⟩ = W.cell? ⟨b, o, none⟩) ∧ (∀ b o, b < W.heap.size → w1.frozen? ⟨b, o, none⟩ = W.frozen? ⟨b, o, none⟩) :=
 ⟨fun b o h => hb.cell (p := ⟨b, o, none⟩) h, fun b o h => hb.frozen (p := ⟨b, o, none⟩) h⟩
theorem below_set4 {B g : Nat} {w w' : World} (h : Below B w w') (hg : B ≤ g) {a b c d : Value} : Below B w ((((w'.setCell ⟨g, 0, none⟩ a).setCell ⟨g, 1, none⟩ b).setCell ⟨g, 2, none⟩ c).setCell ⟨g, 3, none⟩ d) :=
 (((h.setCell (p := ⟨g, 0, none⟩) hg _).setCell (p := ⟨g, 1, none⟩) hg _).setCell (p := ⟨g, 2, none⟩) hg _).setCell (p := ⟨g, 3, none⟩) hg _
theorem parseInt_ok (s : ByteArray) (hmax : s.size ≤ 9223372036854775806) (v : Int) (h : Lib.parseIntB 64 s.data.toList = .ok v) (w : World) :
  Calls Tryz.prog 92 #[.string s, .int .i64 10, .int .i64 64] w fun e w' => e = .returned (.tuple #[.int .i64 v, .nilIface]) ∧ Below w.heap.size w w' :=
 (Tryz.strconv_ParseInt_10_at64_ok s hmax v h w).mono fun _ _ ⟨he, hw⟩ => ⟨he, by
  rcases hw with rfl | ⟨t, rfl⟩
  ·exact Below.refl _ _
  ·exact Lib.bytesWorld_below _ _ _⟩
theorem valN_digits (s : ByteArray) (n : Nat) : (s.extract 0 n).data.toList = s.data.toList.take n := by rw [Lib.extract_data]; simp
def NumEnd (l : List UInt8) (n : Nat) (w : World) (e : Ending) (w' : World) : Prop := e = .returned (resV (Lx.numF l n)) ∧ Below w.heap.size w w'
set_option maxHeartbeats 1000000 in
theorem number_any (s : ByteArray) (n : Nat) (w : World) (h0 : 0 < n) (hs : n ≤ s.size) (hl : s.size ≤ 140737488351232) (hd : ∀ c ∈ s.data.toList.take n, digB c)
  (te : TypeId) (pe : Value) (hv : w.cell? ⟨2, 0, none⟩ = some (.iface te pe)) :
  Calls Tryz.prog 65 #[.string s, .int .i64 (n : Int)] w (NumEnd s.data.toList n w) := by
 have HX := Lib.hid (extract_ba0 s n)
 have hne : s.data.toList.take n ≠ [] := by
  intro h
  have h2 := congrArg List.length h
  rw [List.length_take, Array.length_toList] at h2
  have h3 : s.data.size = s.size := rfl
  simp only [List.length_nil] at h2
  omega
 have hb : (s.extract 0 n).size ≤ 9223372036854775806 := by simp; omega
 have hb2 : (s.extract 0 n).size ≤ 281474976710656 := by simp; omega
 by_cases hval : Lx.valN (s.data.toList.take n) < 9223372036854775808
 ·have hp := parse_ok _ hne hd hval
  rw [← valN_digits] at hp
  have HP := Lib.hid hp
  clear hp hd hne
  have HV := Lib.hid hval
  clear hval
  go_enter Tryz.func65, Tryz.ntmps65
  go_wp2_with (go_at_call 92; refine (parseInt_ok _ (by exact hb) _ HP.out _).mono ?_; rintro e w' ⟨rfl, hw⟩; obtain ⟨hc, hf⟩ := bcell hw)
  refine bodyPost_ret (v := .tuple #[tkV ⟨1, s.data.toList.take n, Lx.valN (s.data.toList.take n), 0⟩, .int .i64 n, .bool true]) ?_ rfl ⟨by rw [Lx.numF, if_pos HV.out]; rfl, ?_⟩
  ·simp [results, Tryz.results65, go_sem, hc, tkV, HX.out]
  ·exact below_set4 (((Below.refl _ _).alloc (Nat.le_refl _) _).trans (hw.mono (by simp))) (Nat.le_refl _)
 ·have hp := parse_range _ hne hd hval
  rw [← valN_digits] at hp
  have HP := Lib.hid hp
  clear hp hd hne
  have HV := Lib.hid hval
  clear hval
  have hv2 : ∀ o, (w.alloc o).cell? ⟨2, 0, none⟩ = some (.iface te pe) := fun o => cell_alloc w o hv
  go_enter Tryz.func65, Tryz.ntmps65
  go_wp2_with (go_at_call 92; refine (Tryz.strconv_ParseInt_10_at64_range _ (by exact hb2) HP.out _ _ (by exact hv2 _) (.inr ⟨_, _, rfl⟩)).mono ?_; rintro e w' ⟨N, rfl, _, _, hw⟩; obtain ⟨hc, hf⟩ := bcell hw)
  refine bodyPost_ret (v := resV none) ?_ rfl ⟨by rw [Lx.numF, if_neg HV.out], ?_⟩
  ·simp [results, Tryz.results65, go_sem, hc, resV, zeroV, HX.out]
  ·exact below_set4 (((Below.refl _ _).alloc (Nat.le_refl _) _).trans (hw.mono (by simp))) (Nat.le_refl _)

theorem spanN_all (p : UInt8 → Bool) (l : List UInt8) : ∀ c ∈ l.take (Lx.spanN p l), p c = true := by
 induction l with
 | nil => simp [Lx.spanN]
 | cons a r ih =>
  intro c hc
  simp only [Lx.spanN] at hc
  split at hc
  ·rename_i h
   simp only [List.take_succ_cons, List.mem_cons] at hc
   rcases hc with rfl | hc
   ·exact h
   ·exact ih c hc
  ·simp at hc
theorem spanN_pos (p : UInt8 → Bool) (s : ByteArray) (h : 0 < s.size) (h0 : p s[0] = true) : 0 < Lx.spanN p s.data.toList := by
 have e := drop_one s 0 h
 simp only [List.drop_zero] at e
 rw [e, Lx.spanN, if_pos h0]; omega
def bS (l : List UInt8) : ByteArray := ⟨l.toArray⟩
def digD : ByteArray := ⟨#[48, 57]⟩
def letD : ByteArray := ⟨#[65, 90, 97, 122, 95, 95]⟩
def insD : ByteArray := ⟨#[65, 90, 97, 122, 95, 95, 48, 57]⟩
def fun30 (p : Addr) : Value := .func (.func 90) #[] #[.pointer (some p)]
def digN (l : List UInt8) : Nat := Lx.spanN (Lx.inB Lx.digs) l
def insN (l : List UInt8) : Nat := Lx.spanN (Lx.inB Lx.inss) l
theorem digN_le (s : ByteArray) : digN s.data.toList ≤ s.size := by have := spanN_le (Lx.inB Lx.digs) s.data.toList; simpa [digN] using this
theorem insN_le (s : ByteArray) : insN s.data.toList ≤ s.size := by have := spanN_le (Lx.inB Lx.inss) s.data.toList; simpa [insN] using this

def Reads0 (l : List UInt8) (w : World) (e : Ending) (w' : World) : Prop := e = .returned (resV (Lx.numF l (digN l))) ∧ Below w.heap.size w w'
def Reads1 (l : List UInt8) (w : World) (e : Ending) (w' : World) : Prop := e = .returned (resV (Lx.nameF l (insN l))) ∧ Below w.heap.size w w'
theorem span_dig (s : ByteArray) (p : Addr) (w : World) (hc : w.cell? p = some (.string digD)) (hs : s.size ≤ 140737488351232) :
  Calls Tryz.prog 66 #[.string s, .func (.func 90) #[] #[.pointer (some p)]] w fun e w' => e = .returned (.int .i64 (digN s.data.toList : Nat)) ∧ w = w' :=
 span_any s digD p w hc (by decide) hs
theorem span_ins (s : ByteArray) (p : Addr) (w : World) (hc : w.cell? p = some (.string insD)) (hs : s.size ≤ 140737488351232) :
  Calls Tryz.prog 66 #[.string s, .func (.func 90) #[] #[.pointer (some p)]] w fun e w' => e = .returned (.int .i64 (insN s.data.toList : Nat)) ∧ w = w' :=
 span_any s insD p w hc (by decide) hs
theorem res_cases (r : Option (Lx.Tk × Nat)) : r = none ∨ ∃ x m, r = some (x, m) := by
 rcases r with _ | ⟨x, m⟩
 ·exact .inl rfl
 ·exact .inr ⟨x, m, rfl⟩

set_option maxHeartbeats 1000000 in
theorem kinds1_any (s : ByteArray) (p q : Addr) (w : World) (hl : s.size ≤ 140737488351232) (h0 : 0 < digN s.data.toList)
  (hq : w.cell? q = some (fun30 p)) (hp : w.cell? p = some (.string digD))
  (te : TypeId) (pe : Value) (hv : w.cell? ⟨2, 0, none⟩ = some (.iface te pe)) :
  Calls Tryz.prog 64 #[.string s, .pointer (some q)] w (Reads0 s.data.toList w) := by
 have hq1 : ∀ o, (w.alloc o).cell? q = some (.func (.func 90) #[] #[.pointer (some p)]) := fun o => cell_alloc w o hq
 have hp1 : ∀ o, (w.alloc o).cell? p = some (.string digD) := fun o => cell_alloc w o hp
 have hv1 : ∀ o, (w.alloc o).cell? ⟨2, 0, none⟩ = some (.iface te pe) := fun o => cell_alloc w o hv
 have hdig : ∀ c ∈ s.data.toList.take (digN s.data.toList), digB c := fun c hc => (inB_digs c).1 (spanN_all _ _ c hc)
 have HD := Lib.hid hdig
 clear hdig
 have hle := digN_le s
 rcases res_cases (Lx.numF s.data.toList (digN s.data.toList)) with ho | ⟨x, m, ho⟩
 all_goals
  have HO := Lib.hid ho
  clear ho
  go_enter Tryz.func64, Tryz.ntmps64
  go_wp2_with (first | (go_at_call 66; refine (span_dig s p _ (by exact hp1 _) hl).mono ?_; rintro e w' ⟨rfl, rfl⟩) | (go_at_call 65; refine (number_any s (digN s.data.toList) _ h0 hle hl HD.out te pe (by exact hv1 _)).mono ?_; rintro e w' ⟨rfl, hw⟩; rw [HO.out]; simp only [resV, tkV, zeroV]; obtain ⟨hc, hf⟩ := bcell hw))
  refine bodyPost_ret (v := resV (Lx.numF s.data.toList (digN s.data.toList))) ?_ rfl ⟨rfl, ?_⟩
  ·rw [HO.out]; simp [results, Tryz.results64, go_sem, hc, tkV, resV, zeroV]
  ·exact below_set4 (((Below.refl _ _).alloc (Nat.le_refl _) _).trans (hw.mono (by simp))) (Nat.le_refl _)
set_option maxHeartbeats 1000000 in
theorem kinds2_any (s : ByteArray) (p q : Addr) (w : World) (hl : s.size ≤ 140737488351232) (h0 : 0 < insN s.data.toList)
  (hq : w.cell? q = some (fun30 p)) (hp : w.cell? p = some (.string insD)) :
  Calls Tryz.prog 67 #[.string s, .pointer (some q)] w (Reads1 s.data.toList w) := by
 have hq1 : ∀ o, (w.alloc o).cell? q = some (.func (.func 90) #[] #[.pointer (some p)]) := fun o => cell_alloc w o hq
 have hp1 : ∀ o, (w.alloc o).cell? p = some (.string insD) := fun o => cell_alloc w o hp
 have hle := insN_le s
 rcases res_cases (Lx.nameF s.data.toList (insN s.data.toList)) with ho | ⟨x, m, ho⟩
 all_goals
  have HO := Lib.hid ho
  clear ho
  go_enter Tryz.func67, Tryz.ntmps67
  go_wp2_with (first | (go_at_call 66; refine (span_ins s p _ (by exact hp1 _) hl).mono ?_; rintro e w' ⟨rfl, rfl⟩) | (go_at_call 68; refine (name_any s (insN s.data.toList) _ h0 hle hl).mono ?_; rintro e w' ⟨rfl, hw⟩; rw [HO.out]; simp only [resV, tkV, zeroV]; obtain ⟨hc, hf⟩ := bcell hw))
  refine bodyPost_ret (v := resV (Lx.nameF s.data.toList (insN s.data.toList))) ?_ rfl ⟨rfl, ?_⟩
  ·rw [HO.out]; simp [results, Tryz.results67, go_sem, hc, tkV, resV, zeroV]
  ·exact below_set4 (((Below.refl _ _).alloc (Nat.le_refl _) _).trans (hw.mono (by simp))) (Nat.le_refl _)
end Go.Proofs.YtmodmojocclmaaaGreatDoor

/- Contracts of package lex, fifth part: the table. -/
namespace Go.Proofs.YtmodmojocclmaaaGreatDoor
open Go.RowKit

def sgnL : List (List UInt8) := [[45, 62], [58, 61], [40], [41], [123], [125], [44], [59], [58], [61], [43], [45], [42], [47], [60], [33]]
def sgn (k : Nat) : List UInt8 := sgnL.getD k []
def sgnD : Array Value := #[.string ⟨#[45, 62]⟩, .string ⟨#[58, 61]⟩, .string ⟨#[40]⟩, .string ⟨#[41]⟩, .string ⟨#[123]⟩, .string ⟨#[125]⟩, .string ⟨#[44]⟩, .string ⟨#[59]⟩, .string ⟨#[58]⟩, .string ⟨#[61]⟩, .string ⟨#[43]⟩, .string ⟨#[45]⟩, .string ⟨#[42]⟩, .string ⟨#[47]⟩, .string ⟨#[60]⟩, .string ⟨#[33]⟩]
theorem sgn_at (k : Nat) (hk : k < 16) (w : World) : (Instr.index 182 (.agg sgnD) (.int .i64 (k : Int))).run Tryz.prog w = .ok (.string (ba (sgn k))) w := by
 rcases (show k = 0 ∨ k = 1 ∨ k = 2 ∨ k = 3 ∨ k = 4 ∨ k = 5 ∨ k = 6 ∨ k = 7 ∨ k = 8 ∨ k = 9 ∨ k = 10 ∨ k = 11 ∨ k = 12 ∨ k = 13 ∨ k = 14 ∨ k = 15 by omega) with rfl | rfl | rfl | rfl | rfl | rfl | rfl | rfl | rfl | rfl | rfl | rfl | rfl | rfl | rfl | rfl <;> kernel_rfl

theorem Tryz.info181 : (Tryz.prog.info? 181).map (fun i => (i.zero, i.size, i.bytes)) = some (some (.agg #[.nilFunc, .nilFunc]), 2, 16) := by kernel_rfl

theorem own_lit {B : Nat} (w : World) (a b c d : Value) {t : TypeId} {N : Nat} (hN : w.heap.size = N) (hB : B ≤ N) : (w.alloc (.cells #[a, b, c, d] t)).ownsRow B t 2 (.slice (some ⟨N, 0, none⟩) 2 2) 2 [a, b, c, d] :=
 ⟨rfl, .inr ⟨N, 2, _, rfl, hB, Lies.new' w t _ hN, by omega, by decide, rfl, rfl⟩⟩
def Row0 (w : World) (F G : Value) : Prop := ∃ a b c d, F = .func (.func 91) #[] #[.pointer (some ⟨a, 0, none⟩)] ∧ Lies w a 173 #[fun30 ⟨b, 0, none⟩] ∧ Lies w b 9 #[.string digD] ∧
 G = .func (.func 64) #[] #[.pointer (some ⟨c, 0, none⟩)] ∧ Lies w c 173 #[fun30 ⟨d, 0, none⟩] ∧ Lies w d 9 #[.string digD]
def Row1 (w : World) (F G : Value) : Prop := ∃ a b c d, F = .func (.func 91) #[] #[.pointer (some ⟨a, 0, none⟩)] ∧ Lies w a 173 #[fun30 ⟨b, 0, none⟩] ∧ Lies w b 9 #[.string letD] ∧
 G = .func (.func 67) #[] #[.pointer (some ⟨c, 0, none⟩)] ∧ Lies w c 173 #[fun30 ⟨d, 0, none⟩] ∧ Lies w d 9 #[.string insD]
def RowS (w : World) (k : Nat) (F G : Value) : Prop := ∃ N, F = signF1 N ∧ G = signF2 N ∧ Lies w N 9 #[.string (ba (sgn k))] ∧ Lies w (N + 1 + 1) 130 #[.int .i64 5, .string (ba (sgn k)), .int .i64 0, .int .i64 0]
def RowAt (w : World) : Nat → Value → Value → Prop
 | 0 => Row0 w
 | 1 => Row1 w
 | k + 2 => RowS w k
theorem RowAt.keep {w w' : World} (hk : ∀ g t cs, t ≠ 181 → Lies w g t cs → Lies w' g t cs) : ∀ {k : Nat} {F G : Value}, RowAt w k F G → RowAt w' k F G
 | 0, _, _, ⟨a, b, c, d, e, h1, h2, f, h3, h4⟩ => ⟨a, b, c, d, e, hk _ _ _ (by decide) h1, hk _ _ _ (by decide) h2, f, hk _ _ _ (by decide) h3, hk _ _ _ (by decide) h4⟩
 | 1, _, _, ⟨a, b, c, d, e, h1, h2, f, h3, h4⟩ => ⟨a, b, c, d, e, hk _ _ _ (by decide) h1, hk _ _ _ (by decide) h2, f, hk _ _ _ (by decide) h3, hk _ _ _ (by decide) h4⟩
 | _ + 2, _, _, ⟨N, e, f, h1, h2⟩ => ⟨N, e, f, hk _ _ _ (by decide) h1, hk _ _ _ (by decide) h2⟩
theorem RowAt.one {w : World} {k : Nat} {F G : Value} (h : RowAt w k F G) : F.oneCell' = true ∧ G.oneCell' = true := by
 match k, h with
 | 0, ⟨a, b, c, d, e, h1, h2, f, h3, h4⟩ => subst e; subst f; exact ⟨rfl, rfl⟩
 | 1, ⟨a, b, c, d, e, h1, h2, f, h3, h4⟩ => subst e; subst f; exact ⟨rfl, rfl⟩
 | _ + 2, ⟨N, e, f, h1, h2⟩ => subst e; subst f; exact ⟨rfl, rfl⟩

def Tab (w : World) (B : Nat) (v : Value) (n : Nat) : Prop :=
 ∃ rows : List (Value × Value), rows.length = n ∧ w.ownsRow B 181 2 v n (rows.flatMap fun r => [r.1, r.2]) ∧ ∀ k r, rows[k]? = some r → RowAt w k r.1 r.2
theorem Tab.step {w w1 w2 : World} {B n N : Nat} {v v' : Value} {rows : List (Value × Value)}
  (hlen : rows.length = n + 2) (hrow : ∀ k r, rows[k]? = some r → RowAt w k r.1 r.2)
  (hb : Below w.heap.size w w1) (hown1 : w1.ownsRow B 181 2 v (n + 2) (rows.flatMap fun r => [r.1, r.2]))
  (h1 : Lies w1 N 9 #[.string (ba (sgn n))]) (h2 : Lies w1 (N + 1 + 1) 130 #[.int .i64 5, .string (ba (sgn n)), .int .i64 0, .int .i64 0])
  (hown : w2.ownsRow B 181 2 v' (n + 2 + 1) ((rows.flatMap fun r => [r.1, r.2]) ++ [signF1 N, signF2 N])) (hg : w1.grownBy w2 v.ownBlock) : Tab w2 B v' (n + 1 + 2) := by
 refine ⟨rows ++ [(signF1 N, signF2 N)], by simp [hlen], by simpa using hown, fun k r hr => ?_⟩
 have hk2 : ∀ g t cs, t ≠ 181 → Lies w1 g t cs → Lies w2 g t cs := fun g t cs ht h => h.grown hg (h.apart hown1 (Ne.symm ht))
 rcases Nat.lt_or_ge k rows.length with hk | hk
 ·rw [List.getElem?_append_left hk] at hr
  exact ((hrow k r hr).keep fun g t cs _ h => h.later hb).keep hk2
 ·rw [List.getElem?_append_right hk] at hr
  have hk0 : k - rows.length = 0 := by
   rcases Nat.eq_zero_or_pos (k - rows.length) with h | h
   ·exact h
   ·rw [List.getElem?_eq_none (by simp <;> omega)] at hr; cases hr
  rw [hk0] at hr
  simp at hr
  subst hr
  have : k = n + 2 := by omega
  subst this
  exact ⟨N, rfl, rfl, hk2 _ _ _ (by decide) h1, hk2 _ _ _ (by decide) h2⟩

set_option maxRecDepth 100000 in
set_option maxHeartbeats 2000000 in
theorem kinds_any (w : World) (t : TypeId) (fr : Nat × Nat) (hg : w.heap[0]? = some (.cells sgnD t fr)) :
  Calls Tryz.prog 45 #[] w fun e w' => ∃ v, e = .returned v ∧ Tab w' w.heap.size v 18 ∧ Below w.heap.size w w' := by
 obtain ⟨i0, hi, hz0, hz1, hz2⟩ := info_parts Tryz.info181
 go_enter Tryz.func45, Tryz.ntmps45
 go_wp2_with (first | (go_at_call 62; refine (within_any _ _).mono ?_; rintro e w' ⟨rfl, rfl⟩) | (go_at_call 63; refine (ahead_any _ _).mono ?_; rintro e w' ⟨rfl, rfl⟩) | (refine wpList_load_row rfl 182 (.global 0) rfl 0 rfl t sgnD fr _ (by repeat (first | exact hg | refine heap_alloc_some ?_ _)) Tryz.underlying182 rfl (by kernel_rfl) ?_))
 go_loopw [4, 20] (fun v i wr => ∃ k : Nat, k ≤ 16 ∧ i = .int .i64 k ∧ Tab wr w.heap.size v (k + 2) ∧ Below w.heap.size w wr) (fun _ i _ => 16 - (intOf i).toNat)
 case atStart =>
  refine ⟨0, by omega, rfl, ⟨[(.func (.func 91) #[] #[.pointer (some ⟨w.heap.size + 1 + 1 + 1 + 1 + 1, 0, none⟩)], .func (.func 64) #[] #[.pointer (some ⟨w.heap.size + 1 + 1 + 1, 0, none⟩)]),
   (.func (.func 91) #[] #[.pointer (some ⟨w.heap.size + 1 + 1 + 1 + 1 + 1 + 1, 0, none⟩)], .func (.func 67) #[] #[.pointer (some ⟨w.heap.size + 1 + 1 + 1 + 1, 0, none⟩)])], rfl, ?_, ?_⟩, ?_⟩
  ·exact own_lit _ _ _ _ _ (by simp) (by omega)
  ·intro k r hr
   match k, hr with
   | 0, hr =>
    simp at hr; subst hr
    exact ⟨_, w.heap.size, _, w.heap.size, rfl, ((Lies.new' _ _ _ (by simp)).alloc _).alloc _, (((((((Lies.new' _ _ _ rfl).alloc _).alloc _).alloc _).alloc _).alloc _).alloc _).alloc _, rfl, ((((Lies.new' _ _ _ (by simp)).alloc _).alloc _).alloc _).alloc _, (((((((Lies.new' _ _ _ rfl).alloc _).alloc _).alloc _).alloc _).alloc _).alloc _).alloc _⟩
   | 1, hr =>
    simp at hr; subst hr
    exact ⟨_, w.heap.size + 1, _, w.heap.size + 1 + 1, rfl, (Lies.new' _ _ _ (by simp)).alloc _, ((((((Lies.new' _ _ _ (by simp)).alloc _).alloc _).alloc _).alloc _).alloc _).alloc _, rfl, (((Lies.new' _ _ _ (by simp)).alloc _).alloc _).alloc _, (((((Lies.new' _ _ _ (by simp)).alloc _).alloc _).alloc _).alloc _).alloc _⟩
   | k + 2, hr => simp at hr
  ·exact ((((((((Below.refl _ _).alloc (by simp) _).alloc (by simp <;> omega) _).alloc (by simp <;> omega) _).alloc (by simp <;> omega) _).alloc (by simp <;> omega) _).alloc (by simp <;> omega) _).alloc (by simp <;> omega) _).alloc (by simp <;> omega) _
 case round =>
  rename_i wr
  obtain ⟨k, hk, rfl, ⟨rows, hlen, hown, hrow⟩, hnx⟩ := hrel
  by_cases hlt : k < 16
  ·have hidx := sgn_at k hlt
   have HB := Lib.hid hlen
   clear hlen
   have HR := Lib.hid hrow
   clear hrow
   have hsz := hnx.size
   go_wp2_with (first | (go_at_call 69; refine (signKind_any _ _).mono ?_; rintro e w' ⟨rfl, rfl⟩; unfold signF1 signF2) | (at_builtin; go_loud (refine wpList_append_own _ rfl (.tmp 23) (.tmp 26) 126 rfl w.heap.size 181 i0 (.agg #[.nilFunc, .nilFunc]) 2 16 Tryz.underlying126 hi hz0 hz1 hz2 rfl (by decide) _ _ _ rfl ((((hown.alloc _).alloc _).alloc _).alloc _) ⟨wr.heap.size + 1 + 1 + 1, 0, none⟩ 1 1 [signF1 wr.heap.size, signF2 wr.heap.size] rfl rfl ?c1 ?c2 ?c3 ?c4 ?c5 ?_)))
   case c1 => exact new_two _ _ _ _ (by simp)
   case c2 =>
    intro u hu
    simp only [List.mem_cons, List.not_mem_nil, or_false] at hu
    rcases hu with rfl | rfl <;> rfl
   case c3 => unfold maxLen; omega
   case c4 => omega
   case c5 => simp; omega
   intro v' w2 hown2 hgrow _
   have hT := Tab.step (N := wr.heap.size) HB.out HR.out (((((Below.refl _ wr).alloc (by simp) _).alloc (by simp) _).alloc (by simp <;> omega) _).alloc (by simp <;> omega) _) ((((hown.alloc _).alloc _).alloc _).alloc _)
    ((((Lies.new wr 9 _).alloc _).alloc _).alloc _) ((Lies.new' _ 130 _ (by simp)).alloc _) hown2 hgrow
   have hN := (((((hnx.alloc (by omega) _).alloc (by simp <;> omega) _).alloc (by simp <;> omega) _).alloc (by simp <;> omega) _).grown hgrow (by simp <;> omega) (fun g hg => (hown.lt g hg).1))
   clear hown2 hgrow hown hnx hidx
   go_wp2
   go_roundw
   case rel => exact ⟨k + 1, by omega, by go_num, hT, hN⟩
   case measure => simp [intOf]; omega
  ·have h16 : k = 16 := by omega
   subst h16
   go_wp2
   go_ret
   exact ⟨_, rfl, ⟨rows, hlen, hown, hrow⟩, hnx⟩
end Go.Proofs.YtmodmojocclmaaaGreatDoor
