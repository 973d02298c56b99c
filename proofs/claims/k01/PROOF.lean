import PyProof.Rows.All
import Wide.All
import OpenK.AllK
import Wide.FinOn
import HandS.ForMost
import HandS.IsInst
import HandS.Zip
import HandS.More
import KE.LtData
import HandS.DictComp
import KE.SortKeyHeap
import HandS.SortKw
import HandS.OwnEq
import PySem.Challenge.RW_spoorfold_k01_texts_that_are_words
set_option Elab.async false
set_option linter.all false
set_option maxRecDepth 100000
namespace Sf
open PySem PySem.Spec PyProof.Rows L2
/-! the text of the law by places -/
def topS (i : Nat) : Stmt := PySem.Challenge.pw_spoorfold_k01_texts_that_are_words.main.body.getD i (.Pass ⟨0, 0, 0, 0⟩)
abbrev s_is_word : Stmt := topS 4
abbrev s__law_begin : Stmt := topS 6
abbrev s__law_same : Stmt := topS 7
abbrev s__law_pull : Stmt := topS 8
abbrev s__law_sign : Stmt := topS 9
abbrev s__law_flip : Stmt := topS 10
abbrev s__law_word : Stmt := topS 11
abbrev s__law_any_word : Stmt := topS 12
abbrev s__law_bad : Stmt := topS 13
abbrev s_law : Stmt := topS 14
end Sf
namespace Sf
open PySem PySem.Spec PyProof.Rows L2 TL
/-! ### helpers of heaps and blocks -/
theorem same_upd {H : Hp} {p : Addr} {o : HO} (h : H p = none) : Same H (upd H p o) := fun b x e => by
  rw [upd_ne (ne_of_none e h)]
  exact e
/-- all but what stands at b stands -/
def Fx (b : Addr) (H H' : Hp) : Prop := ∀ a o, H a = some o → a ≠ b → H' a = some o
theorem Fx.refl {b : Addr} {H : Hp} : Fx b H H := fun _ _ h _ => h
theorem Fx.of {b : Addr} {H H' : Hp} (h : Same H H') : Fx b H H' := fun a o e _ => h a o e
theorem Fx.trans {b : Addr} {H H1 H2 : Hp} (h : Fx b H H1) (k : Fx b H1 H2) : Fx b H H2 := fun a o e n => k a o (h a o e n) n
theorem Fx.same {b : Addr} {H H1 H2 : Hp} (h : Fx b H H1) (k : Same H1 H2) : Fx b H H2 := h.trans (.of k)
theorem Fx.upd {b : Addr} {H H1 : Hp} {o : HO} (h : Fx b H H1) : Fx b H (upd H1 b o) := fun a u e n => by
  rw [upd_ne n]
  exact h a u e n
theorem Fx.new {b p : Addr} {H H1 : Hp} {o : HO} (h : Fx b H H1) (n : H1 p = none) : Fx b H (L2.upd H1 p o) := h.same (same_upd n)
theorem Fx.seq {b a : Addr} {H H1 : Hp} {xs : List V} {K : PySem.W.Frag} (h : Fx b H H1) (n : a ≠ b) (s : SqL K H a xs) : SqL K H1 a xs := by
  rcases s with (s | ⟨o, s⟩) | s
  · exact .inl (.inl (h _ _ s n))
  · exact .inl (.inr ⟨o, h _ _ s n⟩)
  · exact .inr s
theorem seq_by {X : Cx} {st : Stmt} {rest : List Stmt} {D : Ends} {σ : L2.St} {H : Hp} (J : L2.St → Hp → Prop) (hr : ∃ u, PSs X rest u ∧ ∀ σ' H', J σ' H' → u D σ' H')
    (hs : ∀ u : TS, (∀ σ' H', J σ' H' → u D σ' H') → ∃ t, PS X st t ∧ t { D with nx := u D } σ H) : ∃ t, PSs X (st :: rest) t ∧ t D σ H := by
  obtain ⟨u, hu, k⟩ := hr
  obtain ⟨t, ht, h⟩ := hs u k
  exact ⟨tSeq t u, pss_cons ht hu, h⟩
theorem line_of {n : Nat} (h : n ≤ 100000) : n ≤ sizeLine := Nat.le_trans h (by decide)
theorem lineLt_of {n : Nat} (h : n ≤ 100000) : n < sizeLine := Nat.lt_of_le_of_lt h (by decide)
/-! ### the bag of the laws: its list at l, three numbers -/
structure BagL (H : Hp) (b l : Addr) (ns : List Int) (k z r : Int) : Prop where
  hb : H b = some (.lst [.ref l, .int k, .int z, .int r])
  hl : H l = some (.lst (ns.map V.int))
  k0 : 0 ≤ k
  z0 : 0 ≤ z
  r0 : 0 ≤ r
  r1 : r < 2147483647
def Bag (H : Hp) (b : Addr) : Prop := ∃ (l : Addr) (ns : List Int) (k z r : Int), BagL H b l ns k z r
theorem bag_ne {l : Addr} {ns : List Int} {vs : List V} : HO.lst (.ref l :: vs) ≠ HO.lst (ns.map V.int) := fun e => by
  cases ns with
  | nil => cases e
  | cons x r => cases e
theorem BagL.ne {H : Hp} {b l : Addr} {ns : List Int} {k z r : Int} (h : BagL H b l ns k z r) : l ≠ b := fun e => by
  have h1 := h.hb
  have h2 := h.hl
  rw [e, h1] at h2
  exact bag_ne (Option.some.inj h2)
theorem BagL.set {H : Hp} {b l : Addr} {ns : List Int} {k z r k' z' r' : Int} (h : BagL H b l ns k z r) (hk : 0 ≤ k') (hz : 0 ≤ z') (h0 : 0 ≤ r') (h1 : r' < 2147483647) :
    BagL (upd H b (.lst [.ref l, .int k', .int z', .int r'])) b l ns k' z' r' :=
  ⟨upd_same, by rw [upd_ne h.ne]; exact h.hl, hk, hz, h0, h1⟩
theorem Bag.same {H H' : Hp} {b : Addr} (s : Same H H') : Bag H b → Bag H' b
  | ⟨l, ns, k, z, r, h⟩ => ⟨l, ns, k, z, r, s _ _ h.hb, s _ _ h.hl, h.k0, h.z0, h.r0, h.r1⟩
theorem Bag.new {H : Hp} {b p : Addr} {o : HO} (h : Bag H b) (n : H p = none) : Bag (upd H p o) b := h.same (same_upd n)
theorem Bag.ne {H : Hp} {b p : Addr} (h : Bag H b) (n : H p = none) : p ≠ b := fun e => by
  obtain ⟨l, ns, k, z, r, h⟩ := h
  rw [e, h.hb] at n
  cases n
theorem len_eq {α : Type} {xs : List α} {n : Nat} (h : xs.length = n) : ((xs.length : Nat) : Int) = (n : Int) := by rw [h]
theorem int_at {ns : List Int} {k : Int} (h0 : 0 ≤ k) (h1 : k < ((ns.map V.int).length : Nat)) : ∃ v : Int, atI (ns.map V.int) k = some (.int v) := by
  rw [List.length_map] at h1
  refine ⟨ns[k.toNat]'(by omega), at_of (j := k.toNat) (by omega) ?_⟩
  rw [List.getElem?_map, List.getElem?_eq_getElem (by omega)]
  rfl
end Sf
namespace Sf
open PySem PySem.Spec PyProof.Rows L2 TL
/-! ### what stands at the top: a def of the text; a def that keeps a promise; a constant; built-in names -/
def FnAt (K : PySem.W.Frag) (mg : Str → Option Value) (x : Str) (st : Stmt) (ps : List Str) : Prop := ∃ (f : Addr) (fd : FuncData), mg x = some (.ref f) ∧ Fun K x x st f fd ∧ Binds K fd ps []
def Has (P : Program) (w : World) (K : PySem.W.Frag) (mg : Str → Option Value) (base : Heap) (k : Nat) (x : Str) (ps : List Str) (sp : Sp) : Prop :=
  ∃ (f : Addr) (fd : FuncData), mg x = some (.ref f) ∧ PySem.W.keepIn K (.ref f) = true ∧ Binds K fd ps [] ∧ FnOk P w K mg base CX0 k f fd ps sp
theorem FnAt.has {P : Program} {w : World} {K : PySem.W.Frag} {mg : Str → Option Value} {base : Heap} {k : Nat} {x : Str} {st : Stmt} {ps : List Str} {sp : Sp} (h : FnAt K mg x st ps)
    (ok : ∀ {f : Addr} {fd : FuncData}, Fun K x x st f fd → FnOk P w K mg base CX0 k f fd ps sp) : Has P w K mg base k x ps sp := by
  obtain ⟨f, fd, g, F, b⟩ := h
  exact ⟨f, fd, g, F.kp, b, ok F⟩
theorem fnAt_mk {K : PySem.W.Frag} {h : Heap} {mg : Str → Option Value} {x : Str} {st : Stmt} {ps : List Str} {f : Addr} {oc : Value} {od an : Option Addr} {osl : Array (Option Value)} {kV doc pm cdv ct : Value} (X : K.In h) (G : h.Ns mainGlobals mg)
    (a : PySem.W.nsIn K mainGlobals x = some (some (.ref f))) (l : K.lookup f = some ⟨oc, od, .func (PySem.W.fnOf x x (defArgs st) (defBody st) (defScope st) .none kV doc pm an cdv ct), osl⟩)
    (c : PySem.W.codeIn K cdv x = true) (k : PySem.W.keepIn K (.ref f) = true)
    (b : ∀ (kV doc pm : Value) (an : Option Addr) (cdv ct : Value) (us : List Value), us.length = ps.length → bindArgs (PySem.W.fnOf x x (defArgs st) (defBody st) (defScope st) .none kV doc pm an cdv ct) ⟨us, []⟩ = pure (ps.zip us)) : FnAt K mg x st ps :=
  ⟨f, _, PySem.W.mg_of X G a, fun_mk l c k, (fun_mk l c k).binds b⟩
structure Blt (mg : Str → Option Value) : Prop where
  len : mg "len" = none
  range : mg "range" = none
  isinstance : mg "isinstance" = none
  list : mg "list" = none
  tuple : mg "tuple" = none
  bool : mg "bool" = none
  int : mg "int" = none
  str : mg "str" = none
  all : mg "all" = none
  zip : mg "zip" = none
  min : mg "min" = none
  sorted : mg "sorted" = none
theorem lc_gen {J : It} {n : Nat} {g : TG} {tt : TT} {te : TE} {vs : List Nat} {σ : L2.St} {H1 : Hp} {D : Addr} {Qd : Hp → Prop} (Pv : Nat → Hp → Prop) (h0 : Pv 0 (upd H1 D (.lst [])))
    (hgo : ∀ i H, i < n → Pv i H → J.go i H) (hst : ∀ H, Pv n H → J.stop n H)
    (hs : ∀ i x H H', i < n → Pv i H → J.yld i H x H' → g x (wipe σ vs) H' fun σ2 H2 => wipe σ2 vs = wipe σ vs ∧ tt σ2 H2 fun b H3 =>
      if b = true then te σ2 H3 fun y H4 => ∃ acc, H4 D = some (.lst acc) ∧ acc.length < sizeLine ∧ Pv (i + 1) (upd H4 D (.lst (acc ++ [y]))) else Pv (i + 1) H3) (hd : ∀ H, Pv n H → Qd H) :
    ∃ W : Nat → Nat → Hp → Prop, (∃ m, W 0 m (upd H1 D (.lst []))) ∧ ∀ i m H, W i m H →
      (J.stop i H ∧ Qd H) ∨ (J.go i H ∧ ∃ Nx : Hp → Prop, (∀ H', Nx H' → ∃ m', m' < m ∧ W (i + 1) m' H') ∧ ∀ x H', J.yld i H x H' → g x (wipe σ vs) H' fun σ2 H2 => wipe σ2 vs = wipe σ vs ∧ tt σ2 H2 fun b H3 =>
        if b = true then te σ2 H3 fun y H4 => ∃ acc, H4 D = some (.lst acc) ∧ acc.length < sizeLine ∧ Nx (upd H4 D (.lst (acc ++ [y]))) else Nx H3) := by
  refine ⟨fun i m H => m = n - i ∧ i ≤ n ∧ Pv i H, ⟨n, rfl, Nat.zero_le _, h0⟩, ?_⟩
  rintro i m H ⟨rfl, hi, p⟩
  by_cases hlt : i < n
  · exact .inr ⟨hgo i H hlt p, Pv (i + 1), fun H' p' => ⟨n - (i + 1), by omega, rfl, hlt, p'⟩, fun x H' y => hs i x H H' hlt p y⟩
  · have e : i = n := by omega
    subst e
    exact .inl ⟨hst H p, hd H p⟩
theorem for_gen {J : It} {n : Nat} {g : TG} {tb : TS} {D : Ends} {σ : L2.St} {H : Hp} (Pv : Nat → L2.St → Hp → Prop) (h0 : Pv 0 σ H) (hgo : ∀ i σ H, i < n → Pv i σ H → J.go i H) (hst : ∀ σ H, Pv n σ H → J.stop n H)
    (hs : ∀ i x σ H H', i < n → Pv i σ H → J.yld i H x H' → g x σ H' fun σ2 H2 => tb { D with nx := Pv (i + 1), ct := Pv (i + 1), bk := D.nx } σ2 H2) (hd : ∀ σ H, Pv n σ H → D.nx σ H) :
    ∃ W : Nat → Nat → L2.St → Hp → Prop, (∃ m, W 0 m σ H) ∧ ∀ i m σ H, W i m σ H →
      (J.stop i H ∧ D.nx σ H) ∨ (J.go i H ∧ ∃ N : L2.St → Hp → Prop, (∀ σ' H', N σ' H' → ∃ m', m' < m ∧ W (i + 1) m' σ' H') ∧ ∀ x H', J.yld i H x H' → g x σ H' fun σ2 H2 => tb { D with nx := N, ct := N, bk := D.nx } σ2 H2) := by
  refine ⟨fun i m σ H => m = n - i ∧ i ≤ n ∧ Pv i σ H, ⟨n, rfl, Nat.zero_le _, h0⟩, ?_⟩
  rintro i m σ H ⟨rfl, hi, p⟩
  by_cases hlt : i < n
  · exact .inr ⟨hgo i σ H hlt p, Pv (i + 1), fun σ' H' p' => ⟨n - (i + 1), by omega, rfl, hlt, p'⟩, fun x H' y => hs i x σ H H' hlt p y⟩
  · have e : i = n := by omega
    subst e
    exact .inl ⟨hst σ H p, hd σ H p⟩
theorem yes_if {σ : L2.St} {H : Hp} {A B : Hp → Prop} (h : A H) : tYes σ H (fun b H3 => if b = true then A H3 else B H3) := by
  show if true = true then A H else B H
  exact iteT h
/-! ### signs and words -/
def sgn (c : Nat) : Bool := (decide (97 ≤ c) && decide (c ≤ 104)) || (decide (65 ≤ c) && decide (c ≤ 72))
theorem sgn_iff {c : Nat} : sgn c = true ↔ (97 ≤ c ∧ c ≤ 104) ∨ (65 ≤ c ∧ c ≤ 72) := by
  unfold sgn
  simp only [Bool.or_eq_true, Bool.and_eq_true, decide_eq_true_eq]
def flipC (c : Nat) : Nat := if 97 ≤ c then c - 32 else c + 32
def Wd (x : Str) : Prop := ∀ c ∈ tl x, sgn c = true
abbrev one (c : Nat) : Str := ⟨#[c]⟩
theorem tl_one (c : Nat) : tl (one c) = [c] := rfl
theorem len_one (c : Nat) : (one c).length = 1 := rfl
theorem len_app (x y : Str) : (x ++ y).length = x.length + y.length := by
  rw [len_tl, len_tl, len_tl, tl_append, List.length_append]
theorem Wd.app {x y : Str} (hx : Wd x) (hy : Wd y) : Wd (x ++ y) := fun c hc => by
  rw [tl_append, List.mem_append] at hc
  exact hc.elim (hx c) (hy c)
theorem wd_one {c : Nat} (h : sgn c = true) : Wd (one c) := fun d hd => by
  rw [tl_one, List.mem_singleton] at hd
  rw [hd]
  exact h
theorem tl_small : (Str.ofString "abcdefgh").cps.toList = [97, 98, 99, 100, 101, 102, 103, 104] := by decide +kernel
theorem tl_great : (Str.ofString "ABCDEFGH").cps.toList = [65, 66, 67, 68, 69, 70, 71, 72] := by decide +kernel
theorem tl_signs : (Str.ofString "aAbBcCdDeEfFgGhH").cps.toList = [97, 65, 98, 66, 99, 67, 100, 68, 101, 69, 102, 70, 103, 71, 104, 72] := by decide +kernel
theorem in_small {c : Nat} : (c ∈ (Str.ofString "abcdefgh").cps.toList) ↔ (97 ≤ c ∧ c ≤ 104) := by
  rw [tl_small]
  simp only [List.mem_cons, List.not_mem_nil, or_false]
  omega
theorem in_signs {c : Nat} : (c ∈ (Str.ofString "aAbBcCdDeEfFgGhH").cps.toList) ↔ sgn c = true := by
  rw [tl_signs, sgn_iff]
  simp only [List.mem_cons, List.not_mem_nil, or_false]
  omega
theorem upper_one {c : Nat} (h : 97 ≤ c ∧ c ≤ 104) : Txt.upper (one c) = one (c - 32) := by
  have : c = 97 ∨ c = 98 ∨ c = 99 ∨ c = 100 ∨ c = 101 ∨ c = 102 ∨ c = 103 ∨ c = 104 := by omega
  rcases this with rfl | rfl | rfl | rfl | rfl | rfl | rfl | rfl <;> decide +kernel
theorem lower_one {c : Nat} (h : 65 ≤ c ∧ c ≤ 72) : Txt.lower (one c) = one (c + 32) := by
  have : c = 65 ∨ c = 66 ∨ c = 67 ∨ c = 68 ∨ c = 69 ∨ c = 70 ∨ c = 71 ∨ c = 72 := by omega
  rcases this with rfl | rfl | rfl | rfl | rfl | rfl | rfl | rfl <;> decide +kernel
theorem flip_sgn {c : Nat} (h : sgn c = true) : sgn (flipC c) = true := by
  rw [sgn_iff] at h ⊢
  unfold flipC
  split <;> omega
theorem at_small {e : Int} (h0 : 0 ≤ e) (h1 : e < 8) : atI (Str.ofString "abcdefgh").cps.toList e = some (97 + e.toNat) := by
  have : e = 0 ∨ e = 1 ∨ e = 2 ∨ e = 3 ∨ e = 4 ∨ e = 5 ∨ e = 6 ∨ e = 7 := by omega
  rw [tl_small]
  rcases this with rfl | rfl | rfl | rfl | rfl | rfl | rfl | rfl <;> rfl
theorem at_great {e : Int} (h0 : 0 ≤ e) (h1 : e < 8) : atI (Str.ofString "ABCDEFGH").cps.toList e = some (65 + e.toNat) := by
  have : e = 0 ∨ e = 1 ∨ e = 2 ∨ e = 3 ∨ e = 4 ∨ e = 5 ∨ e = 6 ∨ e = 7 := by omega
  rw [tl_great]
  rcases this with rfl | rfl | rfl | rfl | rfl | rfl | rfl | rfl <;> rfl
theorem at_end {x : List Nat} (h : x ≠ []) : ∃ c, atI x (-1) = some c ∧ c ∈ x := by
  refine ⟨x.getLast h, ?_, List.getLast_mem h⟩
  have e := atI_last x.dropLast (x.getLast h)
  rw [List.dropLast_concat_getLast h] at e
  exact e
theorem str_ne {x : Str} (h : ¬ V.str x = V.str "") : tl x ≠ [] := fun e => h (by
  have : x = "" := ext_tl (by rw [e]; decide +kernel)
  rw [this])
theorem wd_nil : Wd "" := fun c hc => by
  have e : tl "" = [] := by decide +kernel
  rw [e] at hc
  cases hc
/-! ### two values of the same data -/
def flat4 : V → Bool
  | .non => true
  | .bl _ => true
  | .int _ => true
  | .str _ => true
  | _ => false
def Eqv (H : Hp) : Nat → V → V → Prop
  | 0, x, y => flat4 x = true ∧ x = y
  | n + 1, x, y => (flat4 x = true ∧ x = y) ∨ ∃ (p q : Addr) (xs ys : List V), x = .ref p ∧ y = .ref q ∧ ((H p = some (.lst xs) ∧ H q = some (.lst ys)) ∨ (H p = some (.tup xs) ∧ H q = some (.tup ys))) ∧
      xs.length = ys.length ∧ xs.length ≤ 100000 ∧ ∀ (i : Nat) (x y : V), xs[i]? = some x → ys[i]? = some y → Eqv H n x y
theorem Eqv.same {H H' : Hp} (s : Same H H') : ∀ {n : Nat} {x y : V}, Eqv H n x y → Eqv H' n x y
  | 0, _, _, h => h
  | _ + 1, _, _, .inl h => .inl h
  | _ + 1, _, _, .inr ⟨p, q, xs, ys, ex, ey, hp, hl, hz, k⟩ => .inr ⟨p, q, xs, ys, ex, ey, hp.elim (fun h => .inl ⟨s _ _ h.1, s _ _ h.2⟩) (fun h => .inr ⟨s _ _ h.1, s _ _ h.2⟩), hl, hz, fun i x y hx hy => Eqv.same s (k i x y hx hy)⟩
theorem Eqv.flat {H : Hp} {n : Nat} {x : V} (h : flat4 x = true) : Eqv H n x x := by
  cases n with
  | zero => exact ⟨h, rfl⟩
  | succ n => exact .inl ⟨h, rfl⟩
theorem flat_kit {K : PySem.W.Frag} {H : Hp} {x : V} (h : flat4 x = true) : ∃ (T : String) (b1 b2 b3 : Bool), TyX K H x (.type T) ∧ kitB T "list" = some false ∧ kitB T "tuple" = some false ∧ kitB T "bool" = some b1 ∧ kitB T "int" = some b2 ∧ kitB T "str" = some b3 := by
  cases x with
  | non => exact ⟨"NoneType", false, false, false, .base .non, by decide +kernel, by decide +kernel, by decide +kernel, by decide +kernel, by decide +kernel⟩
  | bl b => exact ⟨"bool", true, true, false, .base (.bl b), by decide +kernel, by decide +kernel, by decide +kernel, by decide +kernel, by decide +kernel⟩
  | int b => exact ⟨"int", false, true, false, .base (.int b), by decide +kernel, by decide +kernel, by decide +kernel, by decide +kernel, by decide +kernel⟩
  | str b => exact ⟨"str", false, false, true, .base (.str b), by decide +kernel, by decide +kernel, by decide +kernel, by decide +kernel, by decide +kernel⟩
  | byt b => cases h
  | flt b => cases h
  | ref b => cases h
  | ty b => cases h
theorem TyX.same {K : PySem.W.Frag} {H H' : Hp} {x : V} {T : String} (s : Same H H') (f : flat4 x = true) (h : TyX K H x (.type T)) : TyX K H' x (.type T) := by
  cases x with
  | non => cases h with | base h => cases h with | non => exact .base .non
  | bl b => cases h with | base h => cases h with | bl => exact .base (.bl b)
  | int b => cases h with | base h => cases h with | int => exact .base (.int b)
  | str b => cases h with | base h => cases h with | str => exact .base (.str b)
  | byt b => cases f
  | flt b => cases f
  | ref b => cases f
  | ty b => cases f
theorem kit2 {K : PySem.W.Frag} {T : String} (h1 : kitB T "list" = some false) (h2 : kitB T "tuple" = some false) : PySem.W.kitAny K (.type T) [.type "list", .type "tuple"] = some false :=
  kitAny_cons (kit_ty h1) (fun _ => kitAny_cons (kit_ty h2) (fun _ => kitAny_nil) (fun q => nomatch q)) (fun q => nomatch q)
theorem scal_flat {x : V} (h : flat4 x = true) : scal x x = true := by
  cases x <;> first | rfl | cases h
theorem ne_bl (b : Bool) : (!decide (V.bl b = V.bl b)) = false := by simp
end Sf
namespace Sf
open PySem PySem.Spec PyProof.Rows L2 TL
section
variable {P : Program} {w : World} {K : PySem.W.Frag} {mg : Str → Option Value} {base : Heap}
/-! ### _law_pull: some number below many -/
def spPull : Sp := fun vs H Q _ => ∃ (b : Addr) (n : Int), vs = [.ref b, .int n] ∧ Bag H b ∧ 0 < n ∧ n < 1073741824 ∧
  ∀ (d : Int) (H' : Hp), 0 ≤ d → d < n → Bag H' b → Fx b H H' → Q (.int d) H'
theorem sc_pull : FnScope ["_law_bag", "_law_many", "_law_cell", "_law_digit"] ["_law_bag", "_law_many"] (defScope s__law_pull) := ⟨rfl, rfl, rfl, by decide +kernel, rfl, by decide +kernel, by decide +kernel⟩
theorem ok_pull {f : Addr} {fd : FuncData} {j : Nat} (F : Fun K "_law_pull" "_law_pull" s__law_pull f fd) (ml : mg "len" = none) : FnOk P w K mg base CX0 (j + 1) f fd ["_law_bag", "_law_many"] spPull := by
  refine F.ok sc_pull (fun vs H Q E h => ?_) (fun cdv A outer s H vs Q E hr h => ?_)
  · obtain ⟨b, n, rfl, _⟩ := h
    rfl
  · obtain ⟨b, n, rfl, ⟨l, ns, k, z, r, hB⟩, hn0, hn1, q⟩ := h
    refine seq_by (fun σ H1 => ∃ (y2 : Option V) (k z r : Int), σ = [some (.ref b), some (.int n), y2, none] ∧ BagL H1 b l ns k z r ∧ Fx b H H1) ?_ ?_
    · refine ⟨_, pss_cons (ps_if (pt_cmpR op_gt (pe_ix ix_list (pv 0) pe_int (fun _ _ => rfl)) pe_int (nomark _))
          (pss_cons (ps_set (i := 3) sc_pull.nd rfl (.inl rfl) (pe_op op_mod (pe_ix ix_list (pv 0) pe_int (fun _ _ => rfl)) (pv 1)))
          (pss_cons (ps_asg (pe_op op_fdiv (pe_ix ix_list (pv 0) pe_int (fun _ _ => rfl)) (pv 1)) (pg_sub (pv 0) pe_int set_list))
          (pss_one (ps_ret (pv 3))))) pss_nil)
        (pss_cons (ps_asg (pe_op op_mod (pe_op op_add (pe_op op_add (pe_op op_mul (pe_op op_mod (pe_op op_mul (pe_ix ix_list (pv 0) pe_int (fun _ _ => rfl)) (pe_ix ix_list (pv 0) pe_int (fun _ _ => rfl))) pe_int) pe_int)
            (pe_op op_mul (pe_ix ix_list (pv 0) pe_int (fun _ _ => rfl)) pe_int)) pe_int) pe_int) (pg_sub (pv 0) pe_int set_list))
        (pss_one (ps_ret (pe_op op_mod (pe_op op_add (pe_op op_fdiv (pe_ix ix_list (pv 0) pe_int (fun _ _ => rfl)) pe_int) (pe_op op_mul (pe_op op_mod (pe_ix ix_list (pv 0) pe_int (fun _ _ => rfl)) pe_int) pe_int)) (pv 1))))), ?_⟩
      rintro σ H1 ⟨y2, k, z, r, rfl, B, fx⟩
      have hS := SqL.of (K := K) B.hb
      have rr0 := B.r0
      have rr1 := B.r1
      have zz0 := B.z0
      refine ⟨_, rfl, b, _, 2, _, rfl, rfl, hS, at_of (j := 2) rfl rfl, z, 0, rfl, rfl, _, rfl, ite2 (fun e => ?_) (fun e => ?_)⟩
      · have zp : 0 < z := of_decide_eq_true e
        refine ⟨_, rfl, b, _, 2, _, rfl, rfl, hS, at_of (j := 2) rfl rfl, _, rfl, z, n, rfl, rfl, hn0, ?_⟩
        refine ⟨_, rfl, b, _, 2, _, rfl, rfl, hS, at_of (j := 2) rfl rfl, _, rfl, z, n, rfl, rfl, ⟨hn0, hn1⟩, ?_⟩
        refine ⟨_, rfl, b, _, 2, 2, rfl, rfl, B.hb, rfl, ?_⟩
        refine ⟨_, rfl, ?_⟩
        refine q _ _ (Int.emod_nonneg _ (by omega)) (Int.emod_lt_of_pos _ hn0) ⟨l, ns, k, z / n, r, B.set B.k0 (Int.ediv_nonneg B.z0 (by omega)) B.r0 B.r1⟩ fx.upd
      · refine ⟨_, rfl, b, _, 3, _, rfl, rfl, hS, at_of (j := 3) rfl rfl, _, rfl, b, _, 3, _, rfl, rfl, hS, at_of (j := 3) rfl rfl, r, r, rfl, rfl, .inl ⟨by omega, by omega⟩,
          _, 2147483629, rfl, rfl, (by show (0 : Int) < 2147483629; decide), _, 5, rfl, rfl, .inr ⟨by decide, by decide⟩,
          _, rfl, b, _, 3, _, rfl, rfl, hS, at_of (j := 3) rfl rfl, r, 16807, rfl, rfl, .inr ⟨by decide, by decide⟩, _, _, rfl, rfl, _, 2531011, rfl, rfl, _, 2147483647, rfl, rfl, (by show (0 : Int) < 2147483647; decide), ?_⟩
        refine ⟨_, rfl, b, _, 3, 3, rfl, rfl, B.hb, rfl, ?_⟩
        have h0 : 0 ≤ (r * r % 2147483629 * 5 + r * 16807 + 2531011) % 2147483647 := Int.emod_nonneg _ (by decide)
        have h1 : (r * r % 2147483629 * 5 + r * 16807 + 2531011) % 2147483647 < 2147483647 := Int.emod_lt_of_pos _ (by decide)
        have B' : BagL (upd H1 b (.lst [.ref l, .int k, .int z, .int ((r * r % 2147483629 * 5 + r * 16807 + 2531011) % 2147483647)])) b l ns k z ((r * r % 2147483629 * 5 + r * 16807 + 2531011) % 2147483647) := B.set B.k0 B.z0 h0 h1
        have hS' := SqL.of (K := K) B'.hb
        refine ⟨_, rfl, b, _, 3, _, rfl, rfl, hS', at_of (j := 3) rfl rfl, _, 61, rfl, rfl, ⟨by decide, by decide⟩,
          _, rfl, b, _, 3, _, rfl, rfl, hS', at_of (j := 3) rfl rfl, _, 8191, rfl, rfl, (by show (0 : Int) < 8191; decide), _, 31, rfl, rfl, .inr ⟨by decide, by decide⟩, _, _, rfl, rfl, _, rfl, _, n, rfl, rfl, hn0, ?_⟩
        exact q _ _ (Int.emod_nonneg _ (by omega)) (Int.emod_lt_of_pos _ hn0) ⟨l, ns, k, z, _, B'⟩ fx.upd
    · intro u hu
      have hS := SqL.of (K := K) hB.hb
      have hS2 := SqL.of (K := K) hB.hl
      have rr0 := hB.r0
      have rr1 := hB.r1
      have zz0 := hB.z0
      have kk0 := hB.k0
      refine ⟨_, ps_if (PW.pt (pw_and (pt_cmpR op_eq (pe_ix ix_list (pv 0) pe_int (fun _ _ => rfl)) pe_int (nomark _))
            (pw_and1 (pt_cmpR op_lt (pe_ix ix_list (pv 0) pe_int (fun _ _ => rfl)) (pe_callB call_len_seq (by rfl) ml PySem.boot_len (pa_cons (pe_ix ix_list (pv 0) pe_int (fun _ _ => rfl)) pa_nil)) (nomark _)))))
          (pss_cons (ps_set (i := 2) sc_pull.nd rfl (.inl rfl) (pe_ix ix_list (pe_ix ix_list (pv 0) pe_int (fun _ _ => rfl)) (pe_ix ix_list (pv 0) pe_int (fun _ _ => rfl)) (fun _ _ => rfl)))
          (pss_cons (ps_asg (pe_op op_add (pe_ix ix_list (pv 0) pe_int (fun _ _ => rfl)) pe_int) (pg_sub (pv 0) pe_int set_list))
          (pss_one (ps_if (pt_cmpR op_ge (pv 2) (pe_op op_pow pe_int pe_int) (nomark _))
            (pss_one (ps_asg (pv 2) (pg_sub (pv 0) pe_int set_list)))
            (pss_one (ps_asg (pe_op op_mod (pe_op op_add (pe_op op_add (pe_op op_mul (pe_ix ix_list (pv 0) pe_int (fun _ _ => rfl)) pe_int) (pe_op op_mul (pe_op op_mod (pv 2) pe_int) pe_int)) pe_int) pe_int) (pg_sub (pv 0) pe_int set_list)))))))
          pss_nil, ?_⟩
      refine ⟨_, rfl, b, _, 2, _, rfl, rfl, hS, at_of (j := 2) rfl rfl, rfl, _, rfl, ite2 (fun e => ?_) (fun e => ?_)⟩
      · refine ⟨_, rfl, b, _, 1, _, rfl, rfl, hS, at_of (j := 1) rfl rfl, _, rfl, b, _, 0, _, rfl, rfl, hS, at_of (j := 0) rfl rfl, l, _, rfl, .inl hS2, k, _, rfl, rfl, _, rfl, ite2 (fun e2 => ?_) (fun e2 => ?_)⟩
        · obtain ⟨v, hv⟩ := int_at (ns := ns) kk0 (of_decide_eq_true e2)
          refine ⟨_, rfl, b, _, 0, _, rfl, rfl, hS, at_of (j := 0) rfl rfl, _, rfl, b, _, 1, _, rfl, rfl, hS, at_of (j := 1) rfl rfl, l, _, k, _, rfl, rfl, hS2, hv, ?_⟩
          refine ⟨_, rfl, b, _, 1, _, rfl, rfl, hS, at_of (j := 1) rfl rfl, k, 1, rfl, rfl, _, rfl, b, _, 1, 1, rfl, rfl, hB.hb, rfl, ?_⟩
          have B' : BagL (upd H b (.lst [.ref l, .int (k + 1), .int z, .int r])) b l ns (k + 1) z r := hB.set (by omega) zz0 rr0 rr1
          have hS' := SqL.of (K := K) B'.hb
          refine ⟨_, rfl, 10, 18, rfl, rfl, ⟨by decide, by decide, by decide⟩, v, _, rfl, rfl, _, rfl, ite2 (fun e3 => ?_) (fun e3 => ?_)⟩
          · have hv0 : 0 ≤ v := by
              have := of_decide_eq_true e3
              have h18 : (10 : Int) ^ (18 : Int).toNat = 1000000000000000000 := by decide +kernel
              rw [h18] at this
              omega
            refine ⟨_, rfl, _, rfl, b, _, 2, 2, rfl, rfl, B'.hb, rfl, ?_⟩
            exact hu _ _ ⟨some (.int v), k + 1, v, r, rfl, B'.set B'.k0 hv0 rr0 rr1, Fx.refl.upd.upd⟩
          · refine ⟨_, rfl, b, _, 3, _, rfl, rfl, hS', at_of (j := 3) rfl rfl, r, 48271, rfl, rfl, .inr ⟨by decide, by decide⟩, _, rfl, v, 2147483629, rfl, rfl, (by show (0 : Int) < 2147483629; decide), _, 69621, rfl, rfl, .inr ⟨by decide, by decide⟩,
              _, _, rfl, rfl, _, 12345, rfl, rfl, _, 2147483647, rfl, rfl, (by show (0 : Int) < 2147483647; decide), ?_⟩
            refine ⟨_, rfl, b, _, 3, 3, rfl, rfl, B'.hb, rfl, ?_⟩
            exact hu _ _ ⟨some (.int v), k + 1, z, _, rfl, B'.set B'.k0 B'.z0 (Int.emod_nonneg _ (by decide)) (Int.emod_lt_of_pos _ (by decide)), Fx.refl.upd.upd⟩
        · exact hu _ _ ⟨none, k, z, r, rfl, hB, .refl⟩
      · exact iteF (hu _ _ ⟨none, k, z, r, rfl, hB, .refl⟩)
end
end Sf
namespace Sf
open PySem PySem.Spec PyProof.Rows L2 TL
section
variable {P : Program} {w : World} {K : PySem.W.Frag} {mg : Str → Option Value} {base : Heap}
abbrev HasPull (P : Program) (w : World) (K : PySem.W.Frag) (mg : Str → Option Value) (base : Heap) : Prop := Has P w K mg base 1 "_law_pull" ["_law_bag", "_law_many"] spPull
theorem has_pull (F : FnAt K mg "_law_pull" s__law_pull ["_law_bag", "_law_many"]) (B : Blt mg) : HasPull P w K mg base := F.has fun F => ok_pull F B.len
/-! ### _law_flip -/
def spFlip : Sp := fun vs H Q _ => ∃ c : Nat, vs = [.str (one c)] ∧ sgn c = true ∧ Q (.str (one (flipC c))) H
abbrev HasFlip (P : Program) (w : World) (K : PySem.W.Frag) (mg : Str → Option Value) (base : Heap) : Prop := Has P w K mg base 1 "_law_flip" ["_law_sign_here"] spFlip
theorem sc_flip : FnScope ["_law_sign_here"] ["_law_sign_here"] (defScope s__law_flip) := ⟨rfl, rfl, rfl, by decide +kernel, rfl, by decide +kernel, by decide +kernel⟩
theorem has_flip (F : FnAt K mg "_law_flip" s__law_flip ["_law_sign_here"]) : HasFlip P w K mg base := F.has fun F => by
  refine F.ok sc_flip (fun vs H Q E h => ?_) (fun cdv A outer s H vs Q E hr h => ?_)
  · obtain ⟨c, rfl, _⟩ := h
    rfl
  · obtain ⟨c, rfl, hc, q⟩ := h
    refine ⟨_, pss_one (ps_ret (pe_ifExp (pt_cmpR op_in_sign (pv 0) pe_str rfl) (pe_upper (pv 0)) (pe_lower (pv 0)))), ?_⟩
    refine ⟨_, rfl, c, _, rfl, rfl, _, rfl, ite2 (fun e => ?_) (fun e => ?_)⟩
    · have h := in_small.mp (of_decide_eq_true e)
      refine ⟨_, rfl, ⟨_, rfl⟩, _, rfl, rfl, by rw [len_one]; decide, ?_⟩
      rw [upper_one h]
      rw [flipC, if_pos h.1] at q
      exact q
    · have h : ¬ (97 ≤ c ∧ c ≤ 104) := fun z => e (decide_eq_true (in_small.mpr z))
      rw [sgn_iff] at hc
      refine ⟨_, rfl, ⟨_, rfl⟩, _, rfl, rfl, by rw [len_one]; decide, ?_⟩
      rw [lower_one (by omega)]
      rw [flipC, if_neg (by omega)] at q
      exact q
/-! ### _law_sign -/
def spSign : Sp := fun vs H Q _ => ∃ (b : Addr) (n : Int), vs = [.ref b, .int n] ∧ Bag H b ∧ 0 < n ∧ n ≤ 8 ∧
  ∀ (c : Nat) (H' : Hp), sgn c = true → Bag H' b → Fx b H H' → Q (.str (one c)) H'
abbrev HasSign (P : Program) (w : World) (K : PySem.W.Frag) (mg : Str → Option Value) (base : Heap) : Prop := Has P w K mg base 2 "_law_sign" ["_law_bag", "_law_many"] spSign
theorem sc_sign : FnScope ["_law_bag", "_law_many"] ["_law_bag", "_law_many"] (defScope s__law_sign) := ⟨rfl, rfl, rfl, by decide +kernel, rfl, by decide +kernel, by decide +kernel⟩
theorem has_sign (F : FnAt K mg "_law_sign" s__law_sign ["_law_bag", "_law_many"]) (hP : HasPull P w K mg base) : HasSign P w K mg base := F.has fun F => by
  obtain ⟨fP, fdP, gP, kP, bP, GP⟩ := hP
  refine F.ok sc_sign (fun vs H Q E h => ?_) (fun cdv A outer s H vs Q E hr h => ?_)
  · obtain ⟨b, n, rfl, _⟩ := h
    rfl
  · obtain ⟨b, n, rfl, hB, hn0, hn1, q⟩ := h
    refine ⟨_, pss_one (ps_ret (pe_ix ix_str (pe_ix ix_list (pe_lst (pa_cons pe_str (pa_cons pe_str pa_nil))) (pe_call GP hr (by rfl) gP kP bP .nil pass0 (pa_cons (pv 0) (pa_cons pe_int pa_nil))) (fun _ _ => rfl))
      (pe_call GP hr (by rfl) gP kP bP .nil pass0 (pa_cons (pv 0) (pa_cons (pv 1) pa_nil))) (fun _ _ => rfl))), ?_⟩
    refine ⟨by decide, fun p np => ?_⟩
    refine ⟨_, rfl, b, 2, rfl, hB.new np, by decide, by decide, fun d H1 d0 d1 B1 f1 => ?_⟩
    have hp : H1 p = some (.lst [.str "abcdefgh", .str "ABCDEFGH"]) := f1 _ _ upd_same (hB.ne np)
    have hd : d = 0 ∨ d = 1 := by omega
    rcases hd with rfl | rfl
    · refine ⟨p, _, 0, _, rfl, rfl, SqL.of hp, at_of (j := 0) rfl rfl, ?_⟩
      refine ⟨_, rfl, _, rfl, b, n, rfl, B1, hn0, by omega, fun e H2 e0 e1 B2 f2 => ?_⟩
      refine ⟨_, e, _, rfl, rfl, (by decide +kernel), at_small e0 (by omega), ?_⟩
      exact q _ _ (sgn_iff.mpr (by omega)) B2 ((Fx.new .refl np).trans (f1.trans f2))
    · refine ⟨p, _, 1, _, rfl, rfl, SqL.of hp, at_of (j := 1) rfl rfl, ?_⟩
      refine ⟨_, rfl, _, rfl, b, n, rfl, B1, hn0, by omega, fun e H2 e0 e1 B2 f2 => ?_⟩
      refine ⟨_, e, _, rfl, rfl, (by decide +kernel), at_great e0 (by omega), ?_⟩
      exact q _ _ (sgn_iff.mpr (by omega)) B2 ((Fx.new .refl np).trans (f1.trans f2))
/-! ### _law_word -/
def spWord : Sp := fun vs H Q _ => ∃ (b : Addr) (u n : Int), vs = [.ref b, .int u, .int n] ∧ Bag H b ∧ 0 ≤ u ∧ u ≤ 1000 ∧ 0 < n ∧ n ≤ 8 ∧
  ∀ (x : Str) (H' : Hp), Wd x → x.length ≤ u.toNat → Bag H' b → Fx b H H' → Q (.str x) H'
abbrev HasWord (P : Program) (w : World) (K : PySem.W.Frag) (mg : Str → Option Value) (base : Heap) : Prop := Has P w K mg base 3 "_law_word" ["_law_bag", "_law_upto", "_law_many"] spWord
theorem sc_word : FnScope ["_law_bag", "_law_upto", "_law_many", "_law_found", "_law_turn", "_law_sign_here"] ["_law_bag", "_law_upto", "_law_many"] (defScope s__law_word) := ⟨rfl, rfl, rfl, by decide +kernel, rfl, by decide +kernel, by decide +kernel⟩
theorem has_word (F : FnAt K mg "_law_word" s__law_word ["_law_bag", "_law_upto", "_law_many"]) (B : Blt mg) (hP : HasPull P w K mg base) (hS : HasSign P w K mg base) (hF : HasFlip P w K mg base) : HasWord P w K mg base := F.has fun F => by
  obtain ⟨fP, fdP, gP, kP, bP, GP⟩ := hP
  obtain ⟨fS, fdS, gS, kS, bS, GS⟩ := hS
  obtain ⟨fF, fdF, gF, kF, bF, GF⟩ := hF
  refine F.ok sc_word (fun vs H Q E h => ?_) (fun cdv A outer s H vs Q E hr h => ?_)
  · obtain ⟨b, u, n, rfl, _⟩ := h
    rfl
  · obtain ⟨b, u, n, rfl, hB, hu0, hu1, hn0, hn1, q⟩ := h
    have hr1 : Room 1 _ := hr.mono (by decide)
    refine ⟨_, pss_cons (ps_set (i := 3) sc_word.nd rfl (.inl rfl) pe_str)
      (pss_cons (ps_for PassesOwn.never rfl (pi_range1 rfl B.range (pa_cons (pe_call GP hr1 (by rfl) gP kP bP .nil pass0 (pa_cons (pv 0) (pa_cons (pe_op op_add (pv 1) pe_int) pa_nil))) pa_nil)) (pg_name (i := 4) sc_word.nd rfl (.inl rfl))
        (pss_cons (ps_set (i := 5) sc_word.nd rfl (.inl rfl) (pe_call GS hr (by rfl) gS kS bS .nil pass0 (pa_cons (pv 0) (pa_cons (pv 2) pa_nil))))
        (pss_cons (ps_if (PW.pt (pw_and (pt_cmpR op_ne (pv 3) pe_str (nomark _)) (pw_and1 (pt_cmpR op_eq (pe_call GP hr1 (by rfl) gP kP bP .nil pass0 (pa_cons (pv 0) (pa_cons pe_int pa_nil))) pe_int (nomark _)))))
          (pss_one (ps_set (i := 5) sc_word.nd rfl (.inl rfl) (pe_call GF hr1 (by rfl) gF kF bF .nil pass0 (pa_cons (pe_ix ix_str (pv 3) (pe_un un_neg pe_int) (fun _ _ => rfl)) pa_nil)))) pss_nil)
        (pss_one (ps_set (i := 3) sc_word.nd rfl (.inl rfl) (pe_op op_add_str (pv 3) (pv 5)))))))
      (pss_one (ps_ret (pv 3)))), ?_⟩
    refine ⟨_, rfl, _, rfl, u, 1, rfl, rfl, b, u + 1, rfl, hB, by omega, by omega, fun d H1 d0 d1 B1 f1 => ?_⟩
    refine ⟨d, rfl, by omega, by omega, for_range (lo := 0) (n := d.toNat) (fun i σ H2 => ∃ (x : Str) (y4 y5 : Option V), σ = [some (.ref b), some (.int u), some (.int n), some (.str x), y4, y5] ∧ Wd x ∧ x.length ≤ i ∧ Bag H2 b ∧ Fx b H H2)
      ⟨"", none, none, rfl, wd_nil, (by decide +kernel), B1, f1⟩ ?_ ?_⟩
    · rintro i σ H2 hi ⟨x, y4, y5, rfl, hx, hlen, B2, f2⟩
      have hsz : x.length + 1 ≤ sizeLine := Nat.le_trans (Nat.add_le_add_right (Nat.le_trans hlen (by omega : i ≤ 1000)) 1) (by decide)
      refine ⟨_, rfl, _, rfl, b, n, rfl, B2, hn0, hn1, fun c H3 hc B3 f3 => ?_⟩
      have fin : ∀ (c : Nat) (H4 : Hp), sgn c = true → Bag H4 b → Fx b H H4 → ∃ (x' : Str) (y4 y5 : Option V), [some (V.ref b), some (.int u), some (.int n), some (.str (x ++ one c)), some (.int (0 + i)), some (.str (one c))] = [some (.ref b), some (.int u), some (.int n), some (.str x'), y4, y5] ∧ Wd x' ∧ x'.length ≤ i + 1 ∧ Bag H4 b ∧ Fx b H H4 :=
        fun c H4 hc B4 f4 => ⟨_, _, _, rfl, hx.app (wd_one hc), by rw [len_app, len_one]; omega, B4, f4⟩
      refine ⟨_, rfl, rfl, _, rfl, ite2 (fun e => ?_) (fun e => ?_)⟩
      · refine ⟨_, rfl, b, 4, rfl, B3, by decide, by decide, fun d2 H4 _ _ B4 f4 => ?_⟩
        refine ⟨rfl, _, rfl, ite2 (fun e2 => ?_) (fun e2 => ?_)⟩
        · have hne : tl x ≠ [] := str_ne fun z => by
            rw [z] at e
            simp at e
          obtain ⟨c2, hc2, hm⟩ := at_end hne
          refine ⟨_, rfl, 1, rfl, x, _, c2, rfl, rfl, by omega, hc2, c2, rfl, hx c2 hm, ?_⟩
          exact ⟨_, rfl, _, rfl, x, _, rfl, rfl, hsz, fin _ _ (flip_sgn (hx c2 hm)) B4 (f2.trans (f3.trans f4))⟩
        · exact ⟨_, rfl, _, rfl, x, _, rfl, rfl, hsz, fin _ _ hc B4 (f2.trans (f3.trans f4))⟩
      · exact iteF ⟨_, rfl, _, rfl, x, _, rfl, rfl, hsz, fin _ _ hc B3 (f2.trans f3)⟩
    · rintro σ H2 ⟨x, y4, y5, rfl, hx, hlen, B2, f2⟩
      exact ⟨_, rfl, q x H2 hx (by omega) B2 f2⟩
/-! ### _law_any_word -/
def spAny : Sp := fun vs H Q _ => ∃ (b : Addr) (u : Int), vs = [.ref b, .int u] ∧ Bag H b ∧ 0 ≤ u ∧ u ≤ 1000 ∧
  ∀ (x : Str) (H' : Hp), Wd x → x.length ≤ u.toNat → Bag H' b → Fx b H H' → Q (.str x) H'
abbrev HasAny (P : Program) (w : World) (K : PySem.W.Frag) (mg : Str → Option Value) (base : Heap) : Prop := Has P w K mg base 4 "_law_any_word" ["_law_bag", "_law_upto"] spAny
theorem sc_any : FnScope ["_law_bag", "_law_upto"] ["_law_bag", "_law_upto"] (defScope s__law_any_word) := ⟨rfl, rfl, rfl, by decide +kernel, rfl, by decide +kernel, by decide +kernel⟩
theorem has_any (F : FnAt K mg "_law_any_word" s__law_any_word ["_law_bag", "_law_upto"]) (hP : HasPull P w K mg base) (hW : HasWord P w K mg base) : HasAny P w K mg base := F.has fun F => by
  obtain ⟨fP, fdP, gP, kP, bP, GP⟩ := hP
  obtain ⟨fW, fdW, gW, kW, bW, GW⟩ := hW
  refine F.ok sc_any (fun vs H Q E h => ?_) (fun cdv A outer s H vs Q E hr h => ?_)
  · obtain ⟨b, u, rfl, _⟩ := h
    rfl
  · obtain ⟨b, u, rfl, hB, hu0, hu1, q⟩ := h
    refine ⟨_, pss_one (ps_ret (pe_call GW hr (by rfl) gW kW bW .nil pass0 (pa_cons (pv 0) (pa_cons (pv 1) (pa_cons (pe_ix ix_list (pe_lst (pa_cons pe_int (pa_cons pe_int (pa_cons pe_int (pa_cons pe_int pa_nil)))))
      (pe_call GP (hr.mono (by decide)) (by rfl) gP kP bP .nil pass0 (pa_cons (pv 0) (pa_cons pe_int pa_nil))) (fun _ _ => rfl)) pa_nil))))), ?_⟩
    refine ⟨_, rfl, _, rfl, by decide, fun p np => ?_⟩
    refine ⟨_, rfl, b, 4, rfl, hB.new np, by decide, by decide, fun d H1 d0 d1 B1 f1 => ?_⟩
    have hp : H1 p = some (.lst [.int 2, .int 1, .int 3, .int 8]) := f1 _ _ upd_same (hB.ne np)
    have hv : ∃ v : Int, atI [V.int 2, .int 1, .int 3, .int 8] d = some (.int v) ∧ 0 < v ∧ v ≤ 8 := by
      have hd : d = 0 ∨ d = 1 ∨ d = 2 ∨ d = 3 := by omega
      rcases hd with rfl | rfl | rfl | rfl
      · exact ⟨2, rfl, by decide, by decide⟩
      · exact ⟨1, rfl, by decide, by decide⟩
      · exact ⟨3, rfl, by decide, by decide⟩
      · exact ⟨8, rfl, by decide, by decide⟩
    obtain ⟨v, hv, v0, v1⟩ := hv
    refine ⟨p, _, d, _, rfl, rfl, SqL.of hp, hv, b, u, v, rfl, B1, hu0, hu1, v0, v1, fun x H2 hx hl B2 f2 => ?_⟩
    exact q x H2 hx hl B2 ((Fx.new .refl np).trans (f1.trans f2))
/-! ### _law_begin -/
def spBegin (K : PySem.W.Frag) : Sp := fun vs H Q _ => ∃ (a : Addr) (ns : List Int), vs = [.ref a] ∧ SqL K H a (ns.map V.int) ∧ ∀ (b : Addr) (H' : Hp), H b = none → Bag H' b → Same H H' → Q (.ref b) H'
abbrev HasBegin (P : Program) (w : World) (K : PySem.W.Frag) (mg : Str → Option Value) (base : Heap) : Prop := Has P w K mg base 1 "_law_begin" ["_law_script"] (spBegin K)
theorem sc_begin : FnScope ["_law_script", "_law_salt", "_law_cell"] ["_law_script"] (defScope s__law_begin) := ⟨rfl, rfl, rfl, by decide +kernel, rfl, by decide +kernel, by decide +kernel⟩
theorem cut_ints (ns : List Int) (lo hi : Option Int) : ∃ ms : List Int, cutV (ns.map V.int) lo hi = ms.map V.int := by
  refine ⟨(ns.drop (HT.sIx (ns.map V.int).length 0 lo)).take (HT.sIx (ns.map V.int).length (ns.map V.int).length hi - HT.sIx (ns.map V.int).length 0 lo), ?_⟩
  unfold cutV
  rw [List.map_take, List.map_drop]
theorem has_begin (F : FnAt K mg "_law_begin" s__law_begin ["_law_script"]) (B : Blt mg) : HasBegin P w K mg base := F.has fun F => by
  refine F.ok sc_begin (fun vs H Q E h => ?_) (fun cdv A outer s H vs Q E hr h => ?_)
  · obtain ⟨a, ns, rfl, _⟩ := h
    rfl
  · obtain ⟨a, ns, rfl, hS, q⟩ := h
    refine ⟨_, pss_cons (ps_set (i := 1) sc_begin.nd rfl (.inl rfl) pe_int)
      (pss_cons (ps_for PassesOwn.never rfl (pi_list (pe_slice sl_list (pv 0) po_none (po_some pe_int))) (pg_name (i := 2) sc_begin.nd rfl (.inl rfl))
        (pss_one (ps_set (i := 1) sc_begin.nd rfl (.inl rfl) (pe_op op_mod (pe_op op_add (pe_op op_add (pe_op op_mul (pv 1) pe_int) (pe_op op_mod (pv 2) pe_int)) pe_int) pe_int))))
      (pss_one (ps_ret (pe_lst (pa_cons (pe_callTy call_list_of (by rfl) B.list (by decide +kernel) (pa_cons (pe_slice sl_list (pv 0) po_none (po_some pe_int)) pa_nil)) (pa_cons pe_int (pa_cons pe_int (pa_cons (pv 1) pa_nil)))))))), ?_⟩
    obtain ⟨ms, em⟩ := cut_ints ns none (some 63)
    refine ⟨_, rfl, 63, rfl, a, _, rfl, hS, fun p np => ?_⟩
    have s1 : Same H (upd H p (.lst (cutV (ns.map V.int) none (some 63)))) := same_upd np
    have hp : SqL K (upd H p (.lst (cutV (ns.map V.int) none (some 63)))) p (ms.map V.int) := SqL.of (by rw [upd_same, em])
    refine ⟨p, rfl, ⟨_, hp⟩, for_list (K := K) (a := p) (xs := ms.map V.int) (fun i σ H2 => ∃ (r : Int) (y : Option V), σ = [some (.ref a), some (.int r), y] ∧ 0 ≤ r ∧ r < 2147483647 ∧ H2 = upd H p (.lst (cutV (ns.map V.int) none (some 63))))
      ⟨977, none, rfl, by decide, by decide, rfl⟩ (fun i σ H2 _ ⟨_, _, _, _, _, e⟩ => by rw [e]; exact hp) ?_ ?_⟩
    · rintro i v σ H2 hi ⟨r, y, rfl, r0, r1, rfl⟩
      obtain ⟨z, rfl⟩ : ∃ z, v = V.int z := by
        rw [List.getElem?_map] at hi
        cases e : ms[i]? with
        | none =>
          rw [e] at hi
          cases hi
        | some z =>
          rw [e] at hi
          exact ⟨z, (Option.some.inj hi).symm⟩
      refine ⟨_, rfl, r, 1009, rfl, rfl, .inr ⟨by decide, by decide⟩, _, rfl, z, 2147483629, rfl, rfl, (by show (0 : Int) < 2147483629; decide), _, _, rfl, rfl, _, 7, rfl, rfl, _, 2147483629, rfl, rfl, (by show (0 : Int) < 2147483629; decide), ?_⟩
      have h0 : 0 ≤ (r * 1009 + z % 2147483629 + 7) % 2147483629 := Int.emod_nonneg _ (by decide)
      have h1 : (r * 1009 + z % 2147483629 + 7) % 2147483629 < 2147483629 := Int.emod_lt_of_pos _ (by decide)
      exact ⟨_, _, rfl, h0, by omega, rfl⟩
    · rintro σ H2 ⟨r, y, rfl, r0, r1, rfl⟩
      refine ⟨_, rfl, 63, rfl, a, _, rfl, s1.seq hS, fun p2 np2 => ?_⟩
      have hp2 : SqL K (upd (upd H p (.lst (cutV (ns.map V.int) none (some 63)))) p2 (.lst (cutV (ns.map V.int) none (some 63)))) p2 (ms.map V.int) := SqL.of (by rw [upd_same, em])
      have s2 := s1.trans (same_upd (o := .lst (cutV (ns.map V.int) none (some 63))) np2)
      refine ⟨p2, _, rfl, .inl hp2, fun l nl => ?_⟩
      have s3 := s2.trans (same_upd (o := .lst (ms.map V.int)) nl)
      refine ⟨_, rfl, (by show 4 ≤ sizeLine; decide), fun b nb => ?_⟩
      have s4 := s3.trans (same_upd (o := .lst [.ref l, .int 0, .int 0, .int r]) nb)
      refine q b _ (s3.free nb) ⟨l, ms, 0, 0, r, upd_same, ?_, by decide, by decide, r0, r1⟩ s4
      have nlb : l ≠ b := fun z => by
        rw [← z, upd_same] at nb
        cases nb
      rw [upd_ne nlb, upd_same]
end
end Sf
namespace Sf
open PySem PySem.Spec PyProof.Rows L2 TL
section
variable {P : Program} {w : World} {K : PySem.W.Frag} {mg : Str → Option Value} {base : Heap}
/-! ### _law_same: True of two values of the same data -/
def spSame (n : Nat) : Sp := fun vs H Q _ => ∃ x y : V, vs = [x, y] ∧ Eqv H n x y ∧ ∀ H', Same H H' → Q (.bl true) H'
abbrev HasSame (P : Program) (w : World) (K : PySem.W.Frag) (mg : Str → Option Value) (base : Heap) (n : Nat) : Prop := Has P w K mg base (n + 1) "_law_same" ["_law_found", "_law_due"] (spSame n)
theorem sc_same : FnScope ["_law_found", "_law_due", "_law_one", "_law_other"] ["_law_found", "_law_due"] (defScope s__law_same) := ⟨rfl, rfl, rfl, by decide +kernel, rfl, by decide +kernel, by decide +kernel⟩
theorem all_true (n : Nat) : (List.replicate n true).all id = true := by
  induction n with
  | zero => rfl
  | succ n ih => rw [List.replicate_succ, List.all_cons, ih]; rfl
theorem has_same (F : FnAt K mg "_law_same" s__law_same ["_law_found", "_law_due"]) (B : Blt mg) : ∀ n, HasSame P w K mg base n := by
  intro n
  induction n with
  | zero =>
    refine F.has fun F => ?_
    refine F.ok sc_same (fun vs H Q E h => ?_) (fun cdv A outer s H vs Q E hr h => ?_)
    · obtain ⟨x, y, rfl, _⟩ := h
      rfl
    · obtain ⟨x, y, rfl, ⟨fx, rfl⟩, q⟩ := h
      obtain ⟨T, b1, b2, b3, ty, k1, k2, k3, k4, k5⟩ := flat_kit (K := K) (H := H) fx
      refine ⟨_, pss_cons (ps_if (pt_val (pe_callB call_isiT (by rfl) B.isinstance (by decide +kernel) (pa_cons (pv 1) (pa_cons (pe_tup (pa_cons (pe_bltn (v := .ty "list") (by rfl) B.list (by decide +kernel) rfl) (pa_cons (pe_bltn (v := .ty "tuple") (by rfl) B.tuple (by decide +kernel) rfl) pa_nil))) pa_nil)))) pss_never pss_nil)
        (pss_cons (ps_if (PW.pt (pw_or (pt_cmpR op_isN (pv 1) pe_non (nomark _)) (pw_or1 (pt_cmpR op_isN (pv 0) pe_non (nomark _))))) (pss_one (ps_ret (pe_and (pe_cmpR op_isN (pv 0) pe_non (nomark _)) (pe_one (pe_cmpR op_isN (pv 1) pe_non (nomark _)))))) pss_nil)
        (pss_cons (ps_if (PW.pt (pw_or (pt_cmpR op_ne (pe_callB call_isi (by rfl) B.isinstance (by decide +kernel) (pa_cons (pv 0) (pa_cons (pe_bltn (v := .ty "bool") (by rfl) B.bool (by decide +kernel) rfl) pa_nil))) (pe_callB call_isi (by rfl) B.isinstance (by decide +kernel) (pa_cons (pv 1) (pa_cons (pe_bltn (v := .ty "bool") (by rfl) B.bool (by decide +kernel) rfl) pa_nil))) (nomark _))
            (pw_or1 (pt_cmpR op_ne (pe_callB call_isi (by rfl) B.isinstance (by decide +kernel) (pa_cons (pv 0) (pa_cons (pe_bltn (v := .ty "int") (by rfl) B.int (by decide +kernel) rfl) pa_nil))) (pe_callB call_isi (by rfl) B.isinstance (by decide +kernel) (pa_cons (pv 1) (pa_cons (pe_bltn (v := .ty "int") (by rfl) B.int (by decide +kernel) rfl) pa_nil))) (nomark _))))) pss_never pss_nil)
        (pss_one (ps_ret (pe_and (pe_cmpR op_eq (pe_callB call_isi (by rfl) B.isinstance (by decide +kernel) (pa_cons (pv 0) (pa_cons (pe_bltn (v := .ty "str") (by rfl) B.str (by decide +kernel) rfl) pa_nil))) (pe_callB call_isi (by rfl) B.isinstance (by decide +kernel) (pa_cons (pv 1) (pa_cons (pe_bltn (v := .ty "str") (by rfl) B.str (by decide +kernel) rfl) pa_nil))) (nomark _)) (pe_one (pe_cmpR op_eq (pv 0) (pv 1) (nomark _)))))))), ?_⟩
      refine ⟨x, rfl, (by show 2 ≤ sizeLine; decide), fun p np => ?_⟩
      have s1 := same_upd (o := .tup [.ty "list", .ty "tuple"]) np
      have ty1 := TyX.same s1 fx ty
      refine ⟨x, p, _, _, [.type "list", .type "tuple"], false, rfl, upd_same, .cons (.ty _) (.cons (.ty _) .nil), ty1, kit2 k1 k2, _, rfl, iteF ?_⟩
      refine ⟨x, rfl, rfl, _, rfl, ite2 (fun e => ?_) (fun e => ?_)⟩
      · have ex : x = .non := of_decide_eq_true e
        subst ex
        refine iteT ⟨_, rfl, rfl, _, rfl, ite2 (fun _ => ⟨_, rfl, rfl, ?_⟩) (fun z => absurd (decide_eq_true rfl) z)⟩
        exact q _ s1
      · refine ⟨x, rfl, rfl, _, rfl, ite2 (fun e2 => absurd e2 e) (fun _ => ?_)⟩
        refine ⟨x, rfl, x, _, _, _, b1, rfl, .ty "bool", ty1, kit_ty k3, x, rfl, x, _, _, _, b1, rfl, .ty "bool", ty1, kit_ty k3, rfl, _, rfl, ite2 (fun z => ?_) (fun _ => ?_)⟩
        · rw [ne_bl] at z
          cases z
        · refine ⟨x, rfl, x, _, _, _, b2, rfl, .ty "int", ty1, kit_ty k4, x, rfl, x, _, _, _, b2, rfl, .ty "int", ty1, kit_ty k4, rfl, _, rfl, ite2 (fun z => ?_) (fun _ => ?_)⟩
          · rw [ne_bl] at z
            cases z
          · refine ⟨x, rfl, x, _, _, _, b3, rfl, .ty "str", ty1, kit_ty k5, x, rfl, x, _, _, _, b3, rfl, .ty "str", ty1, kit_ty k5, rfl, _, rfl, ite2 (fun z => ?_) (fun z => absurd (decide_eq_true rfl) z)⟩
            refine ⟨x, rfl, x, rfl, scal_flat fx, ?_⟩
            rw [decide_eq_true rfl]
            exact q _ s1
  | succ n ih =>
    obtain ⟨fR, fdR, gR, kR, bR, GR⟩ := ih
    refine F.has fun F => ?_
    refine F.ok sc_same (fun vs H Q E h => ?_) (fun cdv A outer s H vs Q E hr h => ?_)
    · obtain ⟨x, y, rfl, _⟩ := h
      rfl
    · obtain ⟨x, y, rfl, hE, q⟩ := h
      refine seq_by (fun σ H1 => σ = [some x, some x, none, none] ∧ flat4 x = true ∧ Same H H1) ?_ ?_
      · refine ⟨_, (pss_cons (ps_if (PW.pt (pw_or (pt_cmpR op_isN (pv 1) pe_non (nomark _)) (pw_or1 (pt_cmpR op_isN (pv 0) pe_non (nomark _))))) (pss_one (ps_ret (pe_and (pe_cmpR op_isN (pv 0) pe_non (nomark _)) (pe_one (pe_cmpR op_isN (pv 1) pe_non (nomark _)))))) pss_nil)
        (pss_cons (ps_if (PW.pt (pw_or (pt_cmpR op_ne (pe_callB call_isi (by rfl) B.isinstance (by decide +kernel) (pa_cons (pv 0) (pa_cons (pe_bltn (v := .ty "bool") (by rfl) B.bool (by decide +kernel) rfl) pa_nil))) (pe_callB call_isi (by rfl) B.isinstance (by decide +kernel) (pa_cons (pv 1) (pa_cons (pe_bltn (v := .ty "bool") (by rfl) B.bool (by decide +kernel) rfl) pa_nil))) (nomark _))
            (pw_or1 (pt_cmpR op_ne (pe_callB call_isi (by rfl) B.isinstance (by decide +kernel) (pa_cons (pv 0) (pa_cons (pe_bltn (v := .ty "int") (by rfl) B.int (by decide +kernel) rfl) pa_nil))) (pe_callB call_isi (by rfl) B.isinstance (by decide +kernel) (pa_cons (pv 1) (pa_cons (pe_bltn (v := .ty "int") (by rfl) B.int (by decide +kernel) rfl) pa_nil))) (nomark _))))) pss_never pss_nil)
        (pss_one (ps_ret (pe_and (pe_cmpR op_eq (pe_callB call_isi (by rfl) B.isinstance (by decide +kernel) (pa_cons (pv 0) (pa_cons (pe_bltn (v := .ty "str") (by rfl) B.str (by decide +kernel) rfl) pa_nil))) (pe_callB call_isi (by rfl) B.isinstance (by decide +kernel) (pa_cons (pv 1) (pa_cons (pe_bltn (v := .ty "str") (by rfl) B.str (by decide +kernel) rfl) pa_nil))) (nomark _)) (pe_one (pe_cmpR op_eq (pv 0) (pv 1) (nomark _)))))))), ?_⟩
        rintro σ H1 ⟨rfl, fx, s1⟩
        obtain ⟨T, b1, b2, b3, ty1, k1, k2, k3, k4, k5⟩ := flat_kit (K := K) (H := H1) fx
        refine ⟨x, rfl, rfl, _, rfl, ite2 (fun e => ?_) (fun e => ?_)⟩
        · have ex : x = .non := of_decide_eq_true e
          subst ex
          refine iteT ⟨_, rfl, rfl, _, rfl, ite2 (fun _ => ⟨_, rfl, rfl, ?_⟩) (fun z => absurd (decide_eq_true rfl) z)⟩
          exact q _ s1
        · refine ⟨x, rfl, rfl, _, rfl, ite2 (fun e2 => absurd e2 e) (fun _ => ?_)⟩
          refine ⟨x, rfl, x, _, _, _, b1, rfl, .ty "bool", ty1, kit_ty k3, x, rfl, x, _, _, _, b1, rfl, .ty "bool", ty1, kit_ty k3, rfl, _, rfl, ite2 (fun z => ?_) (fun _ => ?_)⟩
          · rw [ne_bl] at z
            cases z
          · refine ⟨x, rfl, x, _, _, _, b2, rfl, .ty "int", ty1, kit_ty k4, x, rfl, x, _, _, _, b2, rfl, .ty "int", ty1, kit_ty k4, rfl, _, rfl, ite2 (fun z => ?_) (fun _ => ?_)⟩
            · rw [ne_bl] at z
              cases z
            · refine ⟨x, rfl, x, _, _, _, b3, rfl, .ty "str", ty1, kit_ty k5, x, rfl, x, _, _, _, b3, rfl, .ty "str", ty1, kit_ty k5, rfl, _, rfl, ite2 (fun z => ?_) (fun z => absurd (decide_eq_true rfl) z)⟩
              refine ⟨x, rfl, x, rfl, scal_flat fx, ?_⟩
              rw [decide_eq_true rfl]
              exact q _ s1
      · intro u hu
        refine ⟨_, ps_if (pt_val (pe_callB call_isiT (by rfl) B.isinstance (by decide +kernel) (pa_cons (pv 1) (pa_cons (pe_tup (pa_cons (pe_bltn (v := .ty "list") (by rfl) B.list (by decide +kernel) rfl) (pa_cons (pe_bltn (v := .ty "tuple") (by rfl) B.tuple (by decide +kernel) rfl) pa_nil))) pa_nil))))
          (pss_cons (ps_if (PW.pt (pw_or (pt_cmpR op_ne (pe_callB call_isi (by rfl) B.isinstance (by decide +kernel) (pa_cons (pv 0) (pa_cons (pe_bltn (v := .ty "list") (by rfl) B.list (by decide +kernel) rfl) pa_nil))) (pe_callB call_isi (by rfl) B.isinstance (by decide +kernel) (pa_cons (pv 1) (pa_cons (pe_bltn (v := .ty "list") (by rfl) B.list (by decide +kernel) rfl) pa_nil))) (nomark _)) (pw_or1 (pt_cmpR op_ne (pe_callB call_isi (by rfl) B.isinstance (by decide +kernel) (pa_cons (pv 0) (pa_cons (pe_bltn (v := .ty "tuple") (by rfl) B.tuple (by decide +kernel) rfl) pa_nil))) (pe_callB call_isi (by rfl) B.isinstance (by decide +kernel) (pa_cons (pv 1) (pa_cons (pe_bltn (v := .ty "tuple") (by rfl) B.tuple (by decide +kernel) rfl) pa_nil))) (nomark _))))) pss_never pss_nil)
          (pss_one (ps_ret (pe_and (pe_cmpR op_eq (pe_callB call_len_seq (by rfl) B.len PySem.boot_len (pa_cons (pv 0) pa_nil)) (pe_callB call_len_seq (by rfl) B.len PySem.boot_len (pa_cons (pv 1) pa_nil)) (nomark _))
            (pe_one (pe_callB (cr_all rfl) (by rfl) B.all (by decide +kernel) (pa_cons (pe_lc (own := [("_law_one", 2), ("_law_other", 3)]) (g := gTup K 2 (gCons (gName 2) (gCons (gName 3) gNil))) (tt := tYes) (by rfl) sc_same.nd (RZ.pi_zipA (by rfl) B.zip (pa_cons (pv 0) (pa_cons (pv 1) pa_nil)))
              (blkOk_by (own := [("_law_one", 2), ("_law_other", 3)]) (N := ["_law_found", "_law_due", "_law_one", "_law_other"]) (sc := defScope s__law_same) (by decide +kernel))
              (fun _ _ _ _ _ => pg_tup rfl (pgs_cons (pg_name (i := 2) sc_same.nd rfl (.inl rfl)) (pgs_cons (pg_name (i := 3) sc_same.nd rfl (.inl rfl)) pgs_nil))) (fun _ _ _ _ _ => pts_nil)
              (fun _ _ _ _ _ => pe_call GR hr (by rfl) gR kR bR .nil pass0 (pa_cons (pv 2) (pa_cons (pv 3) pa_nil)))) pa_nil))))))) pss_nil, ?_⟩
        refine ⟨y, rfl, (by show 2 ≤ sizeLine; decide), fun p np => ?_⟩
        have s1 := same_upd (o := .tup [.ty "list", .ty "tuple"]) np
        rcases hE with ⟨fx, rfl⟩ | ⟨pa, pb, xs, ys, rfl, rfl, hxy, hlen, hsz, hEach⟩
        · obtain ⟨T, b1, b2, b3, ty, k1, k2, k3, k4, k5⟩ := flat_kit (K := K) (H := upd H p (.tup [.ty "list", .ty "tuple"])) fx
          exact ⟨x, p, _, _, [.type "list", .type "tuple"], false, rfl, upd_same, .cons (.ty _) (.cons (.ty _) .nil), ty, kit2 k1 k2, _, rfl, iteF (hu _ _ ⟨rfl, fx, s1⟩)⟩
        · obtain ⟨T, bl, bt, tyx, tyy, kany, kl, kt⟩ : ∃ (T : String) (bl bt : Bool), TyX K (upd H p (.tup [.ty "list", .ty "tuple"])) (.ref pa) (.type T) ∧ TyX K (upd H p (.tup [.ty "list", .ty "tuple"])) (.ref pb) (.type T) ∧
              PySem.W.kitAny K (.type T) [.type "list", .type "tuple"] = some true ∧ kitB T "list" = some bl ∧ kitB T "tuple" = some bt := by
            rcases hxy with ⟨ha, hb⟩ | ⟨ha, hb⟩
            · exact ⟨"list", true, false, .base (.lst (s1 _ _ ha)), .base (.lst (s1 _ _ hb)), kitAny_cons (kit_ty (b := "list") (r := true) (by decide +kernel)) (fun q => nomatch q) (fun _ => rfl), by decide +kernel, by decide +kernel⟩
            · exact ⟨"tuple", false, true, .base (.tup (s1 _ _ ha)), .base (.tup (s1 _ _ hb)), kitAny_cons (kit_ty (b := "list") (r := false) (by decide +kernel)) (fun _ => kitAny_cons (kit_ty (b := "tuple") (r := true) (by decide +kernel)) (fun q => nomatch q) (fun _ => rfl)) (fun q => nomatch q), by decide +kernel, by decide +kernel⟩
          refine ⟨_, p, _, _, [.type "list", .type "tuple"], true, rfl, upd_same, .cons (.ty _) (.cons (.ty _) .nil), tyy, kany, _, rfl, iteT ?_⟩
          refine ⟨_, rfl, _, _, _, _, bl, rfl, .ty "list", tyx, kit_ty kl, _, rfl, _, _, _, _, bl, rfl, .ty "list", tyy, kit_ty kl, rfl, _, rfl, ite2 (fun z => ?_) (fun _ => ?_)⟩
          · rw [ne_bl] at z
            cases z
          refine ⟨_, rfl, _, _, _, _, bt, rfl, .ty "tuple", tyx, kit_ty kt, _, rfl, _, _, _, _, bt, rfl, .ty "tuple", tyy, kit_ty kt, rfl, _, rfl, ite2 (fun z => ?_) (fun _ => ?_)⟩
          · rw [ne_bl] at z
            cases z
          have sqx : SqL K (upd H p (.tup [.ty "list", .ty "tuple"])) pa xs ∨ SqT K (upd H p (.tup [.ty "list", .ty "tuple"])) pa xs := hxy.elim (fun h => .inl (SqL.of (s1 _ _ h.1))) (fun h => .inr (SqT.of (s1 _ _ h.1)))
          have sqy : SqL K (upd H p (.tup [.ty "list", .ty "tuple"])) pb ys ∨ SqT K (upd H p (.tup [.ty "list", .ty "tuple"])) pb ys := hxy.elim (fun h => .inl (SqL.of (s1 _ _ h.2))) (fun h => .inr (SqT.of (s1 _ _ h.2)))
          refine ⟨_, rfl, pa, xs, rfl, sqx, _, rfl, pb, ys, rfl, sqy, rfl, _, rfl, ite2 (fun _ => ?_) (fun z => absurd (decide_eq_true (by rw [hlen])) z)⟩
          refine ⟨_, rfl, _, rfl, pa, pb, xs, ys, rfl, ?_⟩
          have turn : ∀ (i : Nat) (x y : V) (D T : Addr) (H2 : Hp), (upd H p (.tup [.ty "list", .ty "tuple"])) D = none → xs[i]? = some x → ys[i]? = some y → Same (upd H p (.tup [.ty "list", .ty "tuple"])) H2 → H2 D = some (.lst (List.replicate i (V.bl true))) → H2 T = none →
              ∃ x' y' : V, [x, y] ++ [] = [x', y'] ∧ Eqv (upd H2 T (.tup [x, y])) n x' y' ∧ ∀ H', Same (upd H2 T (.tup [x, y])) H' → ∃ acc, H' D = some (.lst acc) ∧ acc.length < sizeLine ∧ (Same (upd H p (.tup [.ty "list", .ty "tuple"])) (upd H' D (.lst (acc ++ [.bl true]))) ∧ (upd H' D (.lst (acc ++ [.bl true]))) D = some (.lst (List.replicate (i + 1) (V.bl true)))) := by
            intro i x y D T H2 nD hx hy s2 hD nT
            have s3 : Same H2 (upd H2 T (.tup [x, y])) := same_upd nT
            have hi : i < xs.length := (List.getElem?_eq_some_iff.mp hx).1
            refine ⟨x, y, rfl, (hEach i x y hx hy).same (s1.trans (s2.trans s3)), fun H' s4 => ⟨_, s4 _ _ (s3 _ _ hD), ?_, fun a o e => ?_, ?_⟩⟩
            · rw [List.length_replicate]
              exact lineLt_of (by omega)
            · rw [upd_ne (ne_of_none e nD)]
              exact s4 _ _ (s3 _ _ (s2 _ _ e))
            · rw [upd_same, List.replicate_succ']
          have fin : ∀ (D : Addr) (H2 : Hp), Same (upd H p (.tup [.ty "list", .ty "tuple"])) H2 → H2 D = some (.lst (List.replicate xs.length (V.bl true))) → ∃ (a : Addr) (bs : List Bool), [V.ref D] = [V.ref a] ∧ SqL K H2 a (bs.map V.bl) ∧ Q (.bl (bs.all id)) H2 := by
            intro D H2 s2 hD
            refine ⟨D, List.replicate xs.length true, rfl, SqL.of (by rw [hD, List.map_replicate]), ?_⟩
            rw [all_true]
            exact q _ (s1.trans s2)
          rcases hxy with ⟨ha, hb⟩ | ⟨ha, hb⟩
          · refine .inl ⟨SqL.of (s1 _ _ ha), SqL.of (s1 _ _ hb), fun D nD => ?_⟩
            refine lc_gen (n := xs.length) (fun i H2 => Same (upd H p (.tup [.ty "list", .ty "tuple"])) H2 ∧ H2 D = some (.lst (List.replicate i (V.bl true)))) ⟨same_upd nD, upd_same⟩ ?_ ?_ ?_ ?_
            · rintro i H2 hi ⟨s2, hD⟩
              exact ⟨xs, ys, _, _, SqL.of (s2 _ _ (s1 _ _ ha)), SqL.of (s2 _ _ (s1 _ _ hb)), List.getElem?_eq_getElem hi, List.getElem?_eq_getElem (by omega)⟩
            · rintro H2 ⟨s2, hD⟩
              exact ⟨xs, ys, SqL.of (s2 _ _ (s1 _ _ ha)), SqL.of (s2 _ _ (s1 _ _ hb)), .inl (Nat.le_refl _)⟩
            · rintro i v H2 H3 hi ⟨s2, hD⟩ ⟨T, x, y, rfl, nT, rfl, f1, f2⟩
              refine ⟨T, [x, y], rfl, .inl (.inl upd_same), rfl, x, [y], rfl, y, [], rfl, rfl, rfl, ?_⟩
              refine yes_if ?_
              exact ⟨_, rfl, _, rfl, turn i x y D T H2 nD (f1 xs (SqL.of (s2 _ _ (s1 _ _ ha)))) (f2 ys (SqL.of (s2 _ _ (s1 _ _ hb)))) s2 hD nT⟩
            · rintro H2 ⟨s2, hD⟩
              exact fin D H2 s2 hD
          · refine .inr ⟨SqT.of (s1 _ _ ha), SqT.of (s1 _ _ hb), fun D nD => ?_⟩
            refine lc_gen (n := xs.length) (fun i H2 => Same (upd H p (.tup [.ty "list", .ty "tuple"])) H2 ∧ H2 D = some (.lst (List.replicate i (V.bl true)))) ⟨same_upd nD, upd_same⟩ ?_ ?_ ?_ ?_
            · rintro i H2 hi ⟨s2, hD⟩
              exact ⟨xs, ys, _, _, SqT.of (s2 _ _ (s1 _ _ ha)), SqT.of (s2 _ _ (s1 _ _ hb)), List.getElem?_eq_getElem hi, List.getElem?_eq_getElem (by omega)⟩
            · rintro H2 ⟨s2, hD⟩
              exact ⟨xs, ys, SqT.of (s2 _ _ (s1 _ _ ha)), SqT.of (s2 _ _ (s1 _ _ hb)), .inl (Nat.le_refl _)⟩
            · rintro i v H2 H3 hi ⟨s2, hD⟩ ⟨T, x, y, rfl, nT, rfl, f1, f2⟩
              refine ⟨T, [x, y], rfl, .inl (.inl upd_same), rfl, x, [y], rfl, y, [], rfl, rfl, rfl, ?_⟩
              refine yes_if ?_
              exact ⟨_, rfl, _, rfl, turn i x y D T H2 nD (f1 xs (SqT.of (s2 _ _ (s1 _ _ ha)))) (f2 ys (SqT.of (s2 _ _ (s1 _ _ hb)))) s2 hD nT⟩
            · rintro H2 ⟨s2, hD⟩
              exact fin D H2 s2 hD
end
end Sf
namespace Sf
open PySem PySem.Spec PyProof.Rows L2 TL
section
variable {P : Program} {w : World} {K : PySem.W.Frag} {mg : Str → Option Value} {base : Heap}
/-! ### is_word -/
def isW (x : Str) : Bool := decide (x.length ≤ 60) && (tl x).all sgn
def spIsWord : Sp := fun vs H Q _ => ∃ x : Str, vs = [.str x] ∧ x.length ≤ 100000 ∧ ∀ H', Same H H' → Q (.bl (isW x)) H'
abbrev HasIsWord (P : Program) (w : World) (K : PySem.W.Frag) (mg : Str → Option Value) (base : Heap) : Prop := Has P w K mg base 1 "is_word" ["text"] spIsWord
theorem sc_isword : FnScope ["text", "sign"] ["text"] (defScope s_is_word) := ⟨rfl, rfl, rfl, by decide +kernel, rfl, by decide +kernel, by decide +kernel⟩
theorem dec_signs {c : Nat} : decide (c ∈ (Str.ofString "aAbBcCdDeEfFgGhH").cps.toList) = sgn c := by
  rw [Bool.eq_iff_iff, decide_eq_true_eq]
  exact in_signs
theorem getElem?_of_cps {x : Str} {i c : Nat} (h : x.cps[i]? = some c) : (tl x)[i]? = some c := by
  rw [← h]
  exact Array.getElem?_toList
theorem has_isword (F : FnAt K mg "is_word" s_is_word ["text"]) (B : Blt mg) {t1 t2 : Tok} (mM : mg "MOST_WORD" = some (.int 60 t1)) (mS : mg "SIGNS" = some (.str (Str.ofString "aAbBcCdDeEfFgGhH") t2)) : HasIsWord P w K mg base := F.has fun F => by
  refine F.ok sc_isword (fun vs H Q E h => ?_) (fun cdv A outer s H vs Q E hr h => ?_)
  · obtain ⟨x, rfl, _⟩ := h
    rfl
  · obtain ⟨x, rfl, hlen, q⟩ := h
    have hz : x.cps.size = (tl x).length := len_tl x
    refine ⟨_, pss_one (ps_ret (pe_and (pe_cmpR op_le (pe_callB call_len_str (by rfl) B.len PySem.boot_len (pa_cons (pv 0) pa_nil)) (pe_glob (v := .int 60) (by rfl) mM ⟨_, rfl⟩) (nomark _))
      (pe_one (pe_callB (cr_all rfl) (by rfl) B.all (by decide +kernel) (pa_cons (pe_lc (own := [("sign", 1)]) (g := gName 1) (tt := tYes) (by rfl) sc_isword.nd (pi_str (pv 0))
        (blkOk_by (own := [("sign", 1)]) (N := ["text", "sign"]) (sc := defScope s_is_word) (by decide +kernel)) (fun _ _ _ _ _ => pg_name (i := 1) sc_isword.nd rfl (.inl rfl)) (fun _ _ _ _ _ => pts_nil)
        (fun _ _ _ _ _ => pe_cmpR op_in_sign (pv 1) (pe_glob (v := .str (Str.ofString "aAbBcCdDeEfFgGhH")) (by rfl) mS ⟨_, rfl⟩) rfl)) pa_nil))))), ?_⟩
    refine ⟨_, rfl, x, rfl, line_of hlen, _, 60, rfl, rfl, _, rfl, ite2 (fun e => ?_) (fun e => ?_)⟩
    · refine ⟨_, rfl, x, rfl, fun D nD => ?_⟩
      refine lc_gen (n := x.cps.size) (fun i H2 => Same H H2 ∧ H2 D = some (.lst (((tl x).take i).map fun c => V.bl (sgn c)))) ⟨same_upd nD, upd_same⟩ ?_ ?_ ?_ ?_
      · rintro i H2 hi ⟨s2, hD⟩
        exact hi
      · rintro H2 ⟨s2, hD⟩
        exact Nat.le_refl _
      · rintro i v H2 H3 hi ⟨s2, hD⟩ ⟨rfl, c, hc, rfl⟩
        refine ⟨rfl, yes_if ?_⟩
        refine ⟨_, rfl, c, _, rfl, rfl, _, hD, ?_, fun a o e => ?_, ?_⟩
        · rw [List.length_map, List.length_take]
          exact lineLt_of (Nat.le_trans (Nat.min_le_right _ _) (by rw [← hz]; exact hlen))
        · rw [upd_ne (ne_of_none e nD)]
          exact s2 _ _ e
        · have ed : decide (c ∈ (Str.ofString "aAbBcCdDeEfFgGhH").cps.toList) = sgn c := dec_signs
          rw [upd_same, List.take_add_one, getElem?_of_cps hc, List.map_append, ed]
          rfl
      · rintro H2 ⟨s2, hD⟩
        refine ⟨D, (tl x).map sgn, rfl, SqL.of ?_, ?_⟩
        · rw [hD, List.take_of_length_le (by rw [hz]; exact Nat.le_refl _), List.map_map]
          rfl
        · have h1 := q H2 s2
          have e1 : decide (x.length ≤ 60) = true := decide_eq_true (by have := of_decide_eq_true e; omega)
          have e2 : ((tl x).map sgn).all id = (tl x).all sgn := by
            rw [List.all_map]
            rfl
          rw [e2]
          unfold isW at h1
          rw [e1, Bool.true_and] at h1
          exact h1
    · have h1 := q H (.refl H)
      have e1 : decide (x.length ≤ 60) = false := decide_eq_false (fun z => e (decide_eq_true (by omega)))
      unfold isW at h1
      rw [e1, Bool.false_and] at h1
      exact h1
theorem isW_true {x : Str} (h : Wd x) (hl : x.length ≤ 60) : isW x = true := by
  unfold isW
  rw [decide_eq_true hl, Bool.true_and, List.all_eq_true]
  exact h
end
end Sf
namespace Sf
open PySem PySem.Spec PyProof.Rows L2 TL
section
variable {X : Cx}
/-! ### text * int -/
theorem op_mul_str : OpR X (binaryOp .Mult) (fun x y H Q => ∃ (a : Str) (n : Int), x = .str a ∧ y = .int n ∧ 0 ≤ n ∧ n ≤ 1000 ∧ a.length ≤ 1000 ∧ Q (.str (Txt.mul a n)) H) := by
  intro pins s σ H x y v u Q I rx ry h
  obtain ⟨a, n, rfl, rfl, h0, h1, h2, q⟩ := h
  obtain ⟨t, rfl⟩ := rx
  obtain ⟨t', rfl⟩ := ry
  refine PySem.SB.mul ⟨?_, fun hn _ => ?_, fun _ _ => ?_⟩ fun t' k => ⟨.str _, H, I.tok k, ⟨t', rfl⟩, q⟩
  · rw [decide_eq_false (by omega), decide_eq_false (by omega)]
    rfl
  · have h3 : (2 ^ 63 - 1) / n ≥ 9223372036854775807 / 1000 := by
      show (9223372036854775807 : Int) / 1000 ≤ (2 ^ 63 - 1) / n
      have e : (2 ^ 63 - 1 : Int) = 9223372036854775807 := by decide
      rw [e]
      refine (Int.le_ediv_iff_mul_le (by omega)).mpr ?_
      have : (9223372036854775807 : Int) / 1000 * n ≤ (9223372036854775807 : Int) / 1000 * 1000 := Int.mul_le_mul_of_nonneg_left h1 (by decide)
      have e2 : (9223372036854775807 : Int) / 1000 * 1000 ≤ 9223372036854775807 := by decide
      omega
    have e3 : (9223372036854775807 : Int) / 1000 = 9223372036854775 := by decide
    omega
  · refine PyProof.Rows.short24 ?_
    have h5 : n.toNat ≤ 1000 := by omega
    exact Nat.le_trans (Nat.mul_le_mul h2 h5) (by decide)
theorem mul_len {a : Str} {n : Int} (h : 0 ≤ n) : (Txt.mul a n).length = a.length * n.toNat := by
  obtain ⟨m, rfl⟩ : ∃ m : Nat, n = (m : Int) := ⟨n.toNat, by omega⟩
  have h1 := PyProof.Rows.len_mul a (m : Int)
  rw [decide_eq_false (by omega)] at h1
  have e : (if false = true then (0 : Int) else (m : Int)) = (m : Int) := rfl
  rw [e, ← Int.natCast_mul] at h1
  rw [Int.toNat_natCast]
  exact Int.ofNat.inj h1
theorem foldl_app (a : Array Nat) : ∀ (k : Nat) (acc : Array Nat) (c : Nat), c ∈ ((List.replicate k a).foldl (· ++ ·) acc).toList → c ∈ acc.toList ∨ c ∈ a.toList
  | 0, acc, c, h => .inl h
  | k + 1, acc, c, h => by
    rw [List.replicate_succ, List.foldl_cons] at h
    rcases foldl_app a k (acc ++ a) c h with h | h
    · rw [Array.toList_append, List.mem_append] at h
      exact h
    · exact .inr h
theorem mul_mem {a : Str} {n : Int} {c : Nat} (h : c ∈ tl (Txt.mul a n)) : c ∈ tl a := by
  unfold Txt.mul at h
  split at h
  · cases h
  · split at h
    · exact h
    · rcases foldl_app a.cps n.toNat #[] c h with h | h
      · cases h
      · exact h
theorem Wd.mul {a : Str} {n : Int} (h : Wd a) : Wd (Txt.mul a n) := fun c hc => h c (mul_mem hc)
theorem tl_cut (z : Str) (lo hi : Option Int) : tl (cutS z lo hi) = ((tl z).drop (HT.sIx z.length 0 lo)).take (HT.sIx z.length z.length hi - HT.sIx z.length 0 lo) := by
  unfold cutS
  rfl
theorem Wd.cut {z : Str} {lo hi : Option Int} (h : Wd z) : Wd (cutS z lo hi) := fun c hc => by
  rw [tl_cut] at hc
  exact h c (List.mem_of_mem_drop (List.mem_of_mem_take hc))
end
end Sf
namespace Sf
open PySem PySem.Spec PyProof.Rows L2 TL
section
variable {P : Program} {w : World} {K : PySem.W.Frag} {mg : Str → Option Value} {base : Heap}
/-! ### _law_bad -/
def spBad : Sp := fun vs H Q _ => ∃ (b : Addr) (x : Str), vs = [.ref b, .str x] ∧ Bag H b ∧ x.length ≤ 1000 ∧
  ∀ (y : Str) (H' : Hp), isW y = false → y.length ≤ 100000 → Bag H' b → Fx b H H' → Q (.str y) H'
abbrev HasBad (P : Program) (w : World) (K : PySem.W.Frag) (mg : Str → Option Value) (base : Heap) : Prop := Has P w K mg base 2 "_law_bad" ["_law_bag", "_law_word_here"] spBad
theorem sc_bad : FnScope ["_law_bag", "_law_word_here", "_law_at"] ["_law_bag", "_law_word_here"] (defScope s__law_bad) := ⟨rfl, rfl, rfl, by decide +kernel, rfl, by decide +kernel, by decide +kernel⟩
theorem at_bad {e : Int} (h0 : 0 ≤ e) (h1 : e < 11) : ∃ c, atI (Str.ofString "iIxzZ 09-_.").cps.toList e = some c ∧ sgn c = false := by
  have e1 : (Str.ofString "iIxzZ 09-_.").cps.toList = [105, 73, 120, 122, 90, 32, 48, 57, 45, 95, 46] := by decide +kernel
  rw [e1]
  have : e = 0 ∨ e = 1 ∨ e = 2 ∨ e = 3 ∨ e = 4 ∨ e = 5 ∨ e = 6 ∨ e = 7 ∨ e = 8 ∨ e = 9 ∨ e = 10 := by omega
  rcases this with rfl | rfl | rfl | rfl | rfl | rfl | rfl | rfl | rfl | rfl | rfl <;> exact ⟨_, rfl, by decide⟩
theorem isW_bad {x y : Str} {c : Nat} (h : sgn c = false) : isW (x ++ one c ++ y) = false := by
  unfold isW
  rw [Bool.and_eq_false_iff]
  refine .inr ?_
  rw [List.all_eq_false]
  refine ⟨c, ?_, by rw [h]; decide⟩
  rw [tl_append, tl_append, List.mem_append, List.mem_append]
  exact .inl (.inr (List.mem_singleton.mpr rfl))
theorem has_bad (F : FnAt K mg "_law_bad" s__law_bad ["_law_bag", "_law_word_here"]) (B : Blt mg) (hP : HasPull P w K mg base) : HasBad P w K mg base := F.has fun F => by
  obtain ⟨fP, fdP, gP, kP, bP, GP⟩ := hP
  refine F.ok sc_bad (fun vs H Q E h => ?_) (fun cdv A outer s H vs Q E hr h => ?_)
  · obtain ⟨b, x, rfl, _⟩ := h
    rfl
  · obtain ⟨b, x, rfl, hB, hx, q⟩ := h
    have hsz : x.length ≤ sizeLine := line_of (by omega)
    refine ⟨_, pss_cons (ps_set (i := 2) sc_bad.nd rfl (.inl rfl) (pe_call GP hr (by rfl) gP kP bP .nil pass0 (pa_cons (pv 0) (pa_cons (pe_op op_add (pe_callB call_len_str (by rfl) B.len PySem.boot_len (pa_cons (pv 1) pa_nil)) pe_int) pa_nil))))
      (pss_one (ps_ret (pe_op op_add_str (pe_op op_add_str (pe_slice sl_str (pv 1) po_none (po_some (pv 2))) (pe_ix ix_str pe_str (pe_call GP hr (by rfl) gP kP bP .nil pass0 (pa_cons (pv 0) (pa_cons pe_int pa_nil))) (fun _ _ => rfl))) (pe_slice sl_str (pv 1) (po_some (pv 2)) po_none)))), ?_⟩
    refine ⟨_, rfl, _, rfl, x, rfl, hsz, _, 1, rfl, rfl, b, _, rfl, hB, by omega, by omega, fun d H1 d0 d1 B1 f1 => ?_⟩
    refine ⟨_, rfl, _, rfl, d, rfl, x, rfl, hsz, _, rfl, b, 11, rfl, B1, by decide, by decide, fun e H2 e0 e1 B2 f2 => ?_⟩
    obtain ⟨c, hc, hn⟩ := at_bad e0 e1
    have l1 := cutS_length x none (some d)
    have l2 := cutS_length x (some d) none
    refine ⟨_, e, c, rfl, rfl, (by decide +kernel), hc, _, _, rfl, rfl, ?_, _, rfl, _, rfl, d, rfl, x, rfl, hsz, _, _, rfl, rfl, ?_, ?_⟩
    · rw [len_one]
      exact line_of (by omega)
    · rw [len_app, len_one]
      exact line_of (by omega)
    · refine q _ _ (isW_bad hn) ?_ B2 (f1.trans f2)
      rw [len_app, len_app, len_one]
      omega
end
end Sf
namespace Sf
open PySem PySem.Spec PyProof.Rows L2 TL
section
variable {P : Program} {w : World} {K : PySem.W.Frag} {mg : Str → Option Value} {base : Heap}
def spLaw (K : PySem.W.Frag) : Sp := fun vs H Q _ => ∃ (a : Addr) (ns : List Int), vs = [.ref a] ∧ SqL K H a (ns.map V.int) ∧ ns.length ≤ 63 ∧ ∀ H', Q (.bl true) H'
theorem sc_law : FnScope ["_law_script", "_law_bag", "_law_turn", "_law_word_here"] ["_law_script"] (defScope s_law) := ⟨rfl, rfl, rfl, by decide +kernel, rfl, by decide +kernel, by decide +kernel⟩
theorem eqv_list {H : Hp} {n : Nat} {p q : Addr} {xs : List V} (hp : H p = some (.lst xs)) (hq : H q = some (.lst xs)) (hl : xs.length ≤ 100000) (hf : ∀ x ∈ xs, flat4 x = true) : Eqv H (n + 1) (.ref p) (.ref q) :=
  .inr ⟨p, q, xs, xs, rfl, rfl, .inl ⟨hp, hq⟩, rfl, hl, fun i x y hx hy => by
    have e : x = y := Option.some.inj (hx.symm.trans hy)
    subst e
    exact .flat (hf x (List.mem_of_getElem? hx))⟩
theorem ok_law {f : Addr} {fd : FuncData} (F : Fun K "law" "law" s_law f fd) (B : Blt mg) {t1 t2 : Tok} (mL : mg "LETTERS" = some (.str (Str.ofString "abcdefgh") t1)) (mM : mg "MOST_WORD" = some (.int 60 t2))
    (hBe : HasBegin P w K mg base) (hP : HasPull P w K mg base) (hA : HasAny P w K mg base) (hS0 : HasSame P w K mg base 0) (hS1 : HasSame P w K mg base 1) (hI : HasIsWord P w K mg base) (hBd : HasBad P w K mg base) :
    FnOk P w K mg base CX0 6 f fd ["_law_script"] (spLaw K) := by
  obtain ⟨fB, fdB, gB, kB, bB, GB⟩ := hBe
  obtain ⟨fP, fdP, gP, kP, bP, GP⟩ := hP
  obtain ⟨fA, fdA, gA, kA, bA, GA⟩ := hA
  obtain ⟨fS, fdS, gS, kS, bS, GS⟩ := hS0
  obtain ⟨fS1, fdS1, gS1, kS1, bS1, GS1⟩ := hS1
  obtain ⟨fI, fdI, gI, kI, bI, GI⟩ := hI
  obtain ⟨fD, fdD, gD, kD, bD, GD⟩ := hBd
  refine F.ok sc_law (fun vs H Q E h => ?_) (fun cdv A outer s H vs Q E hr h => ?_)
  · obtain ⟨a, ns, rfl, _⟩ := h
    rfl
  · obtain ⟨a, ns, rfl, hS, hlen, q⟩ := h
    have hr1 : Room 1 _ := hr.mono (by decide)
    have hr2 : Room 2 _ := hr.mono (by decide)
    have hr4 : Room 4 _ := hr.mono (by decide)
    refine ⟨_, pss_cons (ps_set (i := 1) sc_law.nd rfl (.inl rfl) (pe_call GB hr1 (by rfl) gB kB bB .nil pass0 (pa_cons (pv 0) pa_nil)))
      (pss_cons (ps_if (pt_not (pt_val (pe_call GS1 hr2 (by rfl) gS1 kS1 bS1 .nil pass0 (pa_cons (pe_lst (pa_cons (pe_glob (v := .str (Str.ofString "abcdefgh")) (by rfl) mL ⟨_, rfl⟩) (pa_cons (pe_glob (v := .int 60) (by rfl) mM ⟨_, rfl⟩) pa_nil))) (pa_cons (pe_lst (pa_cons pe_str (pa_cons pe_int pa_nil))) pa_nil))))) pss_never pss_nil)
      (pss_cons (ps_for PassesOwn.never rfl (pi_range1 rfl B.range (pa_cons pe_int pa_nil)) (pg_name (i := 2) sc_law.nd rfl (.inl rfl))
        (pss_cons (ps_set (i := 3) sc_law.nd rfl (.inl rfl) (pe_call GA hr4 (by rfl) gA kA bA .nil pass0 (pa_cons (pv 1) (pa_cons pe_int pa_nil))))
        (pss_cons (ps_if (pt_cmpR op_eq (pe_call GP hr1 (by rfl) gP kP bP .nil pass0 (pa_cons (pv 1) (pa_cons pe_int pa_nil))) pe_int (nomark _))
          (pss_one (ps_set (i := 3) sc_law.nd rfl (.inl rfl) (pe_slice sl_str (pe_op op_mul_str (pe_op op_add_str (pv 3) pe_str) pe_int) po_none (po_some (pe_op op_add pe_int (pe_call GP hr1 (by rfl) gP kP bP .nil pass0 (pa_cons (pv 1) (pa_cons pe_int pa_nil)))))))) pss_nil)
        (pss_one (ps_if (PW.pt (pw_or (pt_not (pt_val (pe_call GS hr1 (by rfl) gS kS bS .nil pass0 (pa_cons (pe_call GI hr1 (by rfl) gI kI bI .nil pass0 (pa_cons (pv 3) pa_nil)) (pa_cons (pe_cmpR op_le (pe_callB call_len_str (by rfl) B.len PySem.boot_len (pa_cons (pv 3) pa_nil)) pe_int (nomark _)) pa_nil)))))
            (pw_or1 (pt_not (pt_val (pe_call GS hr1 (by rfl) gS kS bS .nil pass0 (pa_cons (pe_call GI hr1 (by rfl) gI kI bI .nil pass0 (pa_cons (pe_call GD hr2 (by rfl) gD kD bD .nil pass0 (pa_cons (pv 1) (pa_cons (pv 3) pa_nil))) pa_nil)) (pa_cons pe_bl pa_nil)))))))) pss_never pss_nil)))))
      (pss_one (ps_ret (pe_call GS1 hr2 (by rfl) gS1 kS1 bS1 .nil pass0 (pa_cons (pe_lst (pa_cons (pe_call GI hr1 (by rfl) gI kI bI .nil pass0 (pa_cons pe_str pa_nil)) (pa_cons (pe_call GI hr1 (by rfl) gI kI bI .nil pass0 (pa_cons (pe_op op_mul_str pe_str pe_int) pa_nil)) (pa_cons (pe_call GI hr1 (by rfl) gI kI bI .nil pass0 (pa_cons (pe_op op_mul_str pe_str pe_int) pa_nil)) pa_nil)))) (pa_cons (pe_lst (pa_cons pe_bl (pa_cons pe_bl (pa_cons pe_bl pa_nil)))) pa_nil))))))), ?_⟩
    -- bag = begin(script)
    refine ⟨_, rfl, a, ns, rfl, hS, fun b H1 nb B1 s1 => ?_⟩
    -- the constants
    refine ⟨(by show 2 ≤ sizeLine; decide), fun p np => ?_⟩
    refine ⟨(by show 2 ≤ sizeLine; decide), fun p2 np2 => ?_⟩
    have npp : p ≠ p2 := ne_of_none upd_same np2
    refine ⟨_, _, rfl, eqv_list (xs := [.str (Str.ofString "abcdefgh"), .int 60]) (by rw [upd_ne npp]; exact upd_same) upd_same (by show 2 ≤ 100000; decide) (by simp [flat4]), fun H2 s2 => ⟨_, rfl, iteF ?_⟩⟩
    have B2 : Bag H2 b := ((B1.new np).new np2).same s2
    refine ⟨5, rfl, by decide, by decide, for_range (lo := 0) (n := 5) (fun i σ H3 => ∃ (y2 y3 : Option V), σ = [some (.ref a), some (.ref b), y2, y3] ∧ Bag H3 b) ⟨none, none, rfl, B2⟩ ?_ ?_⟩
    · rintro i σ H3 hi ⟨y2, y3, rfl, B3⟩
      refine ⟨_, rfl, b, 12, rfl, B3, by decide, by decide, fun x H4 hx hl B4 f4 => ?_⟩
      have hl12 : x.length ≤ 12 := hl
      -- the last statement, for any word
      have fin : ∀ (x : Str) (H5 : Hp), Wd x → x.length ≤ 1000 → Bag H5 b → ∀ R : Hp → Prop, (∀ H6, Bag H6 b → R H6) → ∃ v : V, some (some (V.str x)) = some (some v) ∧ ∃ y : Str, [v] ++ [] = [.str y] ∧ y.length ≤ 100000 ∧ ∀ H6, Same H5 H6 → ∃ v2 : V, some (some (V.str x)) = some (some v2) ∧
          ∃ z : Str, [v2] = [V.str z] ∧ z.length ≤ sizeLine ∧ ∃ i j : Int, V.int z.length = .int i ∧ V.int 60 = .int j ∧ ∃ x1 y1 : V, [V.bl (isW y), .bl (decide (i ≤ j))] ++ [] = [x1, y1] ∧ Eqv H6 0 x1 y1 ∧ ∀ H7, Same H6 H7 → R H7 := by
        intro x H5 hx hl B5 R hR
        refine ⟨_, rfl, x, rfl, by omega, fun H6 s6 => ⟨_, rfl, x, rfl, line_of (by omega), _, _, rfl, rfl, _, _, rfl, ⟨rfl, ?_⟩, fun H7 s7 => hR H7 ((B5.same s6).same s7)⟩⟩
        have e : isW x = decide ((x.length : Int) ≤ 60) := by
          unfold isW
          rw [List.all_eq_true.mpr hx, Bool.and_true]
          exact decide_eq_decide.mpr (by omega)
        rw [e]
      have fin2 : ∀ (x : Str) (y2 : Option V) (H7 : Hp), x.length ≤ 1000 → Bag H7 b → ∃ v : V, some (some (V.ref b)) = some (some v) ∧ ∃ v2 : V, some (some (V.str x)) = some (some v2) ∧ ∃ (b' : Addr) (x' : Str), [v, v2] ++ [] = [.ref b', .str x'] ∧ Bag H7 b' ∧ x'.length ≤ 1000 ∧
          ∀ (y : Str) (H' : Hp), isW y = false → y.length ≤ 100000 → Bag H' b' → Fx b' H7 H' → ∃ x'' : Str, [V.str y] ++ [] = [.str x''] ∧ x''.length ≤ 100000 ∧ ∀ H8, Same H' H8 → ∃ x1 y1 : V, [V.bl (isW x''), V.bl false] ++ [] = [x1, y1] ∧ Eqv H8 0 x1 y1 ∧ ∀ H9, Same H8 H9 → ∃ c, V.bl true = .bl c ∧
            (if (!c) = true then False else ∃ (y2' y3 : Option V), [some (V.ref a), some (.ref b), y2, some (.str x)] = [some (.ref a), some (.ref b), y2', y3] ∧ Bag H9 b) := by
        intro x y2 H7 hl B7
        refine ⟨_, rfl, _, rfl, b, x, rfl, B7, hl, fun y H' hy hyl B' f' => ⟨y, rfl, hyl, fun H8 s8 => ⟨_, _, rfl, ⟨rfl, by rw [hy]⟩, fun H9 s9 => ⟨_, rfl, iteF ⟨_, _, rfl, (B'.same s8).same s9⟩⟩⟩⟩⟩
      refine ⟨_, rfl, b, 2, rfl, B4, by decide, by decide, fun d H5 _ _ B5 f5 => ⟨rfl, _, rfl, ite2 (fun _ => ?_) (fun _ => ?_)⟩⟩
      · refine ⟨_, rfl, _, _, rfl, rfl, ?_, _, 15, rfl, rfl, by decide, by decide, ?_, _, rfl, b, 5, rfl, B5, by decide, by decide, fun e H6 e0 e1 B6 f6 => ⟨58, e, rfl, rfl, _, rfl, _, rfl, ?_, ?_⟩⟩
        · exact line_of (by have : (Str.ofString "aBhH").length = 4 := by decide +kernel
                            omega)
        · rw [len_app]
          have : (Str.ofString "aBhH").length = 4 := by decide +kernel
          omega
        · rw [mul_len (by decide), len_app]
          have h4 : (Str.ofString "aBhH").length = 4 := by decide +kernel
          rw [h4]
          exact line_of (Nat.le_trans (Nat.mul_le_mul_right _ (by omega : x.length + 4 ≤ 16)) (by decide))
        · have hw : Wd (cutS (Txt.mul (x ++ Str.ofString "aBhH") 15) none (some (58 + e))) := by
            refine Wd.cut (Wd.mul (hx.app fun c hc => ?_))
            have e4 : tl (Str.ofString "aBhH") = [97, 66, 104, 72] := by decide +kernel
            rw [e4] at hc
            simp only [List.mem_cons, List.not_mem_nil, or_false] at hc
            rw [sgn_iff]
            omega
          have hw2 : (cutS (Txt.mul (x ++ Str.ofString "aBhH") 15) none (some (58 + e))).length ≤ 1000 := by
            refine Nat.le_trans (cutS_length _ _ _) ?_
            rw [mul_len (by decide), len_app]
            have h4 : (Str.ofString "aBhH").length = 4 := by decide +kernel
            rw [h4]
            exact Nat.le_trans (Nat.mul_le_mul_right _ (by omega : x.length + 4 ≤ 16)) (by decide)
          refine fin _ _ hw hw2 B6 (fun H7 => _) fun H7 B7 => ⟨_, rfl, iteF ?_⟩
          exact fin2 _ _ _ hw2 B7
      · refine fin _ _ hx (by omega) B5 (fun H7 => _) fun H7 B7 => ⟨_, rfl, iteF ?_⟩
        exact fin2 _ _ _ (by omega) B7
    · rintro σ H3 ⟨y2, y3, rfl, B3⟩
      refine ⟨_, rfl, (by decide +kernel), fun H4 s4 => ⟨_, 60, rfl, rfl, by decide, by decide, (by decide +kernel), _, rfl, ?_, fun H5 s5 => ⟨_, 61, rfl, rfl, by decide, by decide, (by decide +kernel), _, rfl, ?_, fun H6 s6 => ?_⟩⟩⟩
      · rw [mul_len (by decide)]; decide +kernel
      · rw [mul_len (by decide)]; decide +kernel
      refine ⟨(by show 3 ≤ sizeLine; decide), fun p np => ?_⟩
      refine ⟨(by show 3 ≤ sizeLine; decide), fun p2 np2 => ?_⟩
      have npp : p ≠ p2 := ne_of_none upd_same np2
      have e1 : isW "" = true := by decide +kernel
      have e2 : isW (Txt.mul "h" 60) = true := by decide +kernel
      have e3 : isW (Txt.mul "A" 61) = false := by decide +kernel
      refine ⟨_, _, rfl, eqv_list (xs := [.bl true, .bl true, .bl false]) ?_ upd_same (by show 3 ≤ 100000; decide) (by simp [flat4]), fun H7 s7 => q H7⟩
      rw [upd_ne npp, upd_same, e1, e2, e3]
end
end Sf
namespace Sf
open PySem PySem.Spec PyProof.Rows L2 TL
theorem all_mk {P : Program} {w : World} {K : PySem.W.Frag} {h : Heap} {mg : Str → Option Value} {fa f : Addr} (X : K.In h) (G : h.Ns mainGlobals mg) (hfa : mg "law" = some (.ref fa))
    {od an : Option Addr} {sl : Array (Option Value)} {oc kV dc pm cd ct : Value}
    (aL : PySem.W.nsIn K mainGlobals "law" = some (some (.ref f))) (lL : K.lookup f = some ⟨oc, od, .func (PySem.W.fnOf "law" "law" (defArgs s_law) (defBody s_law) (defScope s_law) .none kV dc pm an cd ct), sl⟩) (cL : PySem.W.codeIn K cd "law" = true) (kL : PySem.W.keepIn K (.ref f) = true)
    (F_law_begin : FnAt K mg "_law_begin" s__law_begin ["_law_script"])
    (F_law_pull : FnAt K mg "_law_pull" s__law_pull ["_law_bag", "_law_many"])
    (F_law_flip : FnAt K mg "_law_flip" s__law_flip ["_law_sign_here"])
    (F_law_sign : FnAt K mg "_law_sign" s__law_sign ["_law_bag", "_law_many"])
    (F_law_word : FnAt K mg "_law_word" s__law_word ["_law_bag", "_law_upto", "_law_many"])
    (F_law_any_word : FnAt K mg "_law_any_word" s__law_any_word ["_law_bag", "_law_upto"])
    (F_law_same : FnAt K mg "_law_same" s__law_same ["_law_found", "_law_due"])
    (Fis_word : FnAt K mg "is_word" s_is_word ["text"])
    (F_law_bad : FnAt K mg "_law_bad" s__law_bad ["_law_bag", "_law_word_here"])
    (B : Blt mg) {t_LETTERS : Tok} (CLETTERS : mg "LETTERS" = some (.str (Str.ofString "abcdefgh") t_LETTERS)) {t_MOST_WORD : Tok} (CMOST_WORD : mg "MOST_WORD" = some (.int 60 t_MOST_WORD)) {t_SIGNS : Tok} (CSIGNS : mg "SIGNS" = some (.str (Str.ofString "aAbBcCdDeEfFgGhH") t_SIGNS)) :
    ∃ fd : FuncData, (∀ (s : Shared) (v : Value), BindsTo s fd ⟨[v], []⟩ [("_law_script", v)]) ∧ ∀ base : Heap, K.In base → base.Ns mainGlobals mg → FnOk P w K mg base CX0 6 fa fd ["_law_script"] (spLaw K) := by
  have e := hfa.symm.trans (PySem.W.mg_of X G aL)
  cases e
  have FL := fun_mk (st := s_law) lL cL kL
  refine ⟨PySem.W.fnOf "law" "law" (defArgs s_law) (defBody s_law) (defScope s_law) .none kV dc pm an cd ct, fun s v => .of_eq rfl, fun base _ _ => ?_⟩
  have hBe := has_begin (P := P) (w := w) (base := base) F_law_begin B
  have hP := has_pull (P := P) (w := w) (base := base) F_law_pull B
  have hFl := has_flip (P := P) (w := w) (base := base) F_law_flip
  have hSi := has_sign (P := P) (w := w) (base := base) F_law_sign hP
  have hW := has_word (P := P) (w := w) (base := base) F_law_word B hP hSi hFl
  have hA := has_any (P := P) (w := w) (base := base) F_law_any_word hP hW
  have hS := has_same (P := P) (w := w) (base := base) F_law_same B
  have hI := has_isword (P := P) (w := w) (base := base) Fis_word B CMOST_WORD CSIGNS
  have hBd := has_bad (P := P) (w := w) (base := base) F_law_bad B hP
  exact ok_law FL B CLETTERS CMOST_WORD hBe hP hA (hS 0) (hS 1) hI hBd
end Sf
open PySem PySem.W PyProof.Rows
set_option maxRecDepth 100000 in
set_option maxHeartbeats 0 in
theorem PySem.Challenge.cw_spoorfold_k01_texts_that_are_words_holds : PySem.Challenge.rw_spoorfold_k01_texts_that_are_words.Holds := by
  w_on; o_law; k_head; (case hw => w_witness2)
  k_fill
  refine L2.walk_of (l := PySem.Challenge.rw_spoorfold_k01_texts_that_are_words) (n := 63) (k := 6) (x := "_law_script") (CX := fun _ => L2.CX0) (sp := fun w => Sf.spLaw _) rfl (by decide) rfl ⟨rfl, by decide, by decide⟩ (fun w h Y => PySem.W.kIn_of Y) ?F (fun _ _ a ns hl _ hS => ⟨a, ns, rfl, hS, hl, fun _ => rfl⟩) (fun _ _ _ _ _ h => h)
  case F =>
    intro w mg fa h KX G hmg
    refine' Sf.all_mk KX G hmg ?aL ?lL ?cL ?kL (Sf.fnAt_mk KX G ?a0 ?l0 ?c0 ?k0 (fun _ _ _ _ _ _ us hl => match us, hl with | [_], _ => rfl)) (Sf.fnAt_mk KX G ?a1 ?l1 ?c1 ?k1 (fun _ _ _ _ _ _ us hl => match us, hl with | [_, _], _ => rfl)) (Sf.fnAt_mk KX G ?a2 ?l2 ?c2 ?k2 (fun _ _ _ _ _ _ us hl => match us, hl with | [_], _ => rfl)) (Sf.fnAt_mk KX G ?a3 ?l3 ?c3 ?k3 (fun _ _ _ _ _ _ us hl => match us, hl with | [_, _], _ => rfl)) (Sf.fnAt_mk KX G ?a4 ?l4 ?c4 ?k4 (fun _ _ _ _ _ _ us hl => match us, hl with | [_, _, _], _ => rfl)) (Sf.fnAt_mk KX G ?a5 ?l5 ?c5 ?k5 (fun _ _ _ _ _ _ us hl => match us, hl with | [_, _], _ => rfl)) (Sf.fnAt_mk KX G ?a6 ?l6 ?c6 ?k6 (fun _ _ _ _ _ _ us hl => match us, hl with | [_, _], _ => rfl)) (Sf.fnAt_mk KX G ?a7 ?l7 ?c7 ?k7 (fun _ _ _ _ _ _ us hl => match us, hl with | [_], _ => rfl)) (Sf.fnAt_mk KX G ?a8 ?l8 ?c8 ?k8 (fun _ _ _ _ _ _ us hl => match us, hl with | [_, _], _ => rfl)) ⟨PySem.W.mg_none_of KX G ?z0, PySem.W.mg_none_of KX G ?z1, PySem.W.mg_none_of KX G ?z2, PySem.W.mg_none_of KX G ?z3, PySem.W.mg_none_of KX G ?z4, PySem.W.mg_none_of KX G ?z5, PySem.W.mg_none_of KX G ?z6, PySem.W.mg_none_of KX G ?z7, PySem.W.mg_none_of KX G ?z8, PySem.W.mg_none_of KX G ?z9, PySem.W.mg_none_of KX G ?z10, PySem.W.mg_none_of KX G ?z11⟩ (PySem.W.mg_of KX G ?d0) (PySem.W.mg_of KX G ?d1) (PySem.W.mg_of KX G ?d2)
    (case aL => k_is)
    (case lL => k_is)
    (case cL => k_is)
    (case kL => k_is)
    (case a0 => k_is)
    (case l0 => k_is)
    (case c0 => k_is)
    (case k0 => k_is)
    (case a1 => k_is)
    (case l1 => k_is)
    (case c1 => k_is)
    (case k1 => k_is)
    (case a2 => k_is)
    (case l2 => k_is)
    (case c2 => k_is)
    (case k2 => k_is)
    (case a3 => k_is)
    (case l3 => k_is)
    (case c3 => k_is)
    (case k3 => k_is)
    (case a4 => k_is)
    (case l4 => k_is)
    (case c4 => k_is)
    (case k4 => k_is)
    (case a5 => k_is)
    (case l5 => k_is)
    (case c5 => k_is)
    (case k5 => k_is)
    (case a6 => k_is)
    (case l6 => k_is)
    (case c6 => k_is)
    (case k6 => k_is)
    (case a7 => k_is)
    (case l7 => k_is)
    (case c7 => k_is)
    (case k7 => k_is)
    (case a8 => k_is)
    (case l8 => k_is)
    (case c8 => k_is)
    (case k8 => k_is)
    (case z0 => k_is)
    (case z1 => k_is)
    (case z2 => k_is)
    (case z3 => k_is)
    (case z4 => k_is)
    (case z5 => k_is)
    (case z6 => k_is)
    (case z7 => k_is)
    (case z8 => k_is)
    (case z9 => k_is)
    (case z10 => k_is)
    (case z11 => k_is)
    (case d0 => k_is)
    (case d1 => k_is)
    (case d2 => k_is)
