import PyProof.Rows.All
import Wide.All
import OpenK.AllK
import Wide.FinOn
import HandS.ForMost
import HandS.IsInst
import HandS.Zip
import HandS.More
import KE.LtData
import HandS.DictComp
import KE.SortKeyHeap
import HandS.SortKw
import HandS.OwnEq
import PySem.Challenge.RW_spoorfold_k02_words_undone_and_reduced
set_option Elab.async false
set_option linter.all false
set_option maxRecDepth 100000
namespace Sf
open PySem PySem.Spec PyProof.Rows L2
/-! the text of the law by places -/
def topS (i : Nat) : Stmt := PySem.Challenge.pw_spoorfold_k02_words_undone_and_reduced.main.body.getD i (.Pass ⟨0, 0, 0, 0⟩)
abbrev s_SpoorError___init__ : Stmt := inClass (topS 1) 0
abbrev s_BadWord___init__ : Stmt := inClass (topS 2) 0
abbrev s_is_word : Stmt := topS 7
abbrev s_need_word : Stmt := topS 8
abbrev s_undone : Stmt := topS 9
abbrev s_reduced : Stmt := topS 10
abbrev s_letters_of : Stmt := topS 11
abbrev s_letters_in : Stmt := topS 12
abbrev s_turned : Stmt := topS 13
abbrev s_glued : Stmt := topS 14
abbrev s_shortened : Stmt := topS 15
abbrev s__law_begin : Stmt := topS 17
abbrev s__law_pull : Stmt := topS 18
abbrev s__law_sign : Stmt := topS 19
abbrev s__law_flip : Stmt := topS 20
abbrev s__law_word : Stmt := topS 21
abbrev s__law_any_word : Stmt := topS 22
abbrev s__law_same : Stmt := topS 23
abbrev s__law_back : Stmt := topS 24
abbrev s__law_short : Stmt := topS 25
abbrev s_law : Stmt := topS 26
end Sf
namespace Sf
open PySem PySem.Spec PyProof.Rows L2 TL
/-! ### helpers of heaps and blocks -/
theorem same_upd {H : Hp} {p : Addr} {o : HO} (h : H p = none) : Same H (upd H p o) := fun b x e => by
  rw [upd_ne (ne_of_none e h)]
  exact e
/-- all but what stands at b stands -/
def Fx (b : Addr) (H H' : Hp) : Prop := ∀ a o, H a = some o → a ≠ b → H' a = some o
theorem Fx.refl {b : Addr} {H : Hp} : Fx b H H := fun _ _ h _ => h
theorem Fx.of {b : Addr} {H H' : Hp} (h : Same H H') : Fx b H H' := fun a o e _ => h a o e
theorem Fx.trans {b : Addr} {H H1 H2 : Hp} (h : Fx b H H1) (k : Fx b H1 H2) : Fx b H H2 := fun a o e n => k a o (h a o e n) n
theorem Fx.same {b : Addr} {H H1 H2 : Hp} (h : Fx b H H1) (k : Same H1 H2) : Fx b H H2 := h.trans (.of k)
theorem Fx.upd {b : Addr} {H H1 : Hp} {o : HO} (h : Fx b H H1) : Fx b H (upd H1 b o) := fun a u e n => by
  rw [upd_ne n]
  exact h a u e n
theorem Fx.new {b p : Addr} {H H1 : Hp} {o : HO} (h : Fx b H H1) (n : H1 p = none) : Fx b H (L2.upd H1 p o) := h.same (same_upd n)
theorem Fx.seq {b a : Addr} {H H1 : Hp} {xs : List V} {K : PySem.W.Frag} (h : Fx b H H1) (n : a ≠ b) (s : SqL K H a xs) : SqL K H1 a xs := by
  rcases s with (s | ⟨o, s⟩) | s
  · exact .inl (.inl (h _ _ s n))
  · exact .inl (.inr ⟨o, h _ _ s n⟩)
  · exact .inr s
theorem seq_by {X : Cx} {st : Stmt} {rest : List Stmt} {D : Ends} {σ : L2.St} {H : Hp} (J : L2.St → Hp → Prop) (hr : ∃ u, PSs X rest u ∧ ∀ σ' H', J σ' H' → u D σ' H')
    (hs : ∀ u : TS, (∀ σ' H', J σ' H' → u D σ' H') → ∃ t, PS X st t ∧ t { D with nx := u D } σ H) : ∃ t, PSs X (st :: rest) t ∧ t D σ H := by
  obtain ⟨u, hu, k⟩ := hr
  obtain ⟨t, ht, h⟩ := hs u k
  exact ⟨tSeq t u, pss_cons ht hu, h⟩
theorem line_of {n : Nat} (h : n ≤ 100000) : n ≤ sizeLine := Nat.le_trans h (by decide)
theorem lineLt_of {n : Nat} (h : n ≤ 100000) : n < sizeLine := Nat.lt_of_le_of_lt h (by decide)
/-! ### the bag of the laws: its list at l, three numbers -/
structure BagL (H : Hp) (b l : Addr) (ns : List Int) (k z r : Int) : Prop where
  hb : H b = some (.lst [.ref l, .int k, .int z, .int r])
  hl : H l = some (.lst (ns.map V.int))
  k0 : 0 ≤ k
  z0 : 0 ≤ z
  r0 : 0 ≤ r
  r1 : r < 2147483647
def Bag (H : Hp) (b : Addr) : Prop := ∃ (l : Addr) (ns : List Int) (k z r : Int), BagL H b l ns k z r
theorem bag_ne {l : Addr} {ns : List Int} {vs : List V} : HO.lst (.ref l :: vs) ≠ HO.lst (ns.map V.int) := fun e => by
  cases ns with
  | nil => cases e
  | cons x r => cases e
theorem BagL.ne {H : Hp} {b l : Addr} {ns : List Int} {k z r : Int} (h : BagL H b l ns k z r) : l ≠ b := fun e => by
  have h1 := h.hb
  have h2 := h.hl
  rw [e, h1] at h2
  exact bag_ne (Option.some.inj h2)
theorem BagL.set {H : Hp} {b l : Addr} {ns : List Int} {k z r k' z' r' : Int} (h : BagL H b l ns k z r) (hk : 0 ≤ k') (hz : 0 ≤ z') (h0 : 0 ≤ r') (h1 : r' < 2147483647) :
    BagL (upd H b (.lst [.ref l, .int k', .int z', .int r'])) b l ns k' z' r' :=
  ⟨upd_same, by rw [upd_ne h.ne]; exact h.hl, hk, hz, h0, h1⟩
theorem Bag.same {H H' : Hp} {b : Addr} (s : Same H H') : Bag H b → Bag H' b
  | ⟨l, ns, k, z, r, h⟩ => ⟨l, ns, k, z, r, s _ _ h.hb, s _ _ h.hl, h.k0, h.z0, h.r0, h.r1⟩
theorem Bag.new {H : Hp} {b p : Addr} {o : HO} (h : Bag H b) (n : H p = none) : Bag (upd H p o) b := h.same (same_upd n)
theorem Bag.ne {H : Hp} {b p : Addr} (h : Bag H b) (n : H p = none) : p ≠ b := fun e => by
  obtain ⟨l, ns, k, z, r, h⟩ := h
  rw [e, h.hb] at n
  cases n
theorem len_eq {α : Type} {xs : List α} {n : Nat} (h : xs.length = n) : ((xs.length : Nat) : Int) = (n : Int) := by rw [h]
theorem int_at {ns : List Int} {k : Int} (h0 : 0 ≤ k) (h1 : k < ((ns.map V.int).length : Nat)) : ∃ v : Int, atI (ns.map V.int) k = some (.int v) := by
  rw [List.length_map] at h1
  refine ⟨ns[k.toNat]'(by omega), at_of (j := k.toNat) (by omega) ?_⟩
  rw [List.getElem?_map, List.getElem?_eq_getElem (by omega)]
  rfl
end Sf
namespace Sf
open PySem PySem.Spec PyProof.Rows L2 TL
/-! ### what stands at the top: a def of the text; a def that keeps a promise; a constant; built-in names -/
def FnAt (K : PySem.W.Frag) (mg : Str → Option Value) (x : Str) (st : Stmt) (ps : List Str) : Prop := ∃ (f : Addr) (fd : FuncData), mg x = some (.ref f) ∧ Fun K x x st f fd ∧ Binds K fd ps []
def Has (P : Program) (w : World) (K : PySem.W.Frag) (mg : Str → Option Value) (base : Heap) (k : Nat) (x : Str) (ps : List Str) (sp : Sp) : Prop :=
  ∃ (f : Addr) (fd : FuncData), mg x = some (.ref f) ∧ PySem.W.keepIn K (.ref f) = true ∧ Binds K fd ps [] ∧ FnOk P w K mg base CX0 k f fd ps sp
theorem FnAt.has {P : Program} {w : World} {K : PySem.W.Frag} {mg : Str → Option Value} {base : Heap} {k : Nat} {x : Str} {st : Stmt} {ps : List Str} {sp : Sp} (h : FnAt K mg x st ps)
    (ok : ∀ {f : Addr} {fd : FuncData}, Fun K x x st f fd → FnOk P w K mg base CX0 k f fd ps sp) : Has P w K mg base k x ps sp := by
  obtain ⟨f, fd, g, F, b⟩ := h
  exact ⟨f, fd, g, F.kp, b, ok F⟩
theorem fnAt_mk {K : PySem.W.Frag} {h : Heap} {mg : Str → Option Value} {x : Str} {st : Stmt} {ps : List Str} {f : Addr} {oc : Value} {od an : Option Addr} {osl : Array (Option Value)} {kV doc pm cdv ct : Value} (X : K.In h) (G : h.Ns mainGlobals mg)
    (a : PySem.W.nsIn K mainGlobals x = some (some (.ref f))) (l : K.lookup f = some ⟨oc, od, .func (PySem.W.fnOf x x (defArgs st) (defBody st) (defScope st) .none kV doc pm an cdv ct), osl⟩)
    (c : PySem.W.codeIn K cdv x = true) (k : PySem.W.keepIn K (.ref f) = true)
    (b : ∀ (kV doc pm : Value) (an : Option Addr) (cdv ct : Value) (us : List Value), us.length = ps.length → bindArgs (PySem.W.fnOf x x (defArgs st) (defBody st) (defScope st) .none kV doc pm an cdv ct) ⟨us, []⟩ = pure (ps.zip us)) : FnAt K mg x st ps :=
  ⟨f, _, PySem.W.mg_of X G a, fun_mk l c k, (fun_mk l c k).binds b⟩
structure Blt (mg : Str → Option Value) : Prop where
  len : mg "len" = none
  range : mg "range" = none
  isinstance : mg "isinstance" = none
  list : mg "list" = none
  tuple : mg "tuple" = none
  bool : mg "bool" = none
  int : mg "int" = none
  str : mg "str" = none
  all : mg "all" = none
  zip : mg "zip" = none
  min : mg "min" = none
  sorted : mg "sorted" = none
theorem lc_gen {J : It} {n : Nat} {g : TG} {tt : TT} {te : TE} {vs : List Nat} {σ : L2.St} {H1 : Hp} {D : Addr} {Qd : Hp → Prop} (Pv : Nat → Hp → Prop) (h0 : Pv 0 (upd H1 D (.lst [])))
    (hgo : ∀ i H, i < n → Pv i H → J.go i H) (hst : ∀ H, Pv n H → J.stop n H)
    (hs : ∀ i x H H', i < n → Pv i H → J.yld i H x H' → g x (wipe σ vs) H' fun σ2 H2 => wipe σ2 vs = wipe σ vs ∧ tt σ2 H2 fun b H3 =>
      if b = true then te σ2 H3 fun y H4 => ∃ acc, H4 D = some (.lst acc) ∧ acc.length < sizeLine ∧ Pv (i + 1) (upd H4 D (.lst (acc ++ [y]))) else Pv (i + 1) H3) (hd : ∀ H, Pv n H → Qd H) :
    ∃ W : Nat → Nat → Hp → Prop, (∃ m, W 0 m (upd H1 D (.lst []))) ∧ ∀ i m H, W i m H →
      (J.stop i H ∧ Qd H) ∨ (J.go i H ∧ ∃ Nx : Hp → Prop, (∀ H', Nx H' → ∃ m', m' < m ∧ W (i + 1) m' H') ∧ ∀ x H', J.yld i H x H' → g x (wipe σ vs) H' fun σ2 H2 => wipe σ2 vs = wipe σ vs ∧ tt σ2 H2 fun b H3 =>
        if b = true then te σ2 H3 fun y H4 => ∃ acc, H4 D = some (.lst acc) ∧ acc.length < sizeLine ∧ Nx (upd H4 D (.lst (acc ++ [y]))) else Nx H3) := by
  refine ⟨fun i m H => m = n - i ∧ i ≤ n ∧ Pv i H, ⟨n, rfl, Nat.zero_le _, h0⟩, ?_⟩
  rintro i m H ⟨rfl, hi, p⟩
  by_cases hlt : i < n
  · exact .inr ⟨hgo i H hlt p, Pv (i + 1), fun H' p' => ⟨n - (i + 1), by omega, rfl, hlt, p'⟩, fun x H' y => hs i x H H' hlt p y⟩
  · have e : i = n := by omega
    subst e
    exact .inl ⟨hst H p, hd H p⟩
theorem for_gen {J : It} {n : Nat} {g : TG} {tb : TS} {D : Ends} {σ : L2.St} {H : Hp} (Pv : Nat → L2.St → Hp → Prop) (h0 : Pv 0 σ H) (hgo : ∀ i σ H, i < n → Pv i σ H → J.go i H) (hst : ∀ σ H, Pv n σ H → J.stop n H)
    (hs : ∀ i x σ H H', i < n → Pv i σ H → J.yld i H x H' → g x σ H' fun σ2 H2 => tb { D with nx := Pv (i + 1), ct := Pv (i + 1), bk := D.nx } σ2 H2) (hd : ∀ σ H, Pv n σ H → D.nx σ H) :
    ∃ W : Nat → Nat → L2.St → Hp → Prop, (∃ m, W 0 m σ H) ∧ ∀ i m σ H, W i m σ H →
      (J.stop i H ∧ D.nx σ H) ∨ (J.go i H ∧ ∃ N : L2.St → Hp → Prop, (∀ σ' H', N σ' H' → ∃ m', m' < m ∧ W (i + 1) m' σ' H') ∧ ∀ x H', J.yld i H x H' → g x σ H' fun σ2 H2 => tb { D with nx := N, ct := N, bk := D.nx } σ2 H2) := by
  refine ⟨fun i m σ H => m = n - i ∧ i ≤ n ∧ Pv i σ H, ⟨n, rfl, Nat.zero_le _, h0⟩, ?_⟩
  rintro i m σ H ⟨rfl, hi, p⟩
  by_cases hlt : i < n
  · exact .inr ⟨hgo i σ H hlt p, Pv (i + 1), fun σ' H' p' => ⟨n - (i + 1), by omega, rfl, hlt, p'⟩, fun x H' y => hs i x σ H H' hlt p y⟩
  · have e : i = n := by omega
    subst e
    exact .inl ⟨hst σ H p, hd σ H p⟩
theorem yes_if {σ : L2.St} {H : Hp} {A B : Hp → Prop} (h : A H) : tYes σ H (fun b H3 => if b = true then A H3 else B H3) := by
  show if true = true then A H else B H
  exact iteT h
/-! ### signs and words -/
def sgn (c : Nat) : Bool := (decide (97 ≤ c) && decide (c ≤ 104)) || (decide (65 ≤ c) && decide (c ≤ 72))
theorem sgn_iff {c : Nat} : sgn c = true ↔ (97 ≤ c ∧ c ≤ 104) ∨ (65 ≤ c ∧ c ≤ 72) := by
  unfold sgn
  simp only [Bool.or_eq_true, Bool.and_eq_true, decide_eq_true_eq]
def flipC (c : Nat) : Nat := if 97 ≤ c then c - 32 else c + 32
def Wd (x : Str) : Prop := ∀ c ∈ tl x, sgn c = true
abbrev one (c : Nat) : Str := ⟨#[c]⟩
theorem tl_one (c : Nat) : tl (one c) = [c] := rfl
theorem len_one (c : Nat) : (one c).length = 1 := rfl
theorem len_app (x y : Str) : (x ++ y).length = x.length + y.length := by
  rw [len_tl, len_tl, len_tl, tl_append, List.length_append]
theorem Wd.app {x y : Str} (hx : Wd x) (hy : Wd y) : Wd (x ++ y) := fun c hc => by
  rw [tl_append, List.mem_append] at hc
  exact hc.elim (hx c) (hy c)
theorem wd_one {c : Nat} (h : sgn c = true) : Wd (one c) := fun d hd => by
  rw [tl_one, List.mem_singleton] at hd
  rw [hd]
  exact h
theorem tl_small : (Str.ofString "abcdefgh").cps.toList = [97, 98, 99, 100, 101, 102, 103, 104] := by decide +kernel
theorem tl_great : (Str.ofString "ABCDEFGH").cps.toList = [65, 66, 67, 68, 69, 70, 71, 72] := by decide +kernel
theorem tl_signs : (Str.ofString "aAbBcCdDeEfFgGhH").cps.toList = [97, 65, 98, 66, 99, 67, 100, 68, 101, 69, 102, 70, 103, 71, 104, 72] := by decide +kernel
theorem in_small {c : Nat} : (c ∈ (Str.ofString "abcdefgh").cps.toList) ↔ (97 ≤ c ∧ c ≤ 104) := by
  rw [tl_small]
  simp only [List.mem_cons, List.not_mem_nil, or_false]
  omega
theorem in_signs {c : Nat} : (c ∈ (Str.ofString "aAbBcCdDeEfFgGhH").cps.toList) ↔ sgn c = true := by
  rw [tl_signs, sgn_iff]
  simp only [List.mem_cons, List.not_mem_nil, or_false]
  omega
theorem upper_one {c : Nat} (h : 97 ≤ c ∧ c ≤ 104) : Txt.upper (one c) = one (c - 32) := by
  have : c = 97 ∨ c = 98 ∨ c = 99 ∨ c = 100 ∨ c = 101 ∨ c = 102 ∨ c = 103 ∨ c = 104 := by omega
  rcases this with rfl | rfl | rfl | rfl | rfl | rfl | rfl | rfl <;> decide +kernel
theorem lower_one {c : Nat} (h : 65 ≤ c ∧ c ≤ 72) : Txt.lower (one c) = one (c + 32) := by
  have : c = 65 ∨ c = 66 ∨ c = 67 ∨ c = 68 ∨ c = 69 ∨ c = 70 ∨ c = 71 ∨ c = 72 := by omega
  rcases this with rfl | rfl | rfl | rfl | rfl | rfl | rfl | rfl <;> decide +kernel
theorem flip_sgn {c : Nat} (h : sgn c = true) : sgn (flipC c) = true := by
  rw [sgn_iff] at h ⊢
  unfold flipC
  split <;> omega
theorem at_small {e : Int} (h0 : 0 ≤ e) (h1 : e < 8) : atI (Str.ofString "abcdefgh").cps.toList e = some (97 + e.toNat) := by
  have : e = 0 ∨ e = 1 ∨ e = 2 ∨ e = 3 ∨ e = 4 ∨ e = 5 ∨ e = 6 ∨ e = 7 := by omega
  rw [tl_small]
  rcases this with rfl | rfl | rfl | rfl | rfl | rfl | rfl | rfl <;> rfl
theorem at_great {e : Int} (h0 : 0 ≤ e) (h1 : e < 8) : atI (Str.ofString "ABCDEFGH").cps.toList e = some (65 + e.toNat) := by
  have : e = 0 ∨ e = 1 ∨ e = 2 ∨ e = 3 ∨ e = 4 ∨ e = 5 ∨ e = 6 ∨ e = 7 := by omega
  rw [tl_great]
  rcases this with rfl | rfl | rfl | rfl | rfl | rfl | rfl | rfl <;> rfl
theorem at_end {x : List Nat} (h : x ≠ []) : ∃ c, atI x (-1) = some c ∧ c ∈ x := by
  refine ⟨x.getLast h, ?_, List.getLast_mem h⟩
  have e := atI_last x.dropLast (x.getLast h)
  rw [List.dropLast_concat_getLast h] at e
  exact e
theorem str_ne {x : Str} (h : ¬ V.str x = V.str "") : tl x ≠ [] := fun e => h (by
  have : x = "" := ext_tl (by rw [e]; decide +kernel)
  rw [this])
theorem wd_nil : Wd "" := fun c hc => by
  have e : tl "" = [] := by decide +kernel
  rw [e] at hc
  cases hc
/-! ### two values of the same data -/
def flat4 : V → Bool
  | .non => true
  | .bl _ => true
  | .int _ => true
  | .str _ => true
  | _ => false
def Eqv (H : Hp) : Nat → V → V → Prop
  | 0, x, y => flat4 x = true ∧ x = y
  | n + 1, x, y => (flat4 x = true ∧ x = y) ∨ ∃ (p q : Addr) (xs ys : List V), x = .ref p ∧ y = .ref q ∧ ((H p = some (.lst xs) ∧ H q = some (.lst ys)) ∨ (H p = some (.tup xs) ∧ H q = some (.tup ys))) ∧
      xs.length = ys.length ∧ xs.length ≤ 100000 ∧ ∀ (i : Nat) (x y : V), xs[i]? = some x → ys[i]? = some y → Eqv H n x y
theorem Eqv.same {H H' : Hp} (s : Same H H') : ∀ {n : Nat} {x y : V}, Eqv H n x y → Eqv H' n x y
  | 0, _, _, h => h
  | _ + 1, _, _, .inl h => .inl h
  | _ + 1, _, _, .inr ⟨p, q, xs, ys, ex, ey, hp, hl, hz, k⟩ => .inr ⟨p, q, xs, ys, ex, ey, hp.elim (fun h => .inl ⟨s _ _ h.1, s _ _ h.2⟩) (fun h => .inr ⟨s _ _ h.1, s _ _ h.2⟩), hl, hz, fun i x y hx hy => Eqv.same s (k i x y hx hy)⟩
theorem Eqv.flat {H : Hp} {n : Nat} {x : V} (h : flat4 x = true) : Eqv H n x x := by
  cases n with
  | zero => exact ⟨h, rfl⟩
  | succ n => exact .inl ⟨h, rfl⟩
theorem flat_kit {K : PySem.W.Frag} {H : Hp} {x : V} (h : flat4 x = true) : ∃ (T : String) (b1 b2 b3 : Bool), TyX K H x (.type T) ∧ kitB T "list" = some false ∧ kitB T "tuple" = some false ∧ kitB T "bool" = some b1 ∧ kitB T "int" = some b2 ∧ kitB T "str" = some b3 := by
  cases x with
  | non => exact ⟨"NoneType", false, false, false, .base .non, by decide +kernel, by decide +kernel, by decide +kernel, by decide +kernel, by decide +kernel⟩
  | bl b => exact ⟨"bool", true, true, false, .base (.bl b), by decide +kernel, by decide +kernel, by decide +kernel, by decide +kernel, by decide +kernel⟩
  | int b => exact ⟨"int", false, true, false, .base (.int b), by decide +kernel, by decide +kernel, by decide +kernel, by decide +kernel, by decide +kernel⟩
  | str b => exact ⟨"str", false, false, true, .base (.str b), by decide +kernel, by decide +kernel, by decide +kernel, by decide +kernel, by decide +kernel⟩
  | byt b => cases h
  | flt b => cases h
  | ref b => cases h
  | ty b => cases h
theorem TyX.same {K : PySem.W.Frag} {H H' : Hp} {x : V} {T : String} (s : Same H H') (f : flat4 x = true) (h : TyX K H x (.type T)) : TyX K H' x (.type T) := by
  cases x with
  | non => cases h with | base h => cases h with | non => exact .base .non
  | bl b => cases h with | base h => cases h with | bl => exact .base (.bl b)
  | int b => cases h with | base h => cases h with | int => exact .base (.int b)
  | str b => cases h with | base h => cases h with | str => exact .base (.str b)
  | byt b => cases f
  | flt b => cases f
  | ref b => cases f
  | ty b => cases f
theorem kit2 {K : PySem.W.Frag} {T : String} (h1 : kitB T "list" = some false) (h2 : kitB T "tuple" = some false) : PySem.W.kitAny K (.type T) [.type "list", .type "tuple"] = some false :=
  kitAny_cons (kit_ty h1) (fun _ => kitAny_cons (kit_ty h2) (fun _ => kitAny_nil) (fun q => nomatch q)) (fun q => nomatch q)
theorem scal_flat {x : V} (h : flat4 x = true) : scal x x = true := by
  cases x <;> first | rfl | cases h
theorem ne_bl (b : Bool) : (!decide (V.bl b = V.bl b)) = false := by simp
end Sf
namespace Sf
open PySem PySem.Spec PyProof.Rows L2 TL
/-! ### blocks by what holds ahead and behind -/
def Stp {ι : Type} (X : Cx) (st : Stmt) (pre post : ι → L2.St → Hp → Prop) : Prop := ∃ t, PS X st t ∧ ∀ (i : ι) (D : Ends) (σ : L2.St) (H : Hp), pre i σ H → (∀ σ' H', post i σ' H' → D.nx σ' H') → t D σ H
def Blk {ι : Type} (X : Cx) (sts : List Stmt) (pre post : ι → L2.St → Hp → Prop) : Prop := ∃ t, PSs X sts t ∧ ∀ (i : ι) (D : Ends) (σ : L2.St) (H : Hp), pre i σ H → (∀ σ' H', post i σ' H' → D.nx σ' H') → t D σ H
theorem Blk.cons {ι : Type} {X : Cx} {st : Stmt} {rest : List Stmt} {pre post : ι → L2.St → Hp → Prop} (mid : ι → L2.St → Hp → Prop) (a : Stp X st pre mid) (b : Blk X rest mid post) : Blk X (st :: rest) pre post := by
  obtain ⟨t, ht, h⟩ := a
  obtain ⟨u, hu, k⟩ := b
  exact ⟨tSeq t u, pss_cons ht hu, fun i D σ H hp hq => h i _ σ H hp fun σ' H' hm => k i D σ' H' hm hq⟩
theorem Blk.one {ι : Type} {X : Cx} {st : Stmt} {pre post : ι → L2.St → Hp → Prop} (a : Stp X st pre post) : Blk X [st] pre post := by
  obtain ⟨t, ht, h⟩ := a
  exact ⟨t, pss_one ht, h⟩
/-- the same within a block -/
theorem Stp.rng {ι : Type} {X : Cx} {tg iter : Expr} {body : List Stmt} {pos : Pos} {wi : TI} {k : Nat} {pre post : ι → L2.St → Hp → Prop} (Pv : ι → Nat → Nat → L2.St → Hp → Prop) (hp : PassesOwn (model X.prog X.w) X.A X.env X.xe) (hc : X.calm = true) (hi : PI X tg iter wi) (hg : PG X tg (gName k))
    (hk : ∀ (j : ι) (σ : L2.St) (H : Hp) (R : It → Hp → Prop), pre j σ H → (∀ n H1, Pv j n 0 σ H1 → R (Itr 0 n) H1) → wi σ H R)
    (hb : Blk (ι := ι × Nat × Nat) X body (fun i σ H => i.2.2 < i.2.1 ∧ ∃ σ0, Pv i.1 i.2.1 i.2.2 σ0 H ∧ σ = σ0.set k (some (.int (0 + (i.2.2 : Int))))) (fun i σ H => Pv i.1 i.2.1 (i.2.2 + 1) σ H))
    (hr : ∀ j n σ H, Pv j n n σ H → post j σ H) (hs : ∀ x, foldedSetIterable iter X.env x = pure x := by intro _; rfl) : Stp X (.For tg iter body [] pos) pre post := by
  obtain ⟨tb, hb, kb⟩ := hb
  refine ⟨_, ps_for hp hc hi hg hb hs, fun j D σ H h0 hq => ?_⟩
  refine hk j σ H _ h0 fun n H1 h0 => ?_
  exact for_range (lo := 0) (n := n) (Pv j n) h0 (fun i σ1 H2 hlt hv => kb (j, n, i) _ _ _ ⟨hlt, σ1, hv, rfl⟩ fun σ' H' h => h) (fun σ1 H2 hv => hq σ1 H2 (hr j n σ1 H2 hv))
/-- the rest of a def's body -/
def Tl (X : Cx) (sts : List Stmt) (D : Ends) (J : L2.St → Hp → Prop) : Prop := ∃ u, PSs X sts u ∧ ∀ σ H, J σ H → u D σ H
theorem Tl.start {X : Cx} {sts : List Stmt} {D : Ends} {σ : L2.St} {H : Hp} (h : Tl X sts D (fun σ' H' => σ' = σ ∧ H' = H)) : ∃ t, PSs X sts t ∧ t D σ H := by
  obtain ⟨u, hu, k⟩ := h
  exact ⟨u, hu, k σ H ⟨rfl, rfl⟩⟩
theorem Tl.cons {X : Cx} {st : Stmt} {rest : List Stmt} {D : Ends} {J : L2.St → Hp → Prop} (mid : L2.St → Hp → Prop) (a : Stp (ι := Unit) X st (fun _ => J) (fun _ => mid)) (b : Tl X rest D mid) : Tl X (st :: rest) D J := by
  obtain ⟨t, ht, h⟩ := a
  obtain ⟨u, hu, k⟩ := b
  exact ⟨tSeq t u, pss_cons ht hu, fun σ H hj => h () _ σ H hj k⟩
end Sf
namespace Sf
open PySem PySem.Spec PyProof.Rows L2 TL
section
variable {P : Program} {w : World} {K : PySem.W.Frag} {mg : Str → Option Value} {base : Heap}
/-! ### _law_pull: some number below many -/
def spPull : Sp := fun vs H Q _ => ∃ (b : Addr) (n : Int), vs = [.ref b, .int n] ∧ Bag H b ∧ 0 < n ∧ n < 1073741824 ∧
  ∀ (d : Int) (H' : Hp), 0 ≤ d → d < n → Bag H' b → Fx b H H' → Q (.int d) H'
theorem sc_pull : FnScope ["_law_bag", "_law_many", "_law_cell", "_law_digit"] ["_law_bag", "_law_many"] (defScope s__law_pull) := ⟨rfl, rfl, rfl, by decide +kernel, rfl, by decide +kernel, by decide +kernel⟩
theorem ok_pull {f : Addr} {fd : FuncData} {j : Nat} (F : Fun K "_law_pull" "_law_pull" s__law_pull f fd) (ml : mg "len" = none) : FnOk P w K mg base CX0 (j + 1) f fd ["_law_bag", "_law_many"] spPull := by
  refine F.ok sc_pull (fun vs H Q E h => ?_) (fun cdv A outer s H vs Q E hr h => ?_)
  · obtain ⟨b, n, rfl, _⟩ := h
    rfl
  · obtain ⟨b, n, rfl, ⟨l, ns, k, z, r, hB⟩, hn0, hn1, q⟩ := h
    refine seq_by (fun σ H1 => ∃ (y2 : Option V) (k z r : Int), σ = [some (.ref b), some (.int n), y2, none] ∧ BagL H1 b l ns k z r ∧ Fx b H H1) ?_ ?_
    · refine ⟨_, pss_cons (ps_if (pt_cmpR op_gt (pe_ix ix_list (pv 0) pe_int (fun _ _ => rfl)) pe_int (nomark _))
          (pss_cons (ps_set (i := 3) sc_pull.nd rfl (.inl rfl) (pe_op op_mod (pe_ix ix_list (pv 0) pe_int (fun _ _ => rfl)) (pv 1)))
          (pss_cons (ps_asg (pe_op op_fdiv (pe_ix ix_list (pv 0) pe_int (fun _ _ => rfl)) (pv 1)) (pg_sub (pv 0) pe_int set_list))
          (pss_one (ps_ret (pv 3))))) pss_nil)
        (pss_cons (ps_asg (pe_op op_mod (pe_op op_add (pe_op op_add (pe_op op_mul (pe_op op_mod (pe_op op_mul (pe_ix ix_list (pv 0) pe_int (fun _ _ => rfl)) (pe_ix ix_list (pv 0) pe_int (fun _ _ => rfl))) pe_int) pe_int)
            (pe_op op_mul (pe_ix ix_list (pv 0) pe_int (fun _ _ => rfl)) pe_int)) pe_int) pe_int) (pg_sub (pv 0) pe_int set_list))
        (pss_one (ps_ret (pe_op op_mod (pe_op op_add (pe_op op_fdiv (pe_ix ix_list (pv 0) pe_int (fun _ _ => rfl)) pe_int) (pe_op op_mul (pe_op op_mod (pe_ix ix_list (pv 0) pe_int (fun _ _ => rfl)) pe_int) pe_int)) (pv 1))))), ?_⟩
      rintro σ H1 ⟨y2, k, z, r, rfl, B, fx⟩
      have hS := SqL.of (K := K) B.hb
      have rr0 := B.r0
      have rr1 := B.r1
      have zz0 := B.z0
      refine ⟨_, rfl, b, _, 2, _, rfl, rfl, hS, at_of (j := 2) rfl rfl, z, 0, rfl, rfl, _, rfl, ite2 (fun e => ?_) (fun e => ?_)⟩
      · have zp : 0 < z := of_decide_eq_true e
        refine ⟨_, rfl, b, _, 2, _, rfl, rfl, hS, at_of (j := 2) rfl rfl, _, rfl, z, n, rfl, rfl, hn0, ?_⟩
        refine ⟨_, rfl, b, _, 2, _, rfl, rfl, hS, at_of (j := 2) rfl rfl, _, rfl, z, n, rfl, rfl, ⟨hn0, hn1⟩, ?_⟩
        refine ⟨_, rfl, b, _, 2, 2, rfl, rfl, B.hb, rfl, ?_⟩
        refine ⟨_, rfl, ?_⟩
        refine q _ _ (Int.emod_nonneg _ (by omega)) (Int.emod_lt_of_pos _ hn0) ⟨l, ns, k, z / n, r, B.set B.k0 (Int.ediv_nonneg B.z0 (by omega)) B.r0 B.r1⟩ fx.upd
      · refine ⟨_, rfl, b, _, 3, _, rfl, rfl, hS, at_of (j := 3) rfl rfl, _, rfl, b, _, 3, _, rfl, rfl, hS, at_of (j := 3) rfl rfl, r, r, rfl, rfl, .inl ⟨by omega, by omega⟩,
          _, 2147483629, rfl, rfl, (by show (0 : Int) < 2147483629; decide), _, 5, rfl, rfl, .inr ⟨by decide, by decide⟩,
          _, rfl, b, _, 3, _, rfl, rfl, hS, at_of (j := 3) rfl rfl, r, 16807, rfl, rfl, .inr ⟨by decide, by decide⟩, _, _, rfl, rfl, _, 2531011, rfl, rfl, _, 2147483647, rfl, rfl, (by show (0 : Int) < 2147483647; decide), ?_⟩
        refine ⟨_, rfl, b, _, 3, 3, rfl, rfl, B.hb, rfl, ?_⟩
        have h0 : 0 ≤ (r * r % 2147483629 * 5 + r * 16807 + 2531011) % 2147483647 := Int.emod_nonneg _ (by decide)
        have h1 : (r * r % 2147483629 * 5 + r * 16807 + 2531011) % 2147483647 < 2147483647 := Int.emod_lt_of_pos _ (by decide)
        have B' : BagL (upd H1 b (.lst [.ref l, .int k, .int z, .int ((r * r % 2147483629 * 5 + r * 16807 + 2531011) % 2147483647)])) b l ns k z ((r * r % 2147483629 * 5 + r * 16807 + 2531011) % 2147483647) := B.set B.k0 B.z0 h0 h1
        have hS' := SqL.of (K := K) B'.hb
        refine ⟨_, rfl, b, _, 3, _, rfl, rfl, hS', at_of (j := 3) rfl rfl, _, 61, rfl, rfl, ⟨by decide, by decide⟩,
          _, rfl, b, _, 3, _, rfl, rfl, hS', at_of (j := 3) rfl rfl, _, 8191, rfl, rfl, (by show (0 : Int) < 8191; decide), _, 31, rfl, rfl, .inr ⟨by decide, by decide⟩, _, _, rfl, rfl, _, rfl, _, n, rfl, rfl, hn0, ?_⟩
        exact q _ _ (Int.emod_nonneg _ (by omega)) (Int.emod_lt_of_pos _ hn0) ⟨l, ns, k, z, _, B'⟩ fx.upd
    · intro u hu
      have hS := SqL.of (K := K) hB.hb
      have hS2 := SqL.of (K := K) hB.hl
      have rr0 := hB.r0
      have rr1 := hB.r1
      have zz0 := hB.z0
      have kk0 := hB.k0
      refine ⟨_, ps_if (PW.pt (pw_and (pt_cmpR op_eq (pe_ix ix_list (pv 0) pe_int (fun _ _ => rfl)) pe_int (nomark _))
            (pw_and1 (pt_cmpR op_lt (pe_ix ix_list (pv 0) pe_int (fun _ _ => rfl)) (pe_callB call_len_seq (by rfl) ml PySem.boot_len (pa_cons (pe_ix ix_list (pv 0) pe_int (fun _ _ => rfl)) pa_nil)) (nomark _)))))
          (pss_cons (ps_set (i := 2) sc_pull.nd rfl (.inl rfl) (pe_ix ix_list (pe_ix ix_list (pv 0) pe_int (fun _ _ => rfl)) (pe_ix ix_list (pv 0) pe_int (fun _ _ => rfl)) (fun _ _ => rfl)))
          (pss_cons (ps_asg (pe_op op_add (pe_ix ix_list (pv 0) pe_int (fun _ _ => rfl)) pe_int) (pg_sub (pv 0) pe_int set_list))
          (pss_one (ps_if (pt_cmpR op_ge (pv 2) (pe_op op_pow pe_int pe_int) (nomark _))
            (pss_one (ps_asg (pv 2) (pg_sub (pv 0) pe_int set_list)))
            (pss_one (ps_asg (pe_op op_mod (pe_op op_add (pe_op op_add (pe_op op_mul (pe_ix ix_list (pv 0) pe_int (fun _ _ => rfl)) pe_int) (pe_op op_mul (pe_op op_mod (pv 2) pe_int) pe_int)) pe_int) pe_int) (pg_sub (pv 0) pe_int set_list)))))))
          pss_nil, ?_⟩
      refine ⟨_, rfl, b, _, 2, _, rfl, rfl, hS, at_of (j := 2) rfl rfl, rfl, _, rfl, ite2 (fun e => ?_) (fun e => ?_)⟩
      · refine ⟨_, rfl, b, _, 1, _, rfl, rfl, hS, at_of (j := 1) rfl rfl, _, rfl, b, _, 0, _, rfl, rfl, hS, at_of (j := 0) rfl rfl, l, _, rfl, .inl hS2, k, _, rfl, rfl, _, rfl, ite2 (fun e2 => ?_) (fun e2 => ?_)⟩
        · obtain ⟨v, hv⟩ := int_at (ns := ns) kk0 (of_decide_eq_true e2)
          refine ⟨_, rfl, b, _, 0, _, rfl, rfl, hS, at_of (j := 0) rfl rfl, _, rfl, b, _, 1, _, rfl, rfl, hS, at_of (j := 1) rfl rfl, l, _, k, _, rfl, rfl, hS2, hv, ?_⟩
          refine ⟨_, rfl, b, _, 1, _, rfl, rfl, hS, at_of (j := 1) rfl rfl, k, 1, rfl, rfl, _, rfl, b, _, 1, 1, rfl, rfl, hB.hb, rfl, ?_⟩
          have B' : BagL (upd H b (.lst [.ref l, .int (k + 1), .int z, .int r])) b l ns (k + 1) z r := hB.set (by omega) zz0 rr0 rr1
          have hS' := SqL.of (K := K) B'.hb
          refine ⟨_, rfl, 10, 18, rfl, rfl, ⟨by decide, by decide, by decide⟩, v, _, rfl, rfl, _, rfl, ite2 (fun e3 => ?_) (fun e3 => ?_)⟩
          · have hv0 : 0 ≤ v := by
              have := of_decide_eq_true e3
              have h18 : (10 : Int) ^ (18 : Int).toNat = 1000000000000000000 := by decide +kernel
              rw [h18] at this
              omega
            refine ⟨_, rfl, _, rfl, b, _, 2, 2, rfl, rfl, B'.hb, rfl, ?_⟩
            exact hu _ _ ⟨some (.int v), k + 1, v, r, rfl, B'.set B'.k0 hv0 rr0 rr1, Fx.refl.upd.upd⟩
          · refine ⟨_, rfl, b, _, 3, _, rfl, rfl, hS', at_of (j := 3) rfl rfl, r, 48271, rfl, rfl, .inr ⟨by decide, by decide⟩, _, rfl, v, 2147483629, rfl, rfl, (by show (0 : Int) < 2147483629; decide), _, 69621, rfl, rfl, .inr ⟨by decide, by decide⟩,
              _, _, rfl, rfl, _, 12345, rfl, rfl, _, 2147483647, rfl, rfl, (by show (0 : Int) < 2147483647; decide), ?_⟩
            refine ⟨_, rfl, b, _, 3, 3, rfl, rfl, B'.hb, rfl, ?_⟩
            exact hu _ _ ⟨some (.int v), k + 1, z, _, rfl, B'.set B'.k0 B'.z0 (Int.emod_nonneg _ (by decide)) (Int.emod_lt_of_pos _ (by decide)), Fx.refl.upd.upd⟩
        · exact hu _ _ ⟨none, k, z, r, rfl, hB, .refl⟩
      · exact iteF (hu _ _ ⟨none, k, z, r, rfl, hB, .refl⟩)
end
end Sf
namespace Sf
open PySem PySem.Spec PyProof.Rows L2 TL
section
variable {P : Program} {w : World} {K : PySem.W.Frag} {mg : Str → Option Value} {base : Heap}
abbrev HasPull (P : Program) (w : World) (K : PySem.W.Frag) (mg : Str → Option Value) (base : Heap) : Prop := Has P w K mg base 1 "_law_pull" ["_law_bag", "_law_many"] spPull
theorem has_pull (F : FnAt K mg "_law_pull" s__law_pull ["_law_bag", "_law_many"]) (B : Blt mg) : HasPull P w K mg base := F.has fun F => ok_pull F B.len
/-! ### _law_flip -/
def spFlip : Sp := fun vs H Q _ => ∃ c : Nat, vs = [.str (one c)] ∧ sgn c = true ∧ Q (.str (one (flipC c))) H
abbrev HasFlip (P : Program) (w : World) (K : PySem.W.Frag) (mg : Str → Option Value) (base : Heap) : Prop := Has P w K mg base 1 "_law_flip" ["_law_sign_here"] spFlip
theorem sc_flip : FnScope ["_law_sign_here"] ["_law_sign_here"] (defScope s__law_flip) := ⟨rfl, rfl, rfl, by decide +kernel, rfl, by decide +kernel, by decide +kernel⟩
theorem has_flip (F : FnAt K mg "_law_flip" s__law_flip ["_law_sign_here"]) : HasFlip P w K mg base := F.has fun F => by
  refine F.ok sc_flip (fun vs H Q E h => ?_) (fun cdv A outer s H vs Q E hr h => ?_)
  · obtain ⟨c, rfl, _⟩ := h
    rfl
  · obtain ⟨c, rfl, hc, q⟩ := h
    refine ⟨_, pss_one (ps_ret (pe_ifExp (pt_cmpR op_in_sign (pv 0) pe_str rfl) (pe_upper (pv 0)) (pe_lower (pv 0)))), ?_⟩
    refine ⟨_, rfl, c, _, rfl, rfl, _, rfl, ite2 (fun e => ?_) (fun e => ?_)⟩
    · have h := in_small.mp (of_decide_eq_true e)
      refine ⟨_, rfl, ⟨_, rfl⟩, _, rfl, rfl, by rw [len_one]; decide, ?_⟩
      rw [upper_one h]
      rw [flipC, if_pos h.1] at q
      exact q
    · have h : ¬ (97 ≤ c ∧ c ≤ 104) := fun z => e (decide_eq_true (in_small.mpr z))
      rw [sgn_iff] at hc
      refine ⟨_, rfl, ⟨_, rfl⟩, _, rfl, rfl, by rw [len_one]; decide, ?_⟩
      rw [lower_one (by omega)]
      rw [flipC, if_neg (by omega)] at q
      exact q
/-! ### _law_sign -/
def spSign : Sp := fun vs H Q _ => ∃ (b : Addr) (n : Int), vs = [.ref b, .int n] ∧ Bag H b ∧ 0 < n ∧ n ≤ 8 ∧
  ∀ (c : Nat) (H' : Hp), sgn c = true → Bag H' b → Fx b H H' → Q (.str (one c)) H'
abbrev HasSign (P : Program) (w : World) (K : PySem.W.Frag) (mg : Str → Option Value) (base : Heap) : Prop := Has P w K mg base 2 "_law_sign" ["_law_bag", "_law_many"] spSign
theorem sc_sign : FnScope ["_law_bag", "_law_many"] ["_law_bag", "_law_many"] (defScope s__law_sign) := ⟨rfl, rfl, rfl, by decide +kernel, rfl, by decide +kernel, by decide +kernel⟩
theorem has_sign (F : FnAt K mg "_law_sign" s__law_sign ["_law_bag", "_law_many"]) (hP : HasPull P w K mg base) : HasSign P w K mg base := F.has fun F => by
  obtain ⟨fP, fdP, gP, kP, bP, GP⟩ := hP
  refine F.ok sc_sign (fun vs H Q E h => ?_) (fun cdv A outer s H vs Q E hr h => ?_)
  · obtain ⟨b, n, rfl, _⟩ := h
    rfl
  · obtain ⟨b, n, rfl, hB, hn0, hn1, q⟩ := h
    refine ⟨_, pss_one (ps_ret (pe_ix ix_str (pe_ix ix_list (pe_lst (pa_cons pe_str (pa_cons pe_str pa_nil))) (pe_call GP hr (by rfl) gP kP bP .nil pass0 (pa_cons (pv 0) (pa_cons pe_int pa_nil))) (fun _ _ => rfl))
      (pe_call GP hr (by rfl) gP kP bP .nil pass0 (pa_cons (pv 0) (pa_cons (pv 1) pa_nil))) (fun _ _ => rfl))), ?_⟩
    refine ⟨by decide, fun p np => ?_⟩
    refine ⟨_, rfl, b, 2, rfl, hB.new np, by decide, by decide, fun d H1 d0 d1 B1 f1 => ?_⟩
    have hp : H1 p = some (.lst [.str "abcdefgh", .str "ABCDEFGH"]) := f1 _ _ upd_same (hB.ne np)
    have hd : d = 0 ∨ d = 1 := by omega
    rcases hd with rfl | rfl
    · refine ⟨p, _, 0, _, rfl, rfl, SqL.of hp, at_of (j := 0) rfl rfl, ?_⟩
      refine ⟨_, rfl, _, rfl, b, n, rfl, B1, hn0, by omega, fun e H2 e0 e1 B2 f2 => ?_⟩
      refine ⟨_, e, _, rfl, rfl, (by decide +kernel), at_small e0 (by omega), ?_⟩
      exact q _ _ (sgn_iff.mpr (by omega)) B2 ((Fx.new .refl np).trans (f1.trans f2))
    · refine ⟨p, _, 1, _, rfl, rfl, SqL.of hp, at_of (j := 1) rfl rfl, ?_⟩
      refine ⟨_, rfl, _, rfl, b, n, rfl, B1, hn0, by omega, fun e H2 e0 e1 B2 f2 => ?_⟩
      refine ⟨_, e, _, rfl, rfl, (by decide +kernel), at_great e0 (by omega), ?_⟩
      exact q _ _ (sgn_iff.mpr (by omega)) B2 ((Fx.new .refl np).trans (f1.trans f2))
/-! ### _law_word -/
def spWord : Sp := fun vs H Q _ => ∃ (b : Addr) (u n : Int), vs = [.ref b, .int u, .int n] ∧ Bag H b ∧ 0 ≤ u ∧ u ≤ 1000 ∧ 0 < n ∧ n ≤ 8 ∧
  ∀ (x : Str) (H' : Hp), Wd x → x.length ≤ u.toNat → Bag H' b → Fx b H H' → Q (.str x) H'
abbrev HasWord (P : Program) (w : World) (K : PySem.W.Frag) (mg : Str → Option Value) (base : Heap) : Prop := Has P w K mg base 3 "_law_word" ["_law_bag", "_law_upto", "_law_many"] spWord
theorem sc_word : FnScope ["_law_bag", "_law_upto", "_law_many", "_law_found", "_law_turn", "_law_sign_here"] ["_law_bag", "_law_upto", "_law_many"] (defScope s__law_word) := ⟨rfl, rfl, rfl, by decide +kernel, rfl, by decide +kernel, by decide +kernel⟩
theorem has_word (F : FnAt K mg "_law_word" s__law_word ["_law_bag", "_law_upto", "_law_many"]) (B : Blt mg) (hP : HasPull P w K mg base) (hS : HasSign P w K mg base) (hF : HasFlip P w K mg base) : HasWord P w K mg base := F.has fun F => by
  obtain ⟨fP, fdP, gP, kP, bP, GP⟩ := hP
  obtain ⟨fS, fdS, gS, kS, bS, GS⟩ := hS
  obtain ⟨fF, fdF, gF, kF, bF, GF⟩ := hF
  refine F.ok sc_word (fun vs H Q E h => ?_) (fun cdv A outer s H vs Q E hr h => ?_)
  · obtain ⟨b, u, n, rfl, _⟩ := h
    rfl
  · obtain ⟨b, u, n, rfl, hB, hu0, hu1, hn0, hn1, q⟩ := h
    have hr1 : Room 1 _ := hr.mono (by decide)
    refine ⟨_, pss_cons (ps_set (i := 3) sc_word.nd rfl (.inl rfl) pe_str)
      (pss_cons (ps_for PassesOwn.never rfl (pi_range1 rfl B.range (pa_cons (pe_call GP hr1 (by rfl) gP kP bP .nil pass0 (pa_cons (pv 0) (pa_cons (pe_op op_add (pv 1) pe_int) pa_nil))) pa_nil)) (pg_name (i := 4) sc_word.nd rfl (.inl rfl))
        (pss_cons (ps_set (i := 5) sc_word.nd rfl (.inl rfl) (pe_call GS hr (by rfl) gS kS bS .nil pass0 (pa_cons (pv 0) (pa_cons (pv 2) pa_nil))))
        (pss_cons (ps_if (PW.pt (pw_and (pt_cmpR op_ne (pv 3) pe_str (nomark _)) (pw_and1 (pt_cmpR op_eq (pe_call GP hr1 (by rfl) gP kP bP .nil pass0 (pa_cons (pv 0) (pa_cons pe_int pa_nil))) pe_int (nomark _)))))
          (pss_one (ps_set (i := 5) sc_word.nd rfl (.inl rfl) (pe_call GF hr1 (by rfl) gF kF bF .nil pass0 (pa_cons (pe_ix ix_str (pv 3) (pe_un un_neg pe_int) (fun _ _ => rfl)) pa_nil)))) pss_nil)
        (pss_one (ps_set (i := 3) sc_word.nd rfl (.inl rfl) (pe_op op_add_str (pv 3) (pv 5)))))))
      (pss_one (ps_ret (pv 3)))), ?_⟩
    refine ⟨_, rfl, _, rfl, u, 1, rfl, rfl, b, u + 1, rfl, hB, by omega, by omega, fun d H1 d0 d1 B1 f1 => ?_⟩
    refine ⟨d, rfl, by omega, by omega, for_range (lo := 0) (n := d.toNat) (fun i σ H2 => ∃ (x : Str) (y4 y5 : Option V), σ = [some (.ref b), some (.int u), some (.int n), some (.str x), y4, y5] ∧ Wd x ∧ x.length ≤ i ∧ Bag H2 b ∧ Fx b H H2)
      ⟨"", none, none, rfl, wd_nil, (by decide +kernel), B1, f1⟩ ?_ ?_⟩
    · rintro i σ H2 hi ⟨x, y4, y5, rfl, hx, hlen, B2, f2⟩
      have hsz : x.length + 1 ≤ sizeLine := Nat.le_trans (Nat.add_le_add_right (Nat.le_trans hlen (by omega : i ≤ 1000)) 1) (by decide)
      refine ⟨_, rfl, _, rfl, b, n, rfl, B2, hn0, hn1, fun c H3 hc B3 f3 => ?_⟩
      have fin : ∀ (c : Nat) (H4 : Hp), sgn c = true → Bag H4 b → Fx b H H4 → ∃ (x' : Str) (y4 y5 : Option V), [some (V.ref b), some (.int u), some (.int n), some (.str (x ++ one c)), some (.int (0 + i)), some (.str (one c))] = [some (.ref b), some (.int u), some (.int n), some (.str x'), y4, y5] ∧ Wd x' ∧ x'.length ≤ i + 1 ∧ Bag H4 b ∧ Fx b H H4 :=
        fun c H4 hc B4 f4 => ⟨_, _, _, rfl, hx.app (wd_one hc), by rw [len_app, len_one]; omega, B4, f4⟩
      refine ⟨_, rfl, rfl, _, rfl, ite2 (fun e => ?_) (fun e => ?_)⟩
      · refine ⟨_, rfl, b, 4, rfl, B3, by decide, by decide, fun d2 H4 _ _ B4 f4 => ?_⟩
        refine ⟨rfl, _, rfl, ite2 (fun e2 => ?_) (fun e2 => ?_)⟩
        · have hne : tl x ≠ [] := str_ne fun z => by
            rw [z] at e
            simp at e
          obtain ⟨c2, hc2, hm⟩ := at_end hne
          refine ⟨_, rfl, 1, rfl, x, _, c2, rfl, rfl, by omega, hc2, c2, rfl, hx c2 hm, ?_⟩
          exact ⟨_, rfl, _, rfl, x, _, rfl, rfl, hsz, fin _ _ (flip_sgn (hx c2 hm)) B4 (f2.trans (f3.trans f4))⟩
        · exact ⟨_, rfl, _, rfl, x, _, rfl, rfl, hsz, fin _ _ hc B4 (f2.trans (f3.trans f4))⟩
      · exact iteF ⟨_, rfl, _, rfl, x, _, rfl, rfl, hsz, fin _ _ hc B3 (f2.trans f3)⟩
    · rintro σ H2 ⟨x, y4, y5, rfl, hx, hlen, B2, f2⟩
      exact ⟨_, rfl, q x H2 hx (by omega) B2 f2⟩
/-! ### _law_any_word -/
def spAny : Sp := fun vs H Q _ => ∃ (b : Addr) (u : Int), vs = [.ref b, .int u] ∧ Bag H b ∧ 0 ≤ u ∧ u ≤ 1000 ∧
  ∀ (x : Str) (H' : Hp), Wd x → x.length ≤ u.toNat → Bag H' b → Fx b H H' → Q (.str x) H'
abbrev HasAny (P : Program) (w : World) (K : PySem.W.Frag) (mg : Str → Option Value) (base : Heap) : Prop := Has P w K mg base 4 "_law_any_word" ["_law_bag", "_law_upto"] spAny
theorem sc_any : FnScope ["_law_bag", "_law_upto"] ["_law_bag", "_law_upto"] (defScope s__law_any_word) := ⟨rfl, rfl, rfl, by decide +kernel, rfl, by decide +kernel, by decide +kernel⟩
theorem has_any (F : FnAt K mg "_law_any_word" s__law_any_word ["_law_bag", "_law_upto"]) (hP : HasPull P w K mg base) (hW : HasWord P w K mg base) : HasAny P w K mg base := F.has fun F => by
  obtain ⟨fP, fdP, gP, kP, bP, GP⟩ := hP
  obtain ⟨fW, fdW, gW, kW, bW, GW⟩ := hW
  refine F.ok sc_any (fun vs H Q E h => ?_) (fun cdv A outer s H vs Q E hr h => ?_)
  · obtain ⟨b, u, rfl, _⟩ := h
    rfl
  · obtain ⟨b, u, rfl, hB, hu0, hu1, q⟩ := h
    refine ⟨_, pss_one (ps_ret (pe_call GW hr (by rfl) gW kW bW .nil pass0 (pa_cons (pv 0) (pa_cons (pv 1) (pa_cons (pe_ix ix_list (pe_lst (pa_cons pe_int (pa_cons pe_int (pa_cons pe_int (pa_cons pe_int pa_nil)))))
      (pe_call GP (hr.mono (by decide)) (by rfl) gP kP bP .nil pass0 (pa_cons (pv 0) (pa_cons pe_int pa_nil))) (fun _ _ => rfl)) pa_nil))))), ?_⟩
    refine ⟨_, rfl, _, rfl, by decide, fun p np => ?_⟩
    refine ⟨_, rfl, b, 4, rfl, hB.new np, by decide, by decide, fun d H1 d0 d1 B1 f1 => ?_⟩
    have hp : H1 p = some (.lst [.int 2, .int 1, .int 3, .int 8]) := f1 _ _ upd_same (hB.ne np)
    have hv : ∃ v : Int, atI [V.int 2, .int 1, .int 3, .int 8] d = some (.int v) ∧ 0 < v ∧ v ≤ 8 := by
      have hd : d = 0 ∨ d = 1 ∨ d = 2 ∨ d = 3 := by omega
      rcases hd with rfl | rfl | rfl | rfl
      · exact ⟨2, rfl, by decide, by decide⟩
      · exact ⟨1, rfl, by decide, by decide⟩
      · exact ⟨3, rfl, by decide, by decide⟩
      · exact ⟨8, rfl, by decide, by decide⟩
    obtain ⟨v, hv, v0, v1⟩ := hv
    refine ⟨p, _, d, _, rfl, rfl, SqL.of hp, hv, b, u, v, rfl, B1, hu0, hu1, v0, v1, fun x H2 hx hl B2 f2 => ?_⟩
    exact q x H2 hx hl B2 ((Fx.new .refl np).trans (f1.trans f2))
/-! ### _law_begin -/
def spBegin (K : PySem.W.Frag) : Sp := fun vs H Q _ => ∃ (a : Addr) (ns : List Int), vs = [.ref a] ∧ SqL K H a (ns.map V.int) ∧ ∀ (b : Addr) (H' : Hp), H b = none → Bag H' b → Same H H' → Q (.ref b) H'
abbrev HasBegin (P : Program) (w : World) (K : PySem.W.Frag) (mg : Str → Option Value) (base : Heap) : Prop := Has P w K mg base 1 "_law_begin" ["_law_script"] (spBegin K)
theorem sc_begin : FnScope ["_law_script", "_law_salt", "_law_cell"] ["_law_script"] (defScope s__law_begin) := ⟨rfl, rfl, rfl, by decide +kernel, rfl, by decide +kernel, by decide +kernel⟩
theorem cut_ints (ns : List Int) (lo hi : Option Int) : ∃ ms : List Int, cutV (ns.map V.int) lo hi = ms.map V.int := by
  refine ⟨(ns.drop (HT.sIx (ns.map V.int).length 0 lo)).take (HT.sIx (ns.map V.int).length (ns.map V.int).length hi - HT.sIx (ns.map V.int).length 0 lo), ?_⟩
  unfold cutV
  rw [List.map_take, List.map_drop]
theorem has_begin (F : FnAt K mg "_law_begin" s__law_begin ["_law_script"]) (B : Blt mg) : HasBegin P w K mg base := F.has fun F => by
  refine F.ok sc_begin (fun vs H Q E h => ?_) (fun cdv A outer s H vs Q E hr h => ?_)
  · obtain ⟨a, ns, rfl, _⟩ := h
    rfl
  · obtain ⟨a, ns, rfl, hS, q⟩ := h
    refine ⟨_, pss_cons (ps_set (i := 1) sc_begin.nd rfl (.inl rfl) pe_int)
      (pss_cons (ps_for PassesOwn.never rfl (pi_list (pe_slice sl_list (pv 0) po_none (po_some pe_int))) (pg_name (i := 2) sc_begin.nd rfl (.inl rfl))
        (pss_one (ps_set (i := 1) sc_begin.nd rfl (.inl rfl) (pe_op op_mod (pe_op op_add (pe_op op_add (pe_op op_mul (pv 1) pe_int) (pe_op op_mod (pv 2) pe_int)) pe_int) pe_int))))
      (pss_one (ps_ret (pe_lst (pa_cons (pe_callTy call_list_of (by rfl) B.list (by decide +kernel) (pa_cons (pe_slice sl_list (pv 0) po_none (po_some pe_int)) pa_nil)) (pa_cons pe_int (pa_cons pe_int (pa_cons (pv 1) pa_nil)))))))), ?_⟩
    obtain ⟨ms, em⟩ := cut_ints ns none (some 63)
    refine ⟨_, rfl, 63, rfl, a, _, rfl, hS, fun p np => ?_⟩
    have s1 : Same H (upd H p (.lst (cutV (ns.map V.int) none (some 63)))) := same_upd np
    have hp : SqL K (upd H p (.lst (cutV (ns.map V.int) none (some 63)))) p (ms.map V.int) := SqL.of (by rw [upd_same, em])
    refine ⟨p, rfl, ⟨_, hp⟩, for_list (K := K) (a := p) (xs := ms.map V.int) (fun i σ H2 => ∃ (r : Int) (y : Option V), σ = [some (.ref a), some (.int r), y] ∧ 0 ≤ r ∧ r < 2147483647 ∧ H2 = upd H p (.lst (cutV (ns.map V.int) none (some 63))))
      ⟨977, none, rfl, by decide, by decide, rfl⟩ (fun i σ H2 _ ⟨_, _, _, _, _, e⟩ => by rw [e]; exact hp) ?_ ?_⟩
    · rintro i v σ H2 hi ⟨r, y, rfl, r0, r1, rfl⟩
      obtain ⟨z, rfl⟩ : ∃ z, v = V.int z := by
        rw [List.getElem?_map] at hi
        cases e : ms[i]? with
        | none =>
          rw [e] at hi
          cases hi
        | some z =>
          rw [e] at hi
          exact ⟨z, (Option.some.inj hi).symm⟩
      refine ⟨_, rfl, r, 1009, rfl, rfl, .inr ⟨by decide, by decide⟩, _, rfl, z, 2147483629, rfl, rfl, (by show (0 : Int) < 2147483629; decide), _, _, rfl, rfl, _, 7, rfl, rfl, _, 2147483629, rfl, rfl, (by show (0 : Int) < 2147483629; decide), ?_⟩
      have h0 : 0 ≤ (r * 1009 + z % 2147483629 + 7) % 2147483629 := Int.emod_nonneg _ (by decide)
      have h1 : (r * 1009 + z % 2147483629 + 7) % 2147483629 < 2147483629 := Int.emod_lt_of_pos _ (by decide)
      exact ⟨_, _, rfl, h0, by omega, rfl⟩
    · rintro σ H2 ⟨r, y, rfl, r0, r1, rfl⟩
      refine ⟨_, rfl, 63, rfl, a, _, rfl, s1.seq hS, fun p2 np2 => ?_⟩
      have hp2 : SqL K (upd (upd H p (.lst (cutV (ns.map V.int) none (some 63)))) p2 (.lst (cutV (ns.map V.int) none (some 63)))) p2 (ms.map V.int) := SqL.of (by rw [upd_same, em])
      have s2 := s1.trans (same_upd (o := .lst (cutV (ns.map V.int) none (some 63))) np2)
      refine ⟨p2, _, rfl, .inl hp2, fun l nl => ?_⟩
      have s3 := s2.trans (same_upd (o := .lst (ms.map V.int)) nl)
      refine ⟨_, rfl, (by show 4 ≤ sizeLine; decide), fun b nb => ?_⟩
      have s4 := s3.trans (same_upd (o := .lst [.ref l, .int 0, .int 0, .int r]) nb)
      refine q b _ (s3.free nb) ⟨l, ms, 0, 0, r, upd_same, ?_, by decide, by decide, r0, r1⟩ s4
      have nlb : l ≠ b := fun z => by
        rw [← z, upd_same] at nb
        cases nb
      rw [upd_ne nlb, upd_same]
end
end Sf
namespace Sf
open PySem PySem.Spec PyProof.Rows L2 TL
section
variable {P : Program} {w : World} {K : PySem.W.Frag} {mg : Str → Option Value} {base : Heap}
/-! ### _law_same: True of two values of the same data -/
def spSame (n : Nat) : Sp := fun vs H Q _ => ∃ x y : V, vs = [x, y] ∧ Eqv H n x y ∧ ∀ H', Same H H' → Q (.bl true) H'
abbrev HasSame (P : Program) (w : World) (K : PySem.W.Frag) (mg : Str → Option Value) (base : Heap) (n : Nat) : Prop := Has P w K mg base (n + 1) "_law_same" ["_law_found", "_law_due"] (spSame n)
theorem sc_same : FnScope ["_law_found", "_law_due", "_law_one", "_law_other"] ["_law_found", "_law_due"] (defScope s__law_same) := ⟨rfl, rfl, rfl, by decide +kernel, rfl, by decide +kernel, by decide +kernel⟩
theorem all_true (n : Nat) : (List.replicate n true).all id = true := by
  induction n with
  | zero => rfl
  | succ n ih => rw [List.replicate_succ, List.all_cons, ih]; rfl
theorem has_same (F : FnAt K mg "_law_same" s__law_same ["_law_found", "_law_due"]) (B : Blt mg) : ∀ n, HasSame P w K mg base n := by
  intro n
  induction n with
  | zero =>
    refine F.has fun F => ?_
    refine F.ok sc_same (fun vs H Q E h => ?_) (fun cdv A outer s H vs Q E hr h => ?_)
    · obtain ⟨x, y, rfl, _⟩ := h
      rfl
    · obtain ⟨x, y, rfl, ⟨fx, rfl⟩, q⟩ := h
      obtain ⟨T, b1, b2, b3, ty, k1, k2, k3, k4, k5⟩ := flat_kit (K := K) (H := H) fx
      refine ⟨_, pss_cons (ps_if (pt_val (pe_callB call_isiT (by rfl) B.isinstance (by decide +kernel) (pa_cons (pv 1) (pa_cons (pe_tup (pa_cons (pe_bltn (v := .ty "list") (by rfl) B.list (by decide +kernel) rfl) (pa_cons (pe_bltn (v := .ty "tuple") (by rfl) B.tuple (by decide +kernel) rfl) pa_nil))) pa_nil)))) pss_never pss_nil)
        (pss_cons (ps_if (PW.pt (pw_or (pt_cmpR op_isN (pv 1) pe_non (nomark _)) (pw_or1 (pt_cmpR op_isN (pv 0) pe_non (nomark _))))) (pss_one (ps_ret (pe_and (pe_cmpR op_isN (pv 0) pe_non (nomark _)) (pe_one (pe_cmpR op_isN (pv 1) pe_non (nomark _)))))) pss_nil)
        (pss_cons (ps_if (PW.pt (pw_or (pt_cmpR op_ne (pe_callB call_isi (by rfl) B.isinstance (by decide +kernel) (pa_cons (pv 0) (pa_cons (pe_bltn (v := .ty "bool") (by rfl) B.bool (by decide +kernel) rfl) pa_nil))) (pe_callB call_isi (by rfl) B.isinstance (by decide +kernel) (pa_cons (pv 1) (pa_cons (pe_bltn (v := .ty "bool") (by rfl) B.bool (by decide +kernel) rfl) pa_nil))) (nomark _))
            (pw_or1 (pt_cmpR op_ne (pe_callB call_isi (by rfl) B.isinstance (by decide +kernel) (pa_cons (pv 0) (pa_cons (pe_bltn (v := .ty "int") (by rfl) B.int (by decide +kernel) rfl) pa_nil))) (pe_callB call_isi (by rfl) B.isinstance (by decide +kernel) (pa_cons (pv 1) (pa_cons (pe_bltn (v := .ty "int") (by rfl) B.int (by decide +kernel) rfl) pa_nil))) (nomark _))))) pss_never pss_nil)
        (pss_one (ps_ret (pe_and (pe_cmpR op_eq (pe_callB call_isi (by rfl) B.isinstance (by decide +kernel) (pa_cons (pv 0) (pa_cons (pe_bltn (v := .ty "str") (by rfl) B.str (by decide +kernel) rfl) pa_nil))) (pe_callB call_isi (by rfl) B.isinstance (by decide +kernel) (pa_cons (pv 1) (pa_cons (pe_bltn (v := .ty "str") (by rfl) B.str (by decide +kernel) rfl) pa_nil))) (nomark _)) (pe_one (pe_cmpR op_eq (pv 0) (pv 1) (nomark _)))))))), ?_⟩
      refine ⟨x, rfl, (by show 2 ≤ sizeLine; decide), fun p np => ?_⟩
      have s1 := same_upd (o := .tup [.ty "list", .ty "tuple"]) np
      have ty1 := TyX.same s1 fx ty
      refine ⟨x, p, _, _, [.type "list", .type "tuple"], false, rfl, upd_same, .cons (.ty _) (.cons (.ty _) .nil), ty1, kit2 k1 k2, _, rfl, iteF ?_⟩
      refine ⟨x, rfl, rfl, _, rfl, ite2 (fun e => ?_) (fun e => ?_)⟩
      · have ex : x = .non := of_decide_eq_true e
        subst ex
        refine iteT ⟨_, rfl, rfl, _, rfl, ite2 (fun _ => ⟨_, rfl, rfl, ?_⟩) (fun z => absurd (decide_eq_true rfl) z)⟩
        exact q _ s1
      · refine ⟨x, rfl, rfl, _, rfl, ite2 (fun e2 => absurd e2 e) (fun _ => ?_)⟩
        refine ⟨x, rfl, x, _, _, _, b1, rfl, .ty "bool", ty1, kit_ty k3, x, rfl, x, _, _, _, b1, rfl, .ty "bool", ty1, kit_ty k3, rfl, _, rfl, ite2 (fun z => ?_) (fun _ => ?_)⟩
        · rw [ne_bl] at z
          cases z
        · refine ⟨x, rfl, x, _, _, _, b2, rfl, .ty "int", ty1, kit_ty k4, x, rfl, x, _, _, _, b2, rfl, .ty "int", ty1, kit_ty k4, rfl, _, rfl, ite2 (fun z => ?_) (fun _ => ?_)⟩
          · rw [ne_bl] at z
            cases z
          · refine ⟨x, rfl, x, _, _, _, b3, rfl, .ty "str", ty1, kit_ty k5, x, rfl, x, _, _, _, b3, rfl, .ty "str", ty1, kit_ty k5, rfl, _, rfl, ite2 (fun z => ?_) (fun z => absurd (decide_eq_true rfl) z)⟩
            refine ⟨x, rfl, x, rfl, scal_flat fx, ?_⟩
            rw [decide_eq_true rfl]
            exact q _ s1
  | succ n ih =>
    obtain ⟨fR, fdR, gR, kR, bR, GR⟩ := ih
    refine F.has fun F => ?_
    refine F.ok sc_same (fun vs H Q E h => ?_) (fun cdv A outer s H vs Q E hr h => ?_)
    · obtain ⟨x, y, rfl, _⟩ := h
      rfl
    · obtain ⟨x, y, rfl, hE, q⟩ := h
      refine seq_by (fun σ H1 => σ = [some x, some x, none, none] ∧ flat4 x = true ∧ Same H H1) ?_ ?_
      · refine ⟨_, (pss_cons (ps_if (PW.pt (pw_or (pt_cmpR op_isN (pv 1) pe_non (nomark _)) (pw_or1 (pt_cmpR op_isN (pv 0) pe_non (nomark _))))) (pss_one (ps_ret (pe_and (pe_cmpR op_isN (pv 0) pe_non (nomark _)) (pe_one (pe_cmpR op_isN (pv 1) pe_non (nomark _)))))) pss_nil)
        (pss_cons (ps_if (PW.pt (pw_or (pt_cmpR op_ne (pe_callB call_isi (by rfl) B.isinstance (by decide +kernel) (pa_cons (pv 0) (pa_cons (pe_bltn (v := .ty "bool") (by rfl) B.bool (by decide +kernel) rfl) pa_nil))) (pe_callB call_isi (by rfl) B.isinstance (by decide +kernel) (pa_cons (pv 1) (pa_cons (pe_bltn (v := .ty "bool") (by rfl) B.bool (by decide +kernel) rfl) pa_nil))) (nomark _))
            (pw_or1 (pt_cmpR op_ne (pe_callB call_isi (by rfl) B.isinstance (by decide +kernel) (pa_cons (pv 0) (pa_cons (pe_bltn (v := .ty "int") (by rfl) B.int (by decide +kernel) rfl) pa_nil))) (pe_callB call_isi (by rfl) B.isinstance (by decide +kernel) (pa_cons (pv 1) (pa_cons (pe_bltn (v := .ty "int") (by rfl) B.int (by decide +kernel) rfl) pa_nil))) (nomark _))))) pss_never pss_nil)
        (pss_one (ps_ret (pe_and (pe_cmpR op_eq (pe_callB call_isi (by rfl) B.isinstance (by decide +kernel) (pa_cons (pv 0) (pa_cons (pe_bltn (v := .ty "str") (by rfl) B.str (by decide +kernel) rfl) pa_nil))) (pe_callB call_isi (by rfl) B.isinstance (by decide +kernel) (pa_cons (pv 1) (pa_cons (pe_bltn (v := .ty "str") (by rfl) B.str (by decide +kernel) rfl) pa_nil))) (nomark _)) (pe_one (pe_cmpR op_eq (pv 0) (pv 1) (nomark _)))))))), ?_⟩
        rintro σ H1 ⟨rfl, fx, s1⟩
        obtain ⟨T, b1, b2, b3, ty1, k1, k2, k3, k4, k5⟩ := flat_kit (K := K) (H := H1) fx
        refine ⟨x, rfl, rfl, _, rfl, ite2 (fun e => ?_) (fun e => ?_)⟩
        · have ex : x = .non := of_decide_eq_true e
          subst ex
          refine iteT ⟨_, rfl, rfl, _, rfl, ite2 (fun _ => ⟨_, rfl, rfl, ?_⟩) (fun z => absurd (decide_eq_true rfl) z)⟩
          exact q _ s1
        · refine ⟨x, rfl, rfl, _, rfl, ite2 (fun e2 => absurd e2 e) (fun _ => ?_)⟩
          refine ⟨x, rfl, x, _, _, _, b1, rfl, .ty "bool", ty1, kit_ty k3, x, rfl, x, _, _, _, b1, rfl, .ty "bool", ty1, kit_ty k3, rfl, _, rfl, ite2 (fun z => ?_) (fun _ => ?_)⟩
          · rw [ne_bl] at z
            cases z
          · refine ⟨x, rfl, x, _, _, _, b2, rfl, .ty "int", ty1, kit_ty k4, x, rfl, x, _, _, _, b2, rfl, .ty "int", ty1, kit_ty k4, rfl, _, rfl, ite2 (fun z => ?_) (fun _ => ?_)⟩
            · rw [ne_bl] at z
              cases z
            · refine ⟨x, rfl, x, _, _, _, b3, rfl, .ty "str", ty1, kit_ty k5, x, rfl, x, _, _, _, b3, rfl, .ty "str", ty1, kit_ty k5, rfl, _, rfl, ite2 (fun z => ?_) (fun z => absurd (decide_eq_true rfl) z)⟩
              refine ⟨x, rfl, x, rfl, scal_flat fx, ?_⟩
              rw [decide_eq_true rfl]
              exact q _ s1
      · intro u hu
        refine ⟨_, ps_if (pt_val (pe_callB call_isiT (by rfl) B.isinstance (by decide +kernel) (pa_cons (pv 1) (pa_cons (pe_tup (pa_cons (pe_bltn (v := .ty "list") (by rfl) B.list (by decide +kernel) rfl) (pa_cons (pe_bltn (v := .ty "tuple") (by rfl) B.tuple (by decide +kernel) rfl) pa_nil))) pa_nil))))
          (pss_cons (ps_if (PW.pt (pw_or (pt_cmpR op_ne (pe_callB call_isi (by rfl) B.isinstance (by decide +kernel) (pa_cons (pv 0) (pa_cons (pe_bltn (v := .ty "list") (by rfl) B.list (by decide +kernel) rfl) pa_nil))) (pe_callB call_isi (by rfl) B.isinstance (by decide +kernel) (pa_cons (pv 1) (pa_cons (pe_bltn (v := .ty "list") (by rfl) B.list (by decide +kernel) rfl) pa_nil))) (nomark _)) (pw_or1 (pt_cmpR op_ne (pe_callB call_isi (by rfl) B.isinstance (by decide +kernel) (pa_cons (pv 0) (pa_cons (pe_bltn (v := .ty "tuple") (by rfl) B.tuple (by decide +kernel) rfl) pa_nil))) (pe_callB call_isi (by rfl) B.isinstance (by decide +kernel) (pa_cons (pv 1) (pa_cons (pe_bltn (v := .ty "tuple") (by rfl) B.tuple (by decide +kernel) rfl) pa_nil))) (nomark _))))) pss_never pss_nil)
          (pss_one (ps_ret (pe_and (pe_cmpR op_eq (pe_callB call_len_seq (by rfl) B.len PySem.boot_len (pa_cons (pv 0) pa_nil)) (pe_callB call_len_seq (by rfl) B.len PySem.boot_len (pa_cons (pv 1) pa_nil)) (nomark _))
            (pe_one (pe_callB (cr_all rfl) (by rfl) B.all (by decide +kernel) (pa_cons (pe_lc (own := [("_law_one", 2), ("_law_other", 3)]) (g := gTup K 2 (gCons (gName 2) (gCons (gName 3) gNil))) (tt := tYes) (by rfl) sc_same.nd (RZ.pi_zipA (by rfl) B.zip (pa_cons (pv 0) (pa_cons (pv 1) pa_nil)))
              (blkOk_by (own := [("_law_one", 2), ("_law_other", 3)]) (N := ["_law_found", "_law_due", "_law_one", "_law_other"]) (sc := defScope s__law_same) (by decide +kernel))
              (fun _ _ _ _ _ => pg_tup rfl (pgs_cons (pg_name (i := 2) sc_same.nd rfl (.inl rfl)) (pgs_cons (pg_name (i := 3) sc_same.nd rfl (.inl rfl)) pgs_nil))) (fun _ _ _ _ _ => pts_nil)
              (fun _ _ _ _ _ => pe_call GR hr (by rfl) gR kR bR .nil pass0 (pa_cons (pv 2) (pa_cons (pv 3) pa_nil)))) pa_nil))))))) pss_nil, ?_⟩
        refine ⟨y, rfl, (by show 2 ≤ sizeLine; decide), fun p np => ?_⟩
        have s1 := same_upd (o := .tup [.ty "list", .ty "tuple"]) np
        rcases hE with ⟨fx, rfl⟩ | ⟨pa, pb, xs, ys, rfl, rfl, hxy, hlen, hsz, hEach⟩
        · obtain ⟨T, b1, b2, b3, ty, k1, k2, k3, k4, k5⟩ := flat_kit (K := K) (H := upd H p (.tup [.ty "list", .ty "tuple"])) fx
          exact ⟨x, p, _, _, [.type "list", .type "tuple"], false, rfl, upd_same, .cons (.ty _) (.cons (.ty _) .nil), ty, kit2 k1 k2, _, rfl, iteF (hu _ _ ⟨rfl, fx, s1⟩)⟩
        · obtain ⟨T, bl, bt, tyx, tyy, kany, kl, kt⟩ : ∃ (T : String) (bl bt : Bool), TyX K (upd H p (.tup [.ty "list", .ty "tuple"])) (.ref pa) (.type T) ∧ TyX K (upd H p (.tup [.ty "list", .ty "tuple"])) (.ref pb) (.type T) ∧
              PySem.W.kitAny K (.type T) [.type "list", .type "tuple"] = some true ∧ kitB T "list" = some bl ∧ kitB T "tuple" = some bt := by
            rcases hxy with ⟨ha, hb⟩ | ⟨ha, hb⟩
            · exact ⟨"list", true, false, .base (.lst (s1 _ _ ha)), .base (.lst (s1 _ _ hb)), kitAny_cons (kit_ty (b := "list") (r := true) (by decide +kernel)) (fun q => nomatch q) (fun _ => rfl), by decide +kernel, by decide +kernel⟩
            · exact ⟨"tuple", false, true, .base (.tup (s1 _ _ ha)), .base (.tup (s1 _ _ hb)), kitAny_cons (kit_ty (b := "list") (r := false) (by decide +kernel)) (fun _ => kitAny_cons (kit_ty (b := "tuple") (r := true) (by decide +kernel)) (fun q => nomatch q) (fun _ => rfl)) (fun q => nomatch q), by decide +kernel, by decide +kernel⟩
          refine ⟨_, p, _, _, [.type "list", .type "tuple"], true, rfl, upd_same, .cons (.ty _) (.cons (.ty _) .nil), tyy, kany, _, rfl, iteT ?_⟩
          refine ⟨_, rfl, _, _, _, _, bl, rfl, .ty "list", tyx, kit_ty kl, _, rfl, _, _, _, _, bl, rfl, .ty "list", tyy, kit_ty kl, rfl, _, rfl, ite2 (fun z => ?_) (fun _ => ?_)⟩
          · rw [ne_bl] at z
            cases z
          refine ⟨_, rfl, _, _, _, _, bt, rfl, .ty "tuple", tyx, kit_ty kt, _, rfl, _, _, _, _, bt, rfl, .ty "tuple", tyy, kit_ty kt, rfl, _, rfl, ite2 (fun z => ?_) (fun _ => ?_)⟩
          · rw [ne_bl] at z
            cases z
          have sqx : SqL K (upd H p (.tup [.ty "list", .ty "tuple"])) pa xs ∨ SqT K (upd H p (.tup [.ty "list", .ty "tuple"])) pa xs := hxy.elim (fun h => .inl (SqL.of (s1 _ _ h.1))) (fun h => .inr (SqT.of (s1 _ _ h.1)))
          have sqy : SqL K (upd H p (.tup [.ty "list", .ty "tuple"])) pb ys ∨ SqT K (upd H p (.tup [.ty "list", .ty "tuple"])) pb ys := hxy.elim (fun h => .inl (SqL.of (s1 _ _ h.2))) (fun h => .inr (SqT.of (s1 _ _ h.2)))
          refine ⟨_, rfl, pa, xs, rfl, sqx, _, rfl, pb, ys, rfl, sqy, rfl, _, rfl, ite2 (fun _ => ?_) (fun z => absurd (decide_eq_true (by rw [hlen])) z)⟩
          refine ⟨_, rfl, _, rfl, pa, pb, xs, ys, rfl, ?_⟩
          have turn : ∀ (i : Nat) (x y : V) (D T : Addr) (H2 : Hp), (upd H p (.tup [.ty "list", .ty "tuple"])) D = none → xs[i]? = some x → ys[i]? = some y → Same (upd H p (.tup [.ty "list", .ty "tuple"])) H2 → H2 D = some (.lst (List.replicate i (V.bl true))) → H2 T = none →
              ∃ x' y' : V, [x, y] ++ [] = [x', y'] ∧ Eqv (upd H2 T (.tup [x, y])) n x' y' ∧ ∀ H', Same (upd H2 T (.tup [x, y])) H' → ∃ acc, H' D = some (.lst acc) ∧ acc.length < sizeLine ∧ (Same (upd H p (.tup [.ty "list", .ty "tuple"])) (upd H' D (.lst (acc ++ [.bl true]))) ∧ (upd H' D (.lst (acc ++ [.bl true]))) D = some (.lst (List.replicate (i + 1) (V.bl true)))) := by
            intro i x y D T H2 nD hx hy s2 hD nT
            have s3 : Same H2 (upd H2 T (.tup [x, y])) := same_upd nT
            have hi : i < xs.length := (List.getElem?_eq_some_iff.mp hx).1
            refine ⟨x, y, rfl, (hEach i x y hx hy).same (s1.trans (s2.trans s3)), fun H' s4 => ⟨_, s4 _ _ (s3 _ _ hD), ?_, fun a o e => ?_, ?_⟩⟩
            · rw [List.length_replicate]
              exact lineLt_of (by omega)
            · rw [upd_ne (ne_of_none e nD)]
              exact s4 _ _ (s3 _ _ (s2 _ _ e))
            · rw [upd_same, List.replicate_succ']
          have fin : ∀ (D : Addr) (H2 : Hp), Same (upd H p (.tup [.ty "list", .ty "tuple"])) H2 → H2 D = some (.lst (List.replicate xs.length (V.bl true))) → ∃ (a : Addr) (bs : List Bool), [V.ref D] = [V.ref a] ∧ SqL K H2 a (bs.map V.bl) ∧ Q (.bl (bs.all id)) H2 := by
            intro D H2 s2 hD
            refine ⟨D, List.replicate xs.length true, rfl, SqL.of (by rw [hD, List.map_replicate]), ?_⟩
            rw [all_true]
            exact q _ (s1.trans s2)
          rcases hxy with ⟨ha, hb⟩ | ⟨ha, hb⟩
          · refine .inl ⟨SqL.of (s1 _ _ ha), SqL.of (s1 _ _ hb), fun D nD => ?_⟩
            refine lc_gen (n := xs.length) (fun i H2 => Same (upd H p (.tup [.ty "list", .ty "tuple"])) H2 ∧ H2 D = some (.lst (List.replicate i (V.bl true)))) ⟨same_upd nD, upd_same⟩ ?_ ?_ ?_ ?_
            · rintro i H2 hi ⟨s2, hD⟩
              exact ⟨xs, ys, _, _, SqL.of (s2 _ _ (s1 _ _ ha)), SqL.of (s2 _ _ (s1 _ _ hb)), List.getElem?_eq_getElem hi, List.getElem?_eq_getElem (by omega)⟩
            · rintro H2 ⟨s2, hD⟩
              exact ⟨xs, ys, SqL.of (s2 _ _ (s1 _ _ ha)), SqL.of (s2 _ _ (s1 _ _ hb)), .inl (Nat.le_refl _)⟩
            · rintro i v H2 H3 hi ⟨s2, hD⟩ ⟨T, x, y, rfl, nT, rfl, f1, f2⟩
              refine ⟨T, [x, y], rfl, .inl (.inl upd_same), rfl, x, [y], rfl, y, [], rfl, rfl, rfl, ?_⟩
              refine yes_if ?_
              exact ⟨_, rfl, _, rfl, turn i x y D T H2 nD (f1 xs (SqL.of (s2 _ _ (s1 _ _ ha)))) (f2 ys (SqL.of (s2 _ _ (s1 _ _ hb)))) s2 hD nT⟩
            · rintro H2 ⟨s2, hD⟩
              exact fin D H2 s2 hD
          · refine .inr ⟨SqT.of (s1 _ _ ha), SqT.of (s1 _ _ hb), fun D nD => ?_⟩
            refine lc_gen (n := xs.length) (fun i H2 => Same (upd H p (.tup [.ty "list", .ty "tuple"])) H2 ∧ H2 D = some (.lst (List.replicate i (V.bl true)))) ⟨same_upd nD, upd_same⟩ ?_ ?_ ?_ ?_
            · rintro i H2 hi ⟨s2, hD⟩
              exact ⟨xs, ys, _, _, SqT.of (s2 _ _ (s1 _ _ ha)), SqT.of (s2 _ _ (s1 _ _ hb)), List.getElem?_eq_getElem hi, List.getElem?_eq_getElem (by omega)⟩
            · rintro H2 ⟨s2, hD⟩
              exact ⟨xs, ys, SqT.of (s2 _ _ (s1 _ _ ha)), SqT.of (s2 _ _ (s1 _ _ hb)), .inl (Nat.le_refl _)⟩
            · rintro i v H2 H3 hi ⟨s2, hD⟩ ⟨T, x, y, rfl, nT, rfl, f1, f2⟩
              refine ⟨T, [x, y], rfl, .inl (.inl upd_same), rfl, x, [y], rfl, y, [], rfl, rfl, rfl, ?_⟩
              refine yes_if ?_
              exact ⟨_, rfl, _, rfl, turn i x y D T H2 nD (f1 xs (SqT.of (s2 _ _ (s1 _ _ ha)))) (f2 ys (SqT.of (s2 _ _ (s1 _ _ hb)))) s2 hD nT⟩
            · rintro H2 ⟨s2, hD⟩
              exact fin D H2 s2 hD
end
end Sf
namespace Sf
open PySem PySem.Spec PyProof.Rows L2 TL
section
variable {P : Program} {w : World} {K : PySem.W.Frag} {mg : Str → Option Value} {base : Heap}
/-! ### is_word -/
def isW (x : Str) : Bool := decide (x.length ≤ 60) && (tl x).all sgn
def spIsWord : Sp := fun vs H Q _ => ∃ x : Str, vs = [.str x] ∧ x.length ≤ 100000 ∧ ∀ H', Same H H' → Q (.bl (isW x)) H'
abbrev HasIsWord (P : Program) (w : World) (K : PySem.W.Frag) (mg : Str → Option Value) (base : Heap) : Prop := Has P w K mg base 1 "is_word" ["text"] spIsWord
theorem sc_isword : FnScope ["text", "sign"] ["text"] (defScope s_is_word) := ⟨rfl, rfl, rfl, by decide +kernel, rfl, by decide +kernel, by decide +kernel⟩
theorem dec_signs {c : Nat} : decide (c ∈ (Str.ofString "aAbBcCdDeEfFgGhH").cps.toList) = sgn c := by
  rw [Bool.eq_iff_iff, decide_eq_true_eq]
  exact in_signs
theorem getElem?_of_cps {x : Str} {i c : Nat} (h : x.cps[i]? = some c) : (tl x)[i]? = some c := by
  rw [← h]
  exact Array.getElem?_toList
theorem has_isword (F : FnAt K mg "is_word" s_is_word ["text"]) (B : Blt mg) {t1 t2 : Tok} (mM : mg "MOST_WORD" = some (.int 60 t1)) (mS : mg "SIGNS" = some (.str (Str.ofString "aAbBcCdDeEfFgGhH") t2)) : HasIsWord P w K mg base := F.has fun F => by
  refine F.ok sc_isword (fun vs H Q E h => ?_) (fun cdv A outer s H vs Q E hr h => ?_)
  · obtain ⟨x, rfl, _⟩ := h
    rfl
  · obtain ⟨x, rfl, hlen, q⟩ := h
    have hz : x.cps.size = (tl x).length := len_tl x
    refine ⟨_, pss_one (ps_ret (pe_and (pe_cmpR op_le (pe_callB call_len_str (by rfl) B.len PySem.boot_len (pa_cons (pv 0) pa_nil)) (pe_glob (v := .int 60) (by rfl) mM ⟨_, rfl⟩) (nomark _))
      (pe_one (pe_callB (cr_all rfl) (by rfl) B.all (by decide +kernel) (pa_cons (pe_lc (own := [("sign", 1)]) (g := gName 1) (tt := tYes) (by rfl) sc_isword.nd (pi_str (pv 0))
        (blkOk_by (own := [("sign", 1)]) (N := ["text", "sign"]) (sc := defScope s_is_word) (by decide +kernel)) (fun _ _ _ _ _ => pg_name (i := 1) sc_isword.nd rfl (.inl rfl)) (fun _ _ _ _ _ => pts_nil)
        (fun _ _ _ _ _ => pe_cmpR op_in_sign (pv 1) (pe_glob (v := .str (Str.ofString "aAbBcCdDeEfFgGhH")) (by rfl) mS ⟨_, rfl⟩) rfl)) pa_nil))))), ?_⟩
    refine ⟨_, rfl, x, rfl, line_of hlen, _, 60, rfl, rfl, _, rfl, ite2 (fun e => ?_) (fun e => ?_)⟩
    · refine ⟨_, rfl, x, rfl, fun D nD => ?_⟩
      refine lc_gen (n := x.cps.size) (fun i H2 => Same H H2 ∧ H2 D = some (.lst (((tl x).take i).map fun c => V.bl (sgn c)))) ⟨same_upd nD, upd_same⟩ ?_ ?_ ?_ ?_
      · rintro i H2 hi ⟨s2, hD⟩
        exact hi
      · rintro H2 ⟨s2, hD⟩
        exact Nat.le_refl _
      · rintro i v H2 H3 hi ⟨s2, hD⟩ ⟨rfl, c, hc, rfl⟩
        refine ⟨rfl, yes_if ?_⟩
        refine ⟨_, rfl, c, _, rfl, rfl, _, hD, ?_, fun a o e => ?_, ?_⟩
        · rw [List.length_map, List.length_take]
          exact lineLt_of (Nat.le_trans (Nat.min_le_right _ _) (by rw [← hz]; exact hlen))
        · rw [upd_ne (ne_of_none e nD)]
          exact s2 _ _ e
        · have ed : decide (c ∈ (Str.ofString "aAbBcCdDeEfFgGhH").cps.toList) = sgn c := dec_signs
          rw [upd_same, List.take_add_one, getElem?_of_cps hc, List.map_append, ed]
          rfl
      · rintro H2 ⟨s2, hD⟩
        refine ⟨D, (tl x).map sgn, rfl, SqL.of ?_, ?_⟩
        · rw [hD, List.take_of_length_le (by rw [hz]; exact Nat.le_refl _), List.map_map]
          rfl
        · have h1 := q H2 s2
          have e1 : decide (x.length ≤ 60) = true := decide_eq_true (by have := of_decide_eq_true e; omega)
          have e2 : ((tl x).map sgn).all id = (tl x).all sgn := by
            rw [List.all_map]
            rfl
          rw [e2]
          unfold isW at h1
          rw [e1, Bool.true_and] at h1
          exact h1
    · have h1 := q H (.refl H)
      have e1 : decide (x.length ≤ 60) = false := decide_eq_false (fun z => e (decide_eq_true (by omega)))
      unfold isW at h1
      rw [e1, Bool.false_and] at h1
      exact h1
theorem isW_true {x : Str} (h : Wd x) (hl : x.length ≤ 60) : isW x = true := by
  unfold isW
  rw [decide_eq_true hl, Bool.true_and, List.all_eq_true]
  exact h
end
end Sf
namespace Sf
open PySem PySem.Spec PyProof.Rows L2 TL
section
variable {X : Cx}
/-! ### text * int -/
theorem op_mul_str : OpR X (binaryOp .Mult) (fun x y H Q => ∃ (a : Str) (n : Int), x = .str a ∧ y = .int n ∧ 0 ≤ n ∧ n ≤ 1000 ∧ a.length ≤ 1000 ∧ Q (.str (Txt.mul a n)) H) := by
  intro pins s σ H x y v u Q I rx ry h
  obtain ⟨a, n, rfl, rfl, h0, h1, h2, q⟩ := h
  obtain ⟨t, rfl⟩ := rx
  obtain ⟨t', rfl⟩ := ry
  refine PySem.SB.mul ⟨?_, fun hn _ => ?_, fun _ _ => ?_⟩ fun t' k => ⟨.str _, H, I.tok k, ⟨t', rfl⟩, q⟩
  · rw [decide_eq_false (by omega), decide_eq_false (by omega)]
    rfl
  · have h3 : (2 ^ 63 - 1) / n ≥ 9223372036854775807 / 1000 := by
      show (9223372036854775807 : Int) / 1000 ≤ (2 ^ 63 - 1) / n
      have e : (2 ^ 63 - 1 : Int) = 9223372036854775807 := by decide
      rw [e]
      refine (Int.le_ediv_iff_mul_le (by omega)).mpr ?_
      have : (9223372036854775807 : Int) / 1000 * n ≤ (9223372036854775807 : Int) / 1000 * 1000 := Int.mul_le_mul_of_nonneg_left h1 (by decide)
      have e2 : (9223372036854775807 : Int) / 1000 * 1000 ≤ 9223372036854775807 := by decide
      omega
    have e3 : (9223372036854775807 : Int) / 1000 = 9223372036854775 := by decide
    omega
  · refine PyProof.Rows.short24 ?_
    have h5 : n.toNat ≤ 1000 := by omega
    exact Nat.le_trans (Nat.mul_le_mul h2 h5) (by decide)
theorem mul_len {a : Str} {n : Int} (h : 0 ≤ n) : (Txt.mul a n).length = a.length * n.toNat := by
  obtain ⟨m, rfl⟩ : ∃ m : Nat, n = (m : Int) := ⟨n.toNat, by omega⟩
  have h1 := PyProof.Rows.len_mul a (m : Int)
  rw [decide_eq_false (by omega)] at h1
  have e : (if false = true then (0 : Int) else (m : Int)) = (m : Int) := rfl
  rw [e, ← Int.natCast_mul] at h1
  rw [Int.toNat_natCast]
  exact Int.ofNat.inj h1
theorem foldl_app (a : Array Nat) : ∀ (k : Nat) (acc : Array Nat) (c : Nat), c ∈ ((List.replicate k a).foldl (· ++ ·) acc).toList → c ∈ acc.toList ∨ c ∈ a.toList
  | 0, acc, c, h => .inl h
  | k + 1, acc, c, h => by
    rw [List.replicate_succ, List.foldl_cons] at h
    rcases foldl_app a k (acc ++ a) c h with h | h
    · rw [Array.toList_append, List.mem_append] at h
      exact h
    · exact .inr h
theorem mul_mem {a : Str} {n : Int} {c : Nat} (h : c ∈ tl (Txt.mul a n)) : c ∈ tl a := by
  unfold Txt.mul at h
  split at h
  · cases h
  · split at h
    · exact h
    · rcases foldl_app a.cps n.toNat #[] c h with h | h
      · cases h
      · exact h
theorem Wd.mul {a : Str} {n : Int} (h : Wd a) : Wd (Txt.mul a n) := fun c hc => h c (mul_mem hc)
theorem tl_cut (z : Str) (lo hi : Option Int) : tl (cutS z lo hi) = ((tl z).drop (HT.sIx z.length 0 lo)).take (HT.sIx z.length z.length hi - HT.sIx z.length 0 lo) := by
  unfold cutS
  rfl
theorem Wd.cut {z : Str} {lo hi : Option Int} (h : Wd z) : Wd (cutS z lo hi) := fun c hc => by
  rw [tl_cut] at hc
  exact h c (List.mem_of_mem_drop (List.mem_of_mem_take hc))
end
end Sf
namespace Sf
open PySem PySem.Spec PyProof.Rows L2 TL
section
variable {X : Cx}
/-! ### text[::-1] -/
def revS (z : Str) : Str := ⟨(tl z).reverse.toArray⟩
theorem tl_revS (z : Str) : tl (revS z) = (tl z).reverse := rfl
theorem rev_picked (z : Str) : ((Builtin.Str.strSliceIndices none none (-1) z.length).filterMap (z.cps[·]?)) = (tl z).reverse := by
  rw [picked_rev]
  apply List.ext_getElem?
  intro i
  have hz : z.length = (tl z).length := len_tl z
  rw [PyProof.Rows.filterMap_get _ _ (fun k hk => by
    obtain ⟨j, hj, rfl⟩ := List.mem_map.mp hk
    have := List.mem_range.mp hj
    show z.length - 1 - j < z.length
    omega), List.map_map]
  by_cases h : i < z.length
  · rw [List.getElem?_reverse (by omega), List.getElem?_map, List.getElem?_range h]
    show some (z.cps.getD (z.length - 1 - i) 0) = _
    have h2 : z.length - 1 - i < z.cps.size := by show z.length - 1 - i < z.length; omega
    rw [← hz, Array.getElem?_toList]
    simp [Array.getD, h2]
  · rw [List.getElem?_eq_none (by rw [List.length_map, List.length_range]; omega), List.getElem?_eq_none (by rw [List.length_reverse, ← hz]; omega)]
def tRevS (te : TE) : TE := fun σ H Q => te σ H fun x H1 => ∃ z, x = .str z ∧ z.length ≤ sizeLine ∧ Q (.str (revS z)) H1
theorem pe_revS {e : Expr} {te : TE} {k : Nat} {p1 p2 p3 pos : Pos} (he : PE X e te) : PE X (.Subscript e (.Slice none none (some (.UnaryOp .USub (.Constant (.int 1) k p1) p2)) p3) pos) (tRevS te) := by
  refine ⟨fun pins s σ H Q I h => ?_⟩
  refine Subscript_ (thn (he.run pins s σ H _ I h) fun v s1 ⟨x, H1, I1, r1, q1⟩ => ?_)
  obtain ⟨z, ex, hz, q⟩ := q1
  subst ex
  obtain ⟨tz, rfl⟩ := r1
  have hst : PO X (some (.UnaryOp .USub (.Constant (.int 1) k p1) p2)) (tPart (tUn (rU fun i => .int (-i)) (tC (.int 1)))) := po_some (pe_un un_neg pe_int)
  refine wpAny_Slice (thn (po_none.run pins s1 σ H1 (fun o H2 => o = none ∧ H2 = H1) I1 ⟨rfl, rfl⟩) fun vl s2 ⟨l, H2, I2, pl, el, e2⟩ => ?_)
  subst el e2
  refine thn (po_none.run pins s2 σ H2 (fun o H3 => o = none ∧ H3 = H2) I2 ⟨rfl, rfl⟩) fun vu s3 ⟨u, H3, I3, pu, eu, e3⟩ => ?_
  subst eu e3
  refine thn (hst.run pins s3 σ H3 (fun o H4 => o = some (-1) ∧ H4 = H3) I3 ⟨1, rfl, -1, rfl, rfl, rfl⟩) fun vs s4 ⟨o, H4, I4, ps, eo, e4⟩ => ?_
  subst eo e4
  cases pl
  cases pu
  cases ps with
  | int _ ts =>
  have I5 : Inv X pins σ H4 { s4 with heap := s4.heap.push { cls := .type "slice", data := .fields #[.none, .none, .int (-1) ts] } } := I4.kept (t' := s4.toks) fun b ob q => Heap.get?_push_of_some _ q
  show wpAny (model X.prog X.w) X.A (subscriptTail e (.Slice none none (some (.UnaryOp .USub (.Constant (.int 1) k p1) p2)) p3) (.str z tz) (.ref s4.heap.objs.size)) (EP X pins σ Q) X.xe { s4 with heap := s4.heap.push { cls := .type "slice", data := .fields #[.none, .none, .int (-1) ts] } }
  refine tail_any (ops := [.str z tz, .ref s4.heap.objs.size]) (typeIs_str _ _ _) (PySem.F.slot_str_getitem.lookup) ?_ (by with_unfolding_all rfl)
  refine wpAny_getItem_str_slice (l := none) (u := none) (st := some (-1, ts)) ⟨_, Heap.get?_push_size _ rfl, rfl, rfl⟩ rfl ?_
  have e1 : sliceMade z tz none none (some (-1, ts)) = Made.str (revS z) := by
    unfold sliceMade slicePicked
    have h1 : ¬ (((((some ((-1 : Int), ts)).map (·.1)).getD 1 == 1) && ((Builtin.Str.strSliceIndices ((none : Option (Int × Tok)).map (·.1)) ((none : Option (Int × Tok)).map (·.1)) (((some ((-1 : Int), ts)).map (·.1)).getD 1) z.length).length == z.length)) = true) := by
      have : ((((some ((-1 : Int), ts)).map (·.1)).getD 1 == 1)) = false := rfl
      rw [this]
      simp
    rw [if_neg h1]
    show Made.str ⟨((Builtin.Str.strSliceIndices none none (-1) z.length).filterMap (z.cps[·]?)).toArray⟩ = _
    rw [rev_picked]
    rfl
  rw [e1]
  refine ⟨?_, .str _, H4, I5.tok _, ⟨_, rfl⟩, q⟩
  rw [len_tl, tl_revS, List.length_reverse, ← len_tl]
  exact hz
/-! ### text.swapcase() -/
theorem mt_swapcase : MtR X "str.swapcase" (fun x xs H Q => ∃ a, x = .str a ∧ xs = [] ∧ a.length ≤ 5592405 ∧ Q (.str (Txt.swapcase a)) H) :=
  mt0 (C := fun a => a.length ≤ 5592405) (g := fun a => .str (Txt.swapcase a)) fun a _ s _ hc h =>
    PySem.SC.swapcase (PyProof.Rows.fit_swapcase hc) (h _ (s.toks + 1) ⟨_, rfl⟩)
theorem pe_swapcase {o : Expr} {to : TE} {apos pos : Pos} (ho : PE X o to) (hbase : attributeBase o "swapcase" X.env (eval o X.env) = eval o X.env := by rfl) (hline : (apos.endLine == pos.line) = true := by rfl) :
    PE X (.Call (.Attribute o "swapcase" apos) [] [] pos) (tM0 (fun x xs H Q => ∃ a, x = .str a ∧ xs = [] ∧ a.length ≤ 5592405 ∧ Q (.str (Txt.swapcase a)) H) to) :=
  pe_m0 PySem.F.slot_str_swapcase PySem.F.type_str_swapcase mt_swapcase ho hbase hline
theorem case_sgn : ∀ c, c < 128 → sgn c = true → (if Unicode.isUpper c then PyProof.Rows.lo1 c else if Unicode.isLower c then PyProof.Rows.up1 c else c) = flipC c := by decide +kernel
theorem sgn_lt {c : Nat} (h : sgn c = true) : c < 128 := by
  rw [sgn_iff] at h
  omega
def flipS (x : Str) : Str := ⟨((tl x).map flipC).toArray⟩
theorem swap_wd {x : Str} (h : Wd x) : Txt.swapcase x = flipS x := by
  unfold Txt.swapcase
  rw [PyProof.Rows.placed_single x _ flipC fun i c hc => by
    have hc' : x.cps[i]? = some c := by simpa using hc
    have hs := h c (List.mem_of_getElem? hc)
    have hlt := sgn_lt hs
    have hk := case_sgn c hlt hs
    unfold Unicode.lowerAt
    rw [hc']
    have hne : (c == 0x3A3) = false := by rw [beq_eq_false_iff_ne]; omega
    simp only [hne, Bool.false_and, Bool.false_eq_true, if_false]
    rw [PyProof.Rows.lowerOf_ascii c hlt, PyProof.Rows.upperOf_ascii c hlt, ← hk]
    by_cases h1 : Unicode.isUpper c = true
    · rw [if_pos h1, if_pos h1]
    · rw [if_neg h1, if_neg h1]
      by_cases h2 : Unicode.isLower c = true
      · rw [if_pos h2, if_pos h2]
      · rw [if_neg h2, if_neg h2]]
  apply ext_tl
  show (x.cps.map flipC).toList = (tl x).map flipC
  rw [Array.toList_map]
theorem flipS_one (c : Nat) : flipS (one c) = one (flipC c) := rfl
theorem tl_flipS (x : Str) : tl (flipS x) = (tl x).map flipC := rfl
theorem rev_wd {x : Str} (h : Wd x) : Wd (revS x) := fun c hc => h c (List.mem_reverse.mp hc)
theorem revS_len (x : Str) : (revS x).length = x.length := by rw [len_tl, tl_revS, List.length_reverse, ← len_tl]
end
end Sf
namespace Sf
open PySem PySem.Spec PyProof.Rows L2 TL
/-! ### words as lists of codes; the stack of a walk (its head is the last sign) -/
abbrev Sg (l : List Nat) : Prop := ∀ c ∈ l, sgn c = true
theorem flip2 {c : Nat} (h : sgn c = true) : flipC (flipC c) = c := by
  rw [sgn_iff] at h
  unfold flipC
  by_cases h1 : 97 ≤ c
  · rw [if_pos h1, if_neg (by omega)]
    omega
  · rw [if_neg h1, if_pos (by omega)]
    omega
theorem flip_inj {c d : Nat} (hc : sgn c = true) (hd : sgn d = true) (h : flipC c = flipC d) : c = d := by
  rw [← flip2 hc, ← flip2 hd, h]
def pushS (s : List Nat) (c : Nat) : List Nat :=
  match s with
  | [] => [c]
  | x :: t => if x = flipC c then t else c :: x :: t
def RedS : List Nat → Prop
  | [] => True
  | [_] => True
  | x :: y :: t => y ≠ flipC x ∧ RedS (y :: t)
theorem RedS.tail {x : Nat} {t : List Nat} (h : RedS (x :: t)) : RedS t := by
  cases t with
  | nil => trivial
  | cons y t => exact h.2
theorem RedS.suffix : ∀ {a b : List Nat}, RedS (a ++ b) → RedS b
  | [], _, h => h
  | _ :: a, _, h => RedS.suffix (a := a) (RedS.tail h)
theorem pushS_red {s : List Nat} {c : Nat} (h : RedS s) : RedS (pushS s c) := by
  cases s with
  | nil => trivial
  | cons x t =>
    unfold pushS
    by_cases e : x = flipC c
    · simp only [if_pos e]
      exact h.tail
    · simp only [if_neg e]
      exact ⟨e, h⟩
theorem pushS_sg {s : List Nat} {c : Nat} (h : Sg s) (hc : sgn c = true) : Sg (pushS s c) := by
  cases s with
  | nil =>
    intro d hd
    rw [pushS, List.mem_singleton] at hd
    rw [hd]
    exact hc
  | cons x t =>
    unfold pushS
    by_cases e : x = flipC c
    · simp only [if_pos e]
      exact fun d hd => h d (List.mem_cons_of_mem _ hd)
    · simp only [if_neg e]
      intro d hd
      rcases List.mem_cons.mp hd with rfl | hd
      · exact hc
      · exact h d hd
theorem pushS_inv {s : List Nat} {c : Nat} (h : RedS s) (hs : Sg s) (hc : sgn c = true) : pushS (pushS s c) (flipC c) = s := by
  cases s with
  | nil =>
    show (if c = flipC (flipC c) then [] else _) = ([] : List Nat)
    rw [if_pos (flip2 hc).symm]
  | cons x t =>
    by_cases e : x = flipC c
    · have e1 : pushS (x :: t) c = t := by simp only [pushS, if_pos e]
      rw [e1, e]
      cases t with
      | nil => rfl
      | cons y t =>
        have hn : ¬ y = flipC (flipC c) := by
          rw [← e]
          exact h.1
        simp only [pushS, if_neg hn]
    · have e1 : pushS (x :: t) c = c :: x :: t := by simp only [pushS, if_neg e]
      rw [e1]
      simp only [pushS, if_pos (flip2 hc).symm]
def runS (s w : List Nat) : List Nat := w.foldl pushS s
theorem runS_cons (s : List Nat) (c : Nat) (w : List Nat) : runS s (c :: w) = runS (pushS s c) w := rfl
theorem runS_app (s u v : List Nat) : runS s (u ++ v) = runS (runS s u) v := List.foldl_append
theorem runS_red : ∀ {w s : List Nat}, RedS s → RedS (runS s w)
  | [], _, h => h
  | _ :: w, _, h => runS_red (w := w) (pushS_red h)
theorem runS_sg : ∀ {w s : List Nat}, Sg s → Sg w → Sg (runS s w)
  | [], _, h, _ => h
  | c :: w, _, h, hw => runS_sg (w := w) (pushS_sg h (hw c (List.mem_cons_self ..))) (fun d hd => hw d (List.mem_cons_of_mem _ hd))
def backL (w : List Nat) : List Nat := (w.map flipC).reverse
theorem backL_cons (c : Nat) (w : List Nat) : backL (c :: w) = backL w ++ [flipC c] := by
  unfold backL
  rw [List.map_cons, List.reverse_cons]
theorem backL_app (u v : List Nat) : backL (u ++ v) = backL v ++ backL u := by
  unfold backL
  rw [List.map_append, List.reverse_append]
theorem backL_sg {w : List Nat} (h : Sg w) : Sg (backL w) := fun c hc => by
  unfold backL at hc
  rw [List.mem_reverse, List.mem_map] at hc
  obtain ⟨d, hd, rfl⟩ := hc
  exact flip_sgn (h d hd)
theorem backL_back {w : List Nat} (h : Sg w) : backL (backL w) = w := by
  unfold backL
  rw [List.map_reverse, List.reverse_reverse, List.map_map]
  have e : w.map (flipC ∘ flipC) = w.map id := List.map_congr_left fun c hc => flip2 (h c hc)
  rw [e, List.map_id]
theorem run_back : ∀ {w s : List Nat}, RedS s → Sg s → Sg w → runS (runS s w) (backL w) = s
  | [], _, _, _, _ => rfl
  | c :: w, s, h, hs, hw => by
    have hc := hw c (List.mem_cons_self ..)
    rw [runS_cons, backL_cons, runS_app, run_back (w := w) (pushS_red h) (pushS_sg hs hc) (fun d hd => hw d (List.mem_cons_of_mem _ hd))]
    exact pushS_inv h hs hc
theorem pushS_of {s : List Nat} {c : Nat} (h : RedS (c :: s)) : pushS s c = c :: s := by
  cases s with
  | nil => rfl
  | cons x t => simp only [pushS, if_neg h.1]
theorem run_of_red : ∀ {w s : List Nat}, RedS (w.reverse ++ s) → runS s w = w.reverse ++ s
  | [], _, _ => rfl
  | c :: w, s, h => by
    rw [List.reverse_cons, List.append_assoc] at h ⊢
    rw [runS_cons, pushS_of (s := s) (RedS.suffix (b := c :: s) h)]
    exact run_of_red h
/-- a word reduced, as a list from its first sign -/
def shortL (w : List Nat) : List Nat := (runS [] w).reverse
theorem shortL_sg {w : List Nat} (h : Sg w) : Sg (shortL w) := fun c hc => runS_sg (s := []) (fun _ z => by cases z) h c (List.mem_reverse.mp hc)
def push (l : List Nat) (c : Nat) : List Nat := (pushS l.reverse c).reverse
theorem shortL_snoc (w : List Nat) (c : Nat) : shortL (w ++ [c]) = push (shortL w) c := by
  unfold shortL push
  rw [runS_app, List.reverse_reverse]
  rfl
theorem push_last {l : List Nat} {c : Nat} (x : Nat) : push (l ++ [x]) c = if x = flipC c then l else l ++ [x] ++ [c] := by
  unfold push
  rw [List.reverse_append]
  show (if x = flipC c then l.reverse else c :: x :: l.reverse).reverse = _
  by_cases e : x = flipC c
  · rw [if_pos e, if_pos e, List.reverse_reverse]
  · rw [if_neg e, if_neg e]
    simp
theorem push_nil (c : Nat) : push [] c = [c] := rfl
/-- two words put together where they meet -/
def glS : List Nat → List Nat → List Nat
  | x :: s, y :: b => if x = flipC y then glS s b else (y :: b).reverse ++ (x :: s)
  | [], b => b.reverse
  | x :: s, [] => x :: s
theorem RedS.join : ∀ {a : List Nat} {y : Nat} {s : List Nat}, RedS (a ++ [y]) → RedS (y :: s) → RedS (a ++ y :: s)
  | [], _, _, _, h => h
  | [x], y, s, h, k => ⟨h.1, k⟩
  | x :: z :: a, y, s, h, k => ⟨h.1, RedS.join (a := z :: a) h.2 k⟩
theorem glS_run : ∀ {b s : List Nat}, RedS b.reverse → RedS s → glS s b = runS s b
  | [], [], _, _ => rfl
  | [], _ :: _, _, _ => rfl
  | y :: b, [], h, _ => by
    have e := run_of_red (w := y :: b) (s := []) (by rw [List.append_nil]; exact h)
    rw [List.append_nil] at e
    exact e.symm
  | y :: b, x :: s, h, k => by
    rw [List.reverse_cons] at h
    by_cases e : x = flipC y
    · have e1 : pushS (x :: s) y = s := by simp only [pushS, if_pos e]
      rw [glS, if_pos e, runS_cons, e1]
      refine glS_run ?_ k.tail
      exact RedS.prefix h
    · have e1 : pushS (x :: s) y = y :: x :: s := by simp only [pushS, if_neg e]
      rw [glS, if_neg e, runS_cons, e1, List.reverse_cons, List.append_assoc]
      exact (run_of_red (RedS.join h (show RedS (y :: x :: s) from ⟨e, k⟩))).symm
where
  RedS.prefix : ∀ {a b : List Nat}, RedS (a ++ b) → RedS a
  | [], _, _ => trivial
  | [_], _, _ => trivial
  | _ :: y :: a, _, h => ⟨h.1, RedS.prefix (a := y :: a) h.2⟩
end Sf
namespace Sf
open PySem PySem.Spec PyProof.Rows L2 TL
/-! ### texts of words -/
def mkS (l : List Nat) : Str := ⟨l.toArray⟩
theorem tl_mkS (l : List Nat) : tl (mkS l) = l := rfl
theorem mkS_tl (x : Str) : mkS (tl x) = x := mk_tl x
theorem mkS_len (l : List Nat) : (mkS l).length = l.length := by rw [len_tl, tl_mkS]
theorem eq_mkS {x : Str} {l : List Nat} (h : tl x = l) : x = mkS l := ext_tl h
/-- a word undone, reduced, glued, as texts -/
def backT (x : Str) : Str := mkS (backL (tl x))
def shortT (x : Str) : Str := mkS (shortL (tl x))
def gluT (x y : Str) : Str := mkS (glS (tl x).reverse (tl y)).reverse
theorem glS_sg : ∀ {s b : List Nat}, Sg s → Sg b → Sg (glS s b)
  | x :: s, y :: b, hs, hb => by
    unfold glS
    by_cases e : x = flipC y
    · rw [if_pos e]
      exact glS_sg (fun c hc => hs c (List.mem_cons_of_mem _ hc)) (fun c hc => hb c (List.mem_cons_of_mem _ hc))
    · rw [if_neg e]
      intro c hc
      rcases List.mem_append.mp hc with hc | hc
      · exact hb c (List.mem_reverse.mp hc)
      · exact hs c hc
  | [], b, _, hb => fun c hc => hb c (List.mem_reverse.mp (by unfold glS at hc; exact hc))
  | x :: s, [], hs, _ => hs
theorem glS_len : ∀ {s b : List Nat}, (glS s b).length ≤ s.length + b.length
  | x :: s, y :: b => by
    unfold glS
    by_cases e : x = flipC y
    · rw [if_pos e]
      have := glS_len (s := s) (b := b)
      simp only [List.length_cons]
      omega
    · rw [if_neg e]
      simp only [List.length_append, List.length_reverse, List.length_cons]
      omega
  | [], b => by
    unfold glS
    simp
  | x :: s, [] => by
    unfold glS
    simp
theorem gluT_wd {x y : Str} (hx : Wd x) (hy : Wd y) : Wd (gluT x y) := fun c hc => by
  unfold gluT at hc
  rw [tl_mkS, List.mem_reverse] at hc
  exact glS_sg (fun d hd => hx d (List.mem_reverse.mp hd)) hy c hc
theorem gluT_len (x y : Str) : (gluT x y).length ≤ x.length + y.length := by
  unfold gluT
  rw [mkS_len, List.length_reverse, len_tl, len_tl]
  have := glS_len (s := (tl x).reverse) (b := tl y)
  rw [List.length_reverse] at this
  exact this
theorem backT_wd {x : Str} (h : Wd x) : Wd (backT x) := fun c hc => backL_sg h c hc
theorem backT_len (x : Str) : (backT x).length = x.length := by
  unfold backT backL
  rw [mkS_len, List.length_reverse, List.length_map, len_tl]
theorem backT_back {x : Str} (h : Wd x) : backT (backT x) = x := by
  unfold backT
  rw [tl_mkS, backL_back h, mkS_tl]
theorem runS_len : ∀ (w s : List Nat), (runS s w).length ≤ s.length + w.length
  | [], s => by simp [runS]
  | c :: w, s => by
    have h := runS_len w (pushS s c)
    rw [runS_cons]
    have h2 : (pushS s c).length ≤ s.length + 1 := by
      cases s with
      | nil => simp [pushS]
      | cons x t =>
        unfold pushS
        by_cases e : x = flipC c
        · simp only [if_pos e, List.length_cons]
          omega
        · simp only [if_neg e, List.length_cons]
          omega
    simp only [List.length_cons]
    omega
theorem shortL_len (w : List Nat) : (shortL w).length ≤ w.length := by
  unfold shortL
  rw [List.length_reverse]
  have := runS_len w []
  simpa using this
theorem glu_one {l : List Nat} {c : Nat} : (glS l.reverse [c]).reverse = push l c := by
  unfold push
  cases h : l.reverse with
  | nil => rfl
  | cons x t =>
    unfold glS pushS
    by_cases e : x = flipC c
    · simp only [if_pos e]
      cases t <;> rfl
    · simp only [if_neg e]
      rfl
end Sf
namespace Sf
open PySem PySem.Spec PyProof.Rows L2 TL
section
variable {P : Program} {w : World} {K : PySem.W.Frag} {mg : Str → Option Value} {base : Heap}
/-! ### need_word, turned, undone -/
def spNeed : Sp := fun vs H Q _ => ∃ x : Str, vs = [.str x] ∧ Wd x ∧ x.length ≤ 60 ∧ ∀ H', Same H H' → Q .non H'
abbrev HasNeed (P : Program) (w : World) (K : PySem.W.Frag) (mg : Str → Option Value) (base : Heap) : Prop := Has P w K mg base 2 "need_word" ["text"] spNeed
theorem sc_need : FnScope ["text"] ["text"] (defScope s_need_word) := ⟨rfl, rfl, rfl, by decide +kernel, rfl, by decide +kernel, by decide +kernel⟩
theorem has_need (F : FnAt K mg "need_word" s_need_word ["text"]) (hI : HasIsWord P w K mg base) : HasNeed P w K mg base := F.has fun F => by
  obtain ⟨fI, fdI, gI, kI, bI, GI⟩ := hI
  refine F.ok sc_need (fun vs H Q E h => ?_) (fun cdv A outer s H vs Q E hr h => ?_)
  · obtain ⟨x, rfl, _⟩ := h
    rfl
  · obtain ⟨x, rfl, hx, hl, q⟩ := h
    refine ⟨_, pss_one (ps_if (pt_not (pt_val (pe_call GI hr (by rfl) gI kI bI .nil pass0 (pa_cons (pv 0) pa_nil)))) pss_never pss_nil), ?_⟩
    refine ⟨_, rfl, x, rfl, by omega, fun H' s' => ⟨_, rfl, ?_⟩⟩
    rw [isW_true hx hl]
    exact iteF (q H' s')
end
end Sf
namespace Sf
open PySem PySem.Spec PyProof.Rows L2 TL
section
variable {P : Program} {w : World} {K : PySem.W.Frag} {mg : Str → Option Value} {base : Heap}
/-! ### glued, shortened, reduced -/
def spGlued : Sp := fun vs H Q _ => ∃ x y : Str, vs = [.str x, .str y] ∧ Wd x ∧ Wd y ∧ x.length + y.length ≤ 100000 ∧ Q (.str (gluT x y)) H
abbrev HasGlued (P : Program) (w : World) (K : PySem.W.Frag) (mg : Str → Option Value) (base : Heap) : Prop := Has P w K mg base 1 "glued" ["one", "other"] spGlued
theorem sc_glued : FnScope ["one", "other", "most", "gone"] ["one", "other"] (defScope s_glued) := ⟨rfl, rfl, rfl, by decide +kernel, rfl, by decide +kernel, by decide +kernel⟩
theorem at_neg {l : List Nat} {g : Nat} (h : g < l.length) : atI l (-1 - (g : Int)) = some (l.reverse[g]'(by rw [List.length_reverse]; exact h)) := by
  unfold atI ixN
  rw [if_neg (by omega), if_pos (by omega)]
  have e : ((-1 - (g : Int)) + (l.length : Nat)).toNat = l.length - 1 - g := by omega
  rw [e, Option.bind_some, List.getElem_reverse, List.getElem?_eq_getElem]
theorem glu_step {a b : List Nat} {g : Nat} (h1 : g < a.length) (h2 : g < b.length) (e : a[g] = flipC b[g]) : glS (a.drop g) (b.drop g) = glS (a.drop (g + 1)) (b.drop (g + 1)) := by
  rw [List.drop_eq_getElem_cons h1, List.drop_eq_getElem_cons h2, glS, if_pos e]
theorem glu_stop {a b : List Nat} {g : Nat} (h : g = min a.length b.length ∨ ∃ (h1 : g < a.length) (h2 : g < b.length), a[g] ≠ flipC b[g]) : glS (a.drop g) (b.drop g) = (b.drop g).reverse ++ a.drop g := by
  rcases h with h | ⟨h1, h2, e⟩
  · rcases Nat.le_total a.length b.length with hl | hl
    · rw [List.drop_eq_nil_of_le (as := a) (by omega), glS, List.append_nil]
    · rw [List.drop_eq_nil_of_le (as := b) (by omega)]
      cases a.drop g <;> rfl
  · rw [List.drop_eq_getElem_cons h1, List.drop_eq_getElem_cons h2, glS, if_neg e]
theorem cut_to {x : Str} {n : Int} (h0 : 0 ≤ n) (h1 : n ≤ x.length) : tl (cutS x none (some n)) = (tl x).take n.toNat := by
  rw [tl_cut]
  obtain ⟨m, rfl⟩ : ∃ m : Nat, n = (m : Int) := ⟨n.toNat, by omega⟩
  rw [HT.sIx_none, HT.sIx_nat, List.drop_zero, Int.toNat_natCast, Nat.sub_zero, Nat.min_eq_left (by omega)]
theorem cut_from {x : Str} {n : Int} (h0 : 0 ≤ n) (h1 : n ≤ x.length) : tl (cutS x (some n) none) = (tl x).drop n.toNat := by
  rw [tl_cut]
  obtain ⟨m, rfl⟩ : ∃ m : Nat, n = (m : Int) := ⟨n.toNat, by omega⟩
  rw [HT.sIx_none, HT.sIx_nat, Int.toNat_natCast, Nat.min_eq_left (by omega)]
  refine List.take_of_length_le ?_
  rw [List.length_drop, ← len_tl]
  exact Nat.le_refl _
theorem has_glued (F : FnAt K mg "glued" s_glued ["one", "other"]) (B : Blt mg) (mmin : mg "min" = none) : HasGlued P w K mg base := F.has fun F => by
  refine F.ok sc_glued (fun vs H Q E h => ?_) (fun cdv A outer s H vs Q E hr h => ?_)
  · obtain ⟨x, y, rfl, _⟩ := h
    rfl
  · obtain ⟨x, y, rfl, hx, hy, hl, q⟩ := h
    have zx := len_tl x
    have zy := len_tl y
    refine ⟨_, pss_cons (ps_set (i := 2) sc_glued.nd rfl (.inl rfl) (pe_callB (call_min2 rfl) (by rfl) mmin (by decide +kernel) (pa_cons (pe_callB call_len_str (by rfl) B.len PySem.boot_len (pa_cons (pv 0) pa_nil)) (pa_cons (pe_callB call_len_str (by rfl) B.len PySem.boot_len (pa_cons (pv 1) pa_nil)) pa_nil))))
      (pss_cons (ps_set (i := 3) sc_glued.nd rfl (.inl rfl) pe_int)
      (pss_cons (ps_while PassesOwn.never (PW.pt (pw_and (pt_cmpR op_lt (pv 3) (pv 2) (nomark _)) (pw_and1 (pt_cmpR op_eq (pe_ix ix_str (pv 0) (pe_op op_sub (pe_un un_neg pe_int) (pv 3)) (fun _ _ => rfl)) (pe_swapcase (pe_ix ix_str (pv 1) (pv 3) (fun _ _ => rfl))) (nomark _)))))
        (pss_one (ps_aug (i := 3) sc_glued.nd rfl (.inl rfl) pe_int ip_add)))
      (pss_one (ps_ret (pe_op op_add_str (pe_slice sl_str (pv 0) po_none (po_some (pe_op op_sub (pe_callB call_len_str (by rfl) B.len PySem.boot_len (pa_cons (pv 0) pa_nil)) (pv 3)))) (pe_slice sl_str (pv 1) (po_some (pv 3)) po_none)))))), ?_⟩
    refine ⟨_, rfl, x, rfl, line_of (by omega), _, rfl, y, rfl, line_of (by omega), _, _, rfl, ?_⟩
    have em : (if (y.length : Int) < (x.length : Int) then (y.length : Int) else (x.length : Int)) = ((min (tl x).reverse.length (tl y).length : Nat) : Int) := by
      rw [List.length_reverse, ← zx, ← zy]
      split <;> omega
    rw [em]
    refine ⟨fun m σ H1 => ∃ g : Nat, σ = [some (.str x), some (.str y), some (.int ((min (tl x).reverse.length (tl y).length : Nat) : Int)), some (.int (g : Int))] ∧ H1 = H ∧ g ≤ min (tl x).reverse.length (tl y).length ∧ glS (tl x).reverse (tl y) = glS ((tl x).reverse.drop g) ((tl y).drop g) ∧ m = min (tl x).reverse.length (tl y).length - g, ⟨_, 0, rfl, rfl, Nat.zero_le _, rfl, rfl⟩, ?_⟩
    · rintro m σ H1 ⟨g, rfl, rfl, hg, eg, rfl⟩
      have fin : (g = min (tl x).reverse.length (tl y).length ∨ ∃ (h1 : g < (tl x).reverse.length) (h2 : g < (tl y).length), (tl x).reverse[g] ≠ flipC (tl y)[g]) → Q (.str (cutS x none (some ((x.length : Int) - (g : Int))) ++ cutS y (some (g : Int)) none)) H1 := by
        intro hstop
        have e : cutS x none (some ((x.length : Int) - (g : Int))) ++ cutS y (some (g : Int)) none = gluT x y := by
          refine eq_mkS ?_
          rw [List.length_reverse, ← zx, ← zy] at hg
          rw [eg, glu_stop hstop, tl_append, cut_to (by omega) (by omega), cut_from (by omega) (by omega), List.reverse_append, List.reverse_reverse, List.reverse_drop, List.reverse_reverse, List.length_reverse, ← zx]
          have e1 : ((x.length : Int) - (g : Int)).toNat = x.length - g := by omega
          rw [e1, Int.toNat_natCast]
        rw [e]
        exact q
      have tail : (g = min (tl x).reverse.length (tl y).length ∨ ∃ (h1 : g < (tl x).reverse.length) (h2 : g < (tl y).length), (tl x).reverse[g] ≠ flipC (tl y)[g]) → ∃ v : V, some (some (V.str x)) = some (some v) ∧ ∃ v2 : V, some (some (V.str x)) = some (some v2) ∧ ∃ z : Str, [v2] = [V.str z] ∧ z.length ≤ sizeLine ∧ ∃ v3 : V, some (some (V.int (g : Int))) = some (some v3) ∧
          ∃ i j : Int, V.int z.length = .int i ∧ v3 = .int j ∧ ∃ k : Int, V.int (i - j) = .int k ∧ ∃ z2 : Str, v = .str z2 ∧ z2.length ≤ sizeLine ∧ ∃ v4 : V, some (some (V.str y)) = some (some v4) ∧ ∃ v5 : V, some (some (V.int (g : Int))) = some (some v5) ∧ ∃ i2 : Int, v5 = .int i2 ∧ ∃ z3 : Str, v4 = .str z3 ∧ z3.length ≤ sizeLine ∧
            ∃ i3 j3 : Str, V.str (cutS z2 none (some k)) = .str i3 ∧ V.str (cutS z3 (some i2) none) = .str j3 ∧ i3.length + j3.length ≤ sizeLine ∧ Q (.str (i3 ++ j3)) H1 := fun hstop =>
        ⟨_, rfl, _, rfl, x, rfl, line_of (by omega), _, rfl, _, _, rfl, rfl, _, rfl, x, rfl, line_of (by omega), _, rfl, _, rfl, _, rfl, y, rfl, line_of (by omega), _, _, rfl, rfl, line_of (Nat.le_trans (Nat.add_le_add (cutS_length x _ _) (cutS_length y _ _)) hl), fin hstop⟩
      refine ⟨_, rfl, _, rfl, (g : Int), _, rfl, rfl, _, rfl, ite2 (fun e => ?_) (fun e => ?_)⟩
      · have hlt : g < min (tl x).reverse.length (tl y).length := by
          have := of_decide_eq_true e
          omega
        have h1 : g < (tl x).reverse.length := by omega
        have h2 : g < (tl y).length := by omega
        have h1' : g < (tl x).length := by
          rw [List.length_reverse] at h1
          exact h1
        have ay : atI (tl y) (g : Int) = some (tl y)[g] := atI_nat (List.getElem?_eq_getElem h2)
        have sy := hy _ (List.getElem_mem h2)
        refine ⟨_, rfl, 1, rfl, _, rfl, -1, (g : Int), rfl, rfl, x, _, _, rfl, rfl, line_of (by omega), at_neg h1', _, rfl, _, rfl, y, _, _, rfl, rfl, line_of (by omega), ay, ⟨_, rfl⟩, _, rfl, rfl, by rw [len_one]; decide, ?_⟩
        rw [swap_wd (wd_one sy), flipS_one]
        refine ⟨rfl, _, rfl, ite2 (fun e2 => ?_) (fun e2 => ?_)⟩
        · have e3 : (tl x).reverse[g] = flipC (tl y)[g] := by
            have := of_decide_eq_true e2
            have h5 := V.str.inj this
            have h6 := congrArg tl h5
            exact List.head_eq_of_cons_eq h6
          refine ⟨fun σ' H' => σ' = [some (.str x), some (.str y), some (.int ((min (tl x).reverse.length (tl y).length : Nat) : Int)), some (.int ((g : Int) + 1))] ∧ H' = H1, fun σ' H' hN => ?_, ?_⟩
          · obtain ⟨rfl, rfl⟩ := hN
            exact ⟨min (tl x).reverse.length (tl y).length - (g + 1), by omega, g + 1, rfl, rfl, by omega, by rw [eg, glu_step h1 h2 e3], rfl⟩
          · exact ⟨_, rfl, _, _, rfl, rfl, rfl, rfl⟩
        · exact tail (.inr ⟨h1, h2, fun z => e2 (decide_eq_true (by rw [z]))⟩)
      · have hge : g = min (tl x).reverse.length (tl y).length := by
          have : ¬ ((g : Int) < ((min (tl x).reverse.length (tl y).length : Nat) : Int)) := fun z => e (decide_eq_true z)
          omega
        exact iteF (tail (.inl hge))
end
end Sf
namespace Sf
open PySem PySem.Spec PyProof.Rows L2 TL
section
variable {P : Program} {w : World} {K : PySem.W.Frag} {mg : Str → Option Value} {base : Heap}
def spTurned : Sp := fun vs H Q _ => ∃ x : Str, vs = [.str x] ∧ Wd x ∧ x.length ≤ 100000 ∧ Q (.str (backT x)) H
abbrev HasTurned (P : Program) (w : World) (K : PySem.W.Frag) (mg : Str → Option Value) (base : Heap) : Prop := Has P w K mg base 1 "turned" ["word"] spTurned
theorem sc_turned : FnScope ["word"] ["word"] (defScope s_turned) := ⟨rfl, rfl, rfl, by decide +kernel, rfl, by decide +kernel, by decide +kernel⟩
theorem has_turned (F : FnAt K mg "turned" s_turned ["word"]) : HasTurned P w K mg base := F.has fun F => by
  refine F.ok sc_turned (fun vs H Q E h => ?_) (fun cdv A outer s H vs Q E hr h => ?_)
  · obtain ⟨x, rfl, _⟩ := h
    rfl
  · obtain ⟨x, rfl, hx, hl, q⟩ := h
    refine ⟨_, pss_one (ps_ret (pe_swapcase (pe_revS (pv 0)))), ?_⟩
    refine ⟨_, rfl, x, rfl, line_of hl, ⟨_, rfl⟩, _, rfl, rfl, by rw [revS_len]; omega, ?_⟩
    have e : Txt.swapcase (revS x) = backT x := by
      rw [swap_wd (rev_wd hx)]
      refine eq_mkS ?_
      rw [tl_flipS, tl_revS, List.map_reverse]
      rfl
    rw [e]
    exact q
end
end Sf
namespace Sf
open PySem PySem.Spec PyProof.Rows L2 TL
/-! ### lists of texts, joined -/
theorem joinL_nil : ∀ ps : List (List Nat), joinL [] ps = ps.flatten
  | [] => rfl
  | [p] => by simp [joinL]
  | p :: q :: r => by
    show p ++ ([] ++ joinL [] (q :: r)) = _
    rw [joinL_nil (q :: r), List.nil_append]
    rfl
theorem tl_empty : tl (Str.ofString "") = [] := by decide +kernel
theorem join_tl (ys : List Str) : Txt.join (Str.ofString "") ys = mkS (ys.map tl).flatten := by
  refine eq_mkS ?_
  rw [join_eq, tl_join, tl_empty, joinL_nil]
theorem join_ones (l : List Nat) : Txt.join (Str.ofString "") (l.map one) = mkS l := by
  rw [join_tl, List.map_map]
  congr 1
  induction l with
  | nil => rfl
  | cons c l ih =>
    rw [List.map_cons, List.flatten_cons, ih]
    rfl
theorem len_empty : (Str.ofString "").length = 0 := by decide +kernel
theorem ones_sum (l : List Nat) : ((l.map one).map (·.length)).sum = l.length := by
  induction l with
  | nil => rfl
  | cons c l ih =>
    rw [List.map_cons, List.map_cons, List.sum_cons, ih, len_one, List.length_cons]
    omega
theorem join_fit {l : List Nat} (h : l.length ≤ 100000) : ((l.map one).map (·.length)).sum + (l.map one).length * (Str.ofString "").length ≤ 16777216 := by
  rw [ones_sum, len_empty]
  omega
/-- data of a list of single signs -/
def dOnes (l : List Nat) : PyData := .list (l.map fun c => .str (one c))
theorem dp_all {K : PySem.W.Frag} {H : Hp} : ∀ l : List Nat, DpAll K H (l.map fun c => V.str (one c)) (l.map fun c => .str (one c))
  | [] => .nil
  | _ :: l => .cons (.str _) (dp_all l)
theorem ones_lay : ∀ {l : List Nat}, Sg l → PyData.canLayAll0 (l.map fun c => .str (one c)) = true
  | [], _ => rfl
  | c :: l, h => by
    have hc := h c (List.mem_cons_self ..)
    have e : PyData.canLay0 (.str (one c)) = true := by
      rw [sgn_iff] at hc
      have : ∀ d, d < 128 → PyData.canLay0 (.str (one d)) = true := by decide +kernel
      exact this c (by omega)
    rw [List.map_cons, PyData.canLayAll0, e, ones_lay fun d hd => h d (List.mem_cons_of_mem _ hd)]
    rfl
theorem ones_depth : ∀ l : List Nat, PyData.depthAll (l.map fun c => .str (one c)) = 0
  | [] => rfl
  | _ :: l => by
    rw [List.map_cons, PyData.depthAll, ones_depth l]
    rfl
theorem ones_shaped {l : List Nat} (h : Sg l) : SeqAt.shaped (dOnes l) = true := by
  unfold SeqAt.shaped dOnes
  rw [PyData.canLay0, ones_lay h, Bool.true_and, PyData.depth, ones_depth]
  rfl
theorem ones_nil {l : List Nat} : PyData.eqv (dOnes l) (.list []) = l.isEmpty := by
  unfold dOnes
  cases l with
  | nil => simp [PyData.eqv, PyData.eqvAll]
  | cons c l => simp [PyData.eqv, PyData.eqvAll]
theorem Fx.toSame {L : Addr} {H H' : Hp} (f : Fx L H H') (n : H L = none) : Same H H' := fun b o e => f b o e (ne_of_none e n)
theorem glu_take {l : List Nat} {i c : Nat} (h : l[i]? = some c) : gluT (mkS (shortL (l.take i))) (one c) = mkS (shortL (l.take (i + 1))) := by
  unfold gluT
  rw [tl_mkS, tl_one, glu_one, ← shortL_snoc, List.take_add_one, h]
  rfl
end Sf
namespace Sf
open PySem PySem.Spec PyProof.Rows L2 TL
section
variable {P : Program} {w : World} {K : PySem.W.Frag} {mg : Str → Option Value} {base : Heap}
/-! ### shortened, reduced -/
def spShortened : Sp := fun vs H Q _ => ∃ x : Str, vs = [.str x] ∧ Wd x ∧ x.length ≤ 50000 ∧ Q (.str (shortT x)) H
abbrev HasShortened (P : Program) (w : World) (K : PySem.W.Frag) (mg : Str → Option Value) (base : Heap) : Prop := Has P w K mg base 2 "shortened" ["word"] spShortened
theorem sc_shortened : FnScope ["word", "left", "sign"] ["word"] (defScope s_shortened) := ⟨rfl, rfl, rfl, by decide +kernel, rfl, by decide +kernel, by decide +kernel⟩
theorem has_shortened (F : FnAt K mg "shortened" s_shortened ["word"]) (hG : HasGlued P w K mg base) : HasShortened P w K mg base := F.has fun F => by
  obtain ⟨fG, fdG, gG, kG, bG, GG⟩ := hG
  refine F.ok sc_shortened (fun vs H Q E h => ?_) (fun cdv A outer s H vs Q E hr h => ?_)
  · obtain ⟨x, rfl, _⟩ := h
    rfl
  · obtain ⟨x, rfl, hx, hl, q⟩ := h
    have hz : x.cps.size = (tl x).length := len_tl x
    refine ⟨_, pss_cons (ps_set (i := 1) sc_shortened.nd rfl (.inl rfl) pe_str)
      (pss_cons (ps_for PassesOwn.never rfl (pi_str (pv 0)) (pg_name (i := 2) sc_shortened.nd rfl (.inl rfl)) (pss_one (ps_set (i := 1) sc_shortened.nd rfl (.inl rfl) (pe_call GG hr (by rfl) gG kG bG .nil pass0 (pa_cons (pv 1) (pa_cons (pv 2) pa_nil))))))
      (pss_one (ps_ret (pv 1)))), ?_⟩
    refine ⟨_, rfl, x, rfl, for_gen (n := x.cps.size) (fun i σ H1 => ∃ y : Option V, σ = [some (.str x), some (.str (mkS (shortL ((tl x).take i)))), y] ∧ H1 = H) ⟨none, rfl, rfl⟩ (fun i σ H1 hi _ => hi) (fun σ H1 _ => Nat.le_refl _) ?_ ?_⟩
    · rintro i v σ H1 H2 hi ⟨y, rfl, rfl⟩ ⟨rfl, c, hc, rfl⟩
      have hc' := getElem?_of_cps hc
      have hs := hx c (List.mem_of_getElem? hc')
      refine ⟨_, rfl, _, rfl, _, _, rfl, ?_, wd_one hs, ?_, ?_⟩
      · exact shortL_sg fun d hd => hx d (List.mem_of_mem_take hd)
      · rw [mkS_len, len_one]
        have := shortL_len ((tl x).take i)
        rw [List.length_take] at this
        have h3 : x.length = (tl x).length := len_tl x
        omega
      · rw [glu_take hc']
        exact ⟨_, rfl, rfl⟩
    · rintro σ H1 ⟨y, rfl, rfl⟩
      refine ⟨_, rfl, ?_⟩
      rw [List.take_of_length_le (by rw [hz]; exact Nat.le_refl _)]
      exact q
def spReduced : Sp := fun vs H Q _ => ∃ x : Str, vs = [.str x] ∧ Wd x ∧ x.length ≤ 60 ∧ ∀ H', Same H H' → Q (.str (shortT x)) H'
abbrev HasReduced (P : Program) (w : World) (K : PySem.W.Frag) (mg : Str → Option Value) (base : Heap) : Prop := Has P w K mg base 3 "reduced" ["word"] spReduced
end
end Sf
namespace Sf
open PySem PySem.Spec PyProof.Rows L2 TL
section
variable {P : Program} {w : World} {K : PySem.W.Frag} {mg : Str → Option Value} {base : Heap}
/-! ### _law_back, _law_short -/
def spBack : Sp := fun vs H Q _ => ∃ x : Str, vs = [.str x] ∧ Wd x ∧ x.length ≤ 50000 ∧ ∀ H', Same H H' → Q (.str (backT x)) H'
abbrev HasBack (P : Program) (w : World) (K : PySem.W.Frag) (mg : Str → Option Value) (base : Heap) : Prop := Has P w K mg base 2 "_law_back" ["_law_word_here"] spBack
def spShort : Sp := fun vs H Q _ => ∃ x : Str, vs = [.str x] ∧ Wd x ∧ x.length ≤ 50000 ∧ ∀ H', Same H H' → Q (.str (shortT x)) H'
abbrev HasShort (P : Program) (w : World) (K : PySem.W.Frag) (mg : Str → Option Value) (base : Heap) : Prop := Has P w K mg base 2 "_law_short" ["_law_word_here"] spShort
end
end Sf
namespace Sf
open PySem PySem.Spec PyProof.Rows L2 TL
section
variable {P : Program} {w : World} {K : PySem.W.Frag} {mg : Str → Option Value} {base : Heap}
theorem sc_reduced : FnScope ["word"] ["word"] (defScope s_reduced) := ⟨rfl, rfl, rfl, by decide +kernel, rfl, by decide +kernel, by decide +kernel⟩
theorem has_reduced (F : FnAt K mg "reduced" s_reduced ["word"]) (hN : HasNeed P w K mg base) (hS : HasShortened P w K mg base) : HasReduced P w K mg base := F.has fun F => by
  obtain ⟨fN, fdN, gN, kN, bN, GN⟩ := hN
  obtain ⟨fS, fdS, gS, kS, bS, GS⟩ := hS
  refine F.ok sc_reduced (fun vs H Q E h => ?_) (fun cdv A outer s H vs Q E hr h => ?_)
  · obtain ⟨x, rfl, _⟩ := h
    rfl
  · obtain ⟨x, rfl, hx, hl, q⟩ := h
    refine ⟨_, pss_cons (ps_expr (pe_call GN hr (by rfl) gN kN bN .nil pass0 (pa_cons (pv 0) pa_nil))) (pss_one (ps_ret (pe_call GS hr (by rfl) gS kS bS .nil pass0 (pa_cons (pv 0) pa_nil)))), ?_⟩
    exact ⟨_, rfl, x, rfl, hx, hl, fun H1 s1 => ⟨_, rfl, x, rfl, hx, by omega, q H1 s1⟩⟩
end
end Sf
namespace Sf
open PySem PySem.Spec PyProof.Rows L2 TL
section
variable {P : Program} {w : World} {K : PySem.W.Frag} {mg : Str → Option Value} {base : Heap}
def spUndone : Sp := fun vs H Q _ => ∃ x : Str, vs = [.str x] ∧ Wd x ∧ x.length ≤ 60 ∧ ∀ H', Same H H' → Q (.str (backT x)) H'
abbrev HasUndone (P : Program) (w : World) (K : PySem.W.Frag) (mg : Str → Option Value) (base : Heap) : Prop := Has P w K mg base 3 "undone" ["word"] spUndone
theorem sc_undone : FnScope ["word"] ["word"] (defScope s_undone) := ⟨rfl, rfl, rfl, by decide +kernel, rfl, by decide +kernel, by decide +kernel⟩
theorem has_undone (F : FnAt K mg "undone" s_undone ["word"]) (hN : HasNeed P w K mg base) (hT : HasTurned P w K mg base) : HasUndone P w K mg base := F.has fun F => by
  obtain ⟨fN, fdN, gN, kN, bN, GN⟩ := hN
  obtain ⟨fT, fdT, gT, kT, bT, GT⟩ := hT
  refine F.ok sc_undone (fun vs H Q E h => ?_) (fun cdv A outer s H vs Q E hr h => ?_)
  · obtain ⟨x, rfl, _⟩ := h
    rfl
  · obtain ⟨x, rfl, hx, hl, q⟩ := h
    refine ⟨_, pss_cons (ps_expr (pe_call GN hr (by rfl) gN kN bN .nil pass0 (pa_cons (pv 0) pa_nil))) (pss_one (ps_ret (pe_call GT (hr.mono (by decide)) (by rfl) gT kT bT .nil pass0 (pa_cons (pv 0) pa_nil)))), ?_⟩
    exact ⟨_, rfl, x, rfl, hx, hl, fun H1 s1 => ⟨_, rfl, x, rfl, hx, by omega, q H1 s1⟩⟩
end
end Sf
namespace Sf
open PySem PySem.Spec PyProof.Rows L2 TL
section
variable {P : Program} {w : World} {K : PySem.W.Frag} {mg : Str → Option Value} {base : Heap}
theorem sc_back : FnScope ["_law_word_here", "_law_sign_here"] ["_law_word_here"] (defScope s__law_back) := ⟨rfl, rfl, rfl, by decide +kernel, rfl, by decide +kernel, by decide +kernel⟩
theorem has_back (F : FnAt K mg "_law_back" s__law_back ["_law_word_here"]) (hF : HasFlip P w K mg base) : HasBack P w K mg base := F.has fun F => by
  obtain ⟨fF, fdF, gF, kF, bF, GF⟩ := hF
  refine F.ok sc_back (fun vs H Q E h => ?_) (fun cdv A outer s H vs Q E hr h => ?_)
  · obtain ⟨x, rfl, _⟩ := h
    rfl
  · obtain ⟨x, rfl, hx, hl, q⟩ := h
    have hz : (revS x).cps.size = (tl (revS x)).length := len_tl (revS x)
    have hzl := revS_len x
    refine ⟨_, pss_one (ps_ret (pe_join pe_str (pe_lc (own := [("_law_sign_here", 1)]) (g := gName 1) (tt := tYes) (by rfl) sc_back.nd (pi_str (pe_revS (pv 0)))
      (blkOk_by (own := [("_law_sign_here", 1)]) (N := ["_law_word_here", "_law_sign_here"]) (sc := defScope s__law_back) (by decide +kernel)) (fun _ _ _ _ _ => pg_name (i := 1) sc_back.nd rfl (.inl rfl)) (fun _ _ _ _ _ => pts_nil)
      (fun _ _ _ _ _ => pe_call GF hr (by rfl) gF kF bF .nil pass0 (pa_cons (pv 1) pa_nil))))), ?_⟩
    refine ⟨⟨_, rfl⟩, _, rfl, x, rfl, line_of (by omega), revS x, rfl, fun D nD => ?_⟩
    refine lc_gen (n := (revS x).cps.size) (fun i H2 => Same H H2 ∧ H2 D = some (.lst (((tl (revS x)).take i).map fun c => V.str (one (flipC c))))) ⟨same_upd nD, upd_same⟩ (fun i H2 hi _ => hi) (fun H2 _ => Nat.le_refl _) ?_ ?_
    · rintro i v H2 H3 hi ⟨s2, hD⟩ ⟨rfl, c, hc, rfl⟩
      have hc' := getElem?_of_cps hc
      have hs := rev_wd hx c (List.mem_of_getElem? hc')
      refine ⟨rfl, yes_if ?_⟩
      refine ⟨_, rfl, c, rfl, hs, _, hD, ?_, fun a o e => ?_, ?_⟩
      · rw [List.length_map, List.length_take]
        have h3 : (revS x).length = (tl (revS x)).length := len_tl (revS x)
        exact lineLt_of (by omega)
      · rw [upd_ne (ne_of_none e nD)]
        exact s2 _ _ e
      · rw [upd_same, List.take_add_one, hc', List.map_append]
        rfl
    · rintro H2 ⟨s2, hD⟩
      have e1 : (tl (revS x)).take (revS x).cps.size = tl (revS x) := List.take_of_length_le (by rw [hz]; exact Nat.le_refl _)
      rw [e1] at hD
      have e2 : (backL (tl x)).map one = (tl (revS x)).map fun c => one (flipC c) := by
        rw [tl_revS]
        unfold backL
        rw [← List.map_reverse, List.map_map]
        rfl
      refine ⟨_, D, (backL (tl x)).map one, rfl, rfl, .inl (SqL.of ?_), join_fit ?_, ?_⟩
      · rw [hD, e2, List.map_map]
        rfl
      · unfold backL
        rw [List.length_reverse, List.length_map, ← len_tl]
        omega
      · rw [join_ones]
        exact q H2 s2
end
end Sf
namespace Sf
open PySem PySem.Spec PyProof.Rows L2 TL
section
variable {P : Program} {w : World} {K : PySem.W.Frag} {mg : Str → Option Value} {base : Heap}
theorem sc_short : FnScope ["_law_word_here", "_law_left", "_law_sign_here"] ["_law_word_here"] (defScope s__law_short) := ⟨rfl, rfl, rfl, by decide +kernel, rfl, by decide +kernel, by decide +kernel⟩
theorem has_short (F : FnAt K mg "_law_short" s__law_short ["_law_word_here"]) (hF : HasFlip P w K mg base) : HasShort P w K mg base := F.has fun F => by
  obtain ⟨fF, fdF, gF, kF, bF, GF⟩ := hF
  refine F.ok sc_short (fun vs H Q E h => ?_) (fun cdv A outer s H vs Q E hr h => ?_)
  · obtain ⟨x, rfl, _⟩ := h
    rfl
  · obtain ⟨x, rfl, hx, hl, q⟩ := h
    have hz : x.cps.size = (tl x).length := len_tl x
    have hzl : x.length = (tl x).length := len_tl x
    refine ⟨_, pss_cons (ps_set (i := 1) sc_short.nd rfl (.inl rfl) (pe_lst pa_nil))
      (pss_cons (ps_for PassesOwn.never rfl (pi_str (pv 0)) (pg_name (i := 2) sc_short.nd rfl (.inl rfl))
        (pss_one (ps_if (PW.pt (pw_and (pt_cmpR (op_neD hr.units) (pv 1) (pe_lst pa_nil) (nomark _)) (pw_and1 (pt_cmpR op_eq (pe_ix ix_list (pv 1) (pe_un un_neg pe_int) (fun _ _ => rfl)) (pe_call GF hr (by rfl) gF kF bF .nil pass0 (pa_cons (pv 2) pa_nil)) (nomark _)))))
          (pss_one (ps_expr (pe_bm0 PySem.F.plainAttrs_list PySem.F.slot_list_pop PySem.F.type_list_pop mt_pop (pv 1))))
          (pss_one (ps_expr (pe_bm PySem.F.plainAttrs_list PySem.F.slot_list_append PySem.F.type_list_append mt_append (pv 1) (pa_cons (pv 2) pa_nil)))))))
      (pss_one (ps_ret (pe_join pe_str (pv 1))))), ?_⟩
    refine ⟨(by show 0 ≤ sizeLine; decide), fun L nL => ?_⟩
    refine ⟨_, rfl, x, rfl, for_gen (n := x.cps.size) (fun i σ H1 => ∃ y : Option V, σ = [some (.str x), some (.ref L), y] ∧ Fx L H H1 ∧ H1 L = some (.lst ((shortL ((tl x).take i)).map fun c => V.str (one c)))) ⟨none, rfl, Fx.of (same_upd nL), upd_same⟩ (fun i σ H1 hi _ => hi) (fun σ H1 _ => Nat.le_refl _) ?_ ?_⟩
    · rintro i v σ H1 H2 hi ⟨y, rfl, f1, hL⟩ ⟨rfl, c, hc, rfl⟩
      have hc' := getElem?_of_cps hc
      have hs := hx c (List.mem_of_getElem? hc')
      have hSg : Sg (shortL ((tl x).take i)) := shortL_sg fun d hd => hx d (List.mem_of_mem_take hd)
      have hlen : (shortL ((tl x).take i)).length ≤ 50000 := by
        have := shortL_len ((tl x).take i)
        rw [List.length_take] at this
        omega
      have hnext : shortL ((tl x).take (i + 1)) = push (shortL ((tl x).take i)) c := by
        rw [List.take_add_one, hc', ← shortL_snoc]
        rfl
      refine ⟨_, rfl, (by show 0 ≤ sizeLine; decide), fun p np => ?_⟩
      have npL : L ≠ p := ne_of_none hL np
      have hL2 : (upd H2 p (.lst [])) L = some (.lst ((shortL ((tl x).take i)).map fun c => V.str (one c))) := by
        rw [upd_ne npL]
        exact hL
      have f2 : Fx L H (upd H2 p (.lst [])) := f1.new np
      refine ⟨dOnes (shortL ((tl x).take i)), .list [], .lst (SqL.of hL2) (dp_all _), .lst (SqL.of upd_same) .nil, ones_shaped hSg, (by decide +kernel), _, rfl, ?_⟩
      rw [ones_nil, hnext]
      generalize hl0 : shortL ((tl x).take i) = l at hL hL2 hSg hlen
      have app : push l c = l ++ [c] → ∃ v : V, some (some (V.ref L)) = some (some v) ∧ tyV K "list" v (upd H2 p (.lst [])) ∧ ∃ v2 : V, some (some (V.str (one c))) = some (some v2) ∧ ∃ (l' : Addr) (xs : List V) (y : V), v = .ref l' ∧ [v2] = [y] ∧ (upd H2 p (.lst [])) l' = some (.lst xs) ∧ xs.length < sizeLine ∧
          ∃ y' : Option V, [some (V.str x), some (.ref L), some (.str (one c))] = [some (V.str x), some (.ref L), y'] ∧ Fx L H (upd (upd H2 p (.lst [])) l' (.lst (xs ++ [y]))) ∧ (upd (upd H2 p (.lst [])) l' (.lst (xs ++ [y]))) L = some (.lst ((push l c).map fun c => V.str (one c))) := by
        intro e
        refine ⟨_, rfl, .inl ⟨rfl, _, SqL.of hL2⟩, _, rfl, L, _, _, rfl, rfl, hL2, ?_, _, rfl, f2.upd, ?_⟩
        · rw [List.length_map]
          exact lineLt_of (by omega)
        · rw [upd_same, e, List.map_append]
          rfl
      rcases List.eq_nil_or_concat l with rfl | ⟨r, d, rfl⟩
      · exact iteF (app (push_nil c))
      · rw [List.concat_eq_append] at *
        have e0 : (!(r ++ [d]).isEmpty) = true := by cases r <;> rfl
        rw [e0]
        have al : atI ((r ++ [d]).map fun c => V.str (one c)) (-1) = some (V.str (one d)) := by
          rw [List.map_append]
          exact atI_last _ _
        refine iteT ⟨_, rfl, 1, rfl, L, _, -1, _, rfl, rfl, SqL.of hL2, al, _, rfl, c, rfl, hs, rfl, _, rfl, ite2 (fun e => ?_) (fun e => ?_)⟩
        · have e3 : d = flipC c := by
            have := of_decide_eq_true e
            have h6 := congrArg tl (V.str.inj this)
            exact List.head_eq_of_cons_eq h6
          refine ⟨_, rfl, .inl ⟨rfl, _, SqL.of hL2⟩, L, _, .str (one d), rfl, rfl, hL2, ?_, _, rfl, f2.upd, ?_⟩
          · rw [List.length_map, List.length_append, List.length_singleton, Nat.add_sub_cancel, List.getElem?_map, List.getElem?_append_right (Nat.le_refl _), Nat.sub_self]
            rfl
          · rw [upd_same, push_last, if_pos e3, List.map_append, List.map_singleton, List.dropLast_concat]
        · have e3 : d ≠ flipC c := fun z => e (decide_eq_true (by rw [z]))
          refine app ?_
          rw [push_last, if_neg e3]
    · rintro σ H1 ⟨y, rfl, f1, hL⟩
      rw [List.take_of_length_le (by rw [hz]; exact Nat.le_refl _)] at hL
      have h3 := shortL_len (tl x)
      refine ⟨⟨_, rfl⟩, _, rfl, _, L, (shortL (tl x)).map one, rfl, rfl, .inl (SqL.of ?_), join_fit (by omega), ?_⟩
      · rw [hL, List.map_map]
        rfl
      · rw [join_ones]
        exact q H1 (f1.toSame nL)
end
end Sf
namespace Sf
open PySem PySem.Spec PyProof.Rows L2 TL
/-! ### letters_of -/
def letL (l : List Nat) : List Nat := [97, 98, 99, 100, 101, 102, 103, 104].filter fun c => decide (c ∈ l) || decide (c - 32 ∈ l)
theorem lower_wd {x : Str} (h : Wd x) : Txt.lower x = mkS ((tl x).map PyProof.Rows.lo1) := by
  rw [PyProof.Rows.lower_ascii fun c hc => sgn_lt (h c hc)]
  refine eq_mkS ?_
  show (x.cps.map PyProof.Rows.lo1).toList = _
  rw [Array.toList_map]
theorem mem_lower {x : Str} (h : Wd x) {c : Nat} (h0 : 97 ≤ c) (h1 : c ≤ 104) : decide (c ∈ (tl x).map PyProof.Rows.lo1) = (decide (c ∈ tl x) || decide (c - 32 ∈ tl x)) := by
  rw [Bool.eq_iff_iff, Bool.or_eq_true, decide_eq_true_eq, decide_eq_true_eq, decide_eq_true_eq, List.mem_map]
  constructor
  · rintro ⟨d, hd, e⟩
    have hs := h d hd
    rw [sgn_iff] at hs
    unfold PyProof.Rows.lo1 at e
    by_cases hc : 65 ≤ d ∧ d ≤ 90
    · rw [if_pos hc] at e
      refine .inr ?_
      have : c - 32 = d := by omega
      rw [this]
      exact hd
    · rw [if_neg hc] at e
      rw [← e]
      exact .inl hd
  · rintro (hd | hd)
    · refine ⟨c, hd, ?_⟩
      unfold PyProof.Rows.lo1
      rw [if_neg (by omega)]
    · refine ⟨c - 32, hd, ?_⟩
      have hs := h _ hd
      rw [sgn_iff] at hs
      unfold PyProof.Rows.lo1
      rw [if_pos (by omega)]
      omega
theorem small_at {i c : Nat} (h : [97, 98, 99, 100, 101, 102, 103, 104][i]? = some c) : 97 ≤ c ∧ c ≤ 104 := by
  have := List.mem_of_getElem? h
  simp only [List.mem_cons, List.not_mem_nil, or_false] at this
  omega
theorem filter_take {l : List Nat} {p : Nat → Bool} {i c : Nat} (h : l[i]? = some c) : (l.take (i + 1)).filter p = (l.take i).filter p ++ (if p c = true then [c] else []) := by
  rw [List.take_add_one, h, List.filter_append]
  show _ ++ [c].filter p = _
  by_cases e : p c = true
  · rw [if_pos e, List.filter_cons_of_pos e]
    rfl
  · rw [if_neg e, List.filter_cons_of_neg e]
    rfl
theorem letL_len (l : List Nat) : (letL l).length ≤ 8 := List.length_filter_le _ _
section
variable {P : Program} {w : World} {K : PySem.W.Frag} {mg : Str → Option Value} {base : Heap}
def spLetIn : Sp := fun vs H Q _ => ∃ x : Str, vs = [.str x] ∧ Wd x ∧ x.length ≤ 1000 ∧ ∀ H', Same H H' → Q (.str (mkS (letL (tl x)))) H'
abbrev HasLetIn (P : Program) (w : World) (K : PySem.W.Frag) (mg : Str → Option Value) (base : Heap) : Prop := Has P w K mg base 1 "letters_in" ["word"] spLetIn
theorem sc_letin : FnScope ["word", "small", "letter"] ["word"] (defScope s_letters_in) := ⟨rfl, rfl, rfl, by decide +kernel, rfl, by decide +kernel, by decide +kernel⟩
theorem tlL : (Str.ofString "abcdefgh").cps.size = 8 := by decide +kernel
theorem has_letin (F : FnAt K mg "letters_in" s_letters_in ["word"]) {t1 : Tok} (mL : mg "LETTERS" = some (.str (Str.ofString "abcdefgh") t1)) : HasLetIn P w K mg base := F.has fun F => by
  refine F.ok sc_letin (fun vs H Q E h => ?_) (fun cdv A outer s H vs Q E hr h => ?_)
  · obtain ⟨x, rfl, _⟩ := h
    rfl
  · obtain ⟨x, rfl, hx, hl, q⟩ := h
    refine ⟨_, (pss_cons (ps_set (i := 1) sc_letin.nd rfl (.inr rfl) (pe_lower (pv 0)))
      (pss_one (ps_ret (pe_join pe_str (pe_lc (own := [("letter", 2)]) (g := gName 2) (by rfl) sc_letin.nd (pi_str (pe_glob (v := .str (Str.ofString "abcdefgh")) (by rfl) mL ⟨_, rfl⟩))
        (blkOk_by (own := [("letter", 2)]) (N := ["word", "small", "letter"]) (sc := defScope s_letters_in) (by decide +kernel)) (fun _ _ _ _ _ => pg_name (i := 2) sc_letin.nd rfl (.inl rfl)) (fun _ _ _ _ _ => pts_one (pt_cmpR op_in_sign (pv 2) (pv 1) rfl))
        (fun _ _ _ _ _ => pv 2)))))), ?_⟩
    refine ⟨_, rfl, ⟨_, rfl⟩, x, rfl, rfl, by omega, ?_⟩
    rw [lower_wd hx]
    refine ⟨⟨_, rfl⟩, _, rfl, fun D nD => ?_⟩
    refine lc_gen (n := 8) (fun i H2 => Same H H2 ∧ H2 D = some (.lst ((([97, 98, 99, 100, 101, 102, 103, 104].take i).filter fun c => decide (c ∈ tl x) || decide (c - 32 ∈ tl x)).map fun c => V.str (one c)))) ⟨same_upd nD, upd_same⟩ (fun i H2 hi _ => by show i < _; rw [tlL]; exact hi) (fun H2 _ => by show _ ≤ _; rw [tlL]; exact Nat.le_refl _) ?_ ?_
    · rintro i v H2 H3 hi ⟨s2, hD⟩ ⟨rfl, c, hc, rfl⟩
      have hc' := getElem?_of_cps hc
      rw [show tl (Str.ofString "abcdefgh") = _ from tl_small] at hc'
      obtain ⟨h0, h1⟩ := small_at hc'
      refine ⟨rfl, _, rfl, _, rfl, c, _, rfl, rfl, _, rfl, ?_⟩
      rw [show (mkS ((tl x).map PyProof.Rows.lo1)).cps.toList = (tl x).map PyProof.Rows.lo1 from rfl, mem_lower hx h0 h1]
      have hf := filter_take (p := fun c => decide (c ∈ tl x) || decide (c - 32 ∈ tl x)) hc'
      refine ite2 (fun e => ?_) (fun e => ?_)
      · rw [if_pos e] at hf
        refine ⟨_, rfl, _, hD, ?_, fun a o z => ?_, ?_⟩
        · rw [List.length_map]
          refine lineLt_of (Nat.le_trans (List.length_filter_le _ _) ?_)
          rw [List.length_take]
          exact Nat.le_trans (Nat.min_le_right _ _) (by decide)
        · rw [upd_ne (ne_of_none z nD)]
          exact s2 _ _ z
        · rw [upd_same, hf, List.map_append]
          rfl
      · rw [if_neg e, List.append_nil] at hf
        rw [hf]
        exact ⟨s2, hD⟩
    · rintro H2 ⟨s2, hD⟩
      refine ⟨_, D, (letL (tl x)).map one, rfl, rfl, .inl (SqL.of ?_), join_fit (Nat.le_trans (letL_len _) (by decide)), ?_⟩
      · rw [hD, List.map_map]
        rfl
      · rw [join_ones]
        exact q H2 s2
def spLetters : Sp := fun vs H Q _ => ∃ x : Str, vs = [.str x] ∧ Wd x ∧ x.length ≤ 60 ∧ ∀ H', Same H H' → Q (.str (mkS (letL (tl x)))) H'
abbrev HasLetters (P : Program) (w : World) (K : PySem.W.Frag) (mg : Str → Option Value) (base : Heap) : Prop := Has P w K mg base 3 "letters_of" ["word"] spLetters
theorem sc_letters : FnScope ["word"] ["word"] (defScope s_letters_of) := ⟨rfl, rfl, rfl, by decide +kernel, rfl, by decide +kernel, by decide +kernel⟩
theorem has_letters (F : FnAt K mg "letters_of" s_letters_of ["word"]) (hN : HasNeed P w K mg base) (hI : HasLetIn P w K mg base) : HasLetters P w K mg base := F.has fun F => by
  obtain ⟨fN, fdN, gN, kN, bN, GN⟩ := hN
  obtain ⟨fI, fdI, gI, kI, bI, GI⟩ := hI
  refine F.ok sc_letters (fun vs H Q E h => ?_) (fun cdv A outer s H vs Q E hr h => ?_)
  · obtain ⟨x, rfl, _⟩ := h
    rfl
  · obtain ⟨x, rfl, hx, hl, q⟩ := h
    refine ⟨_, pss_cons (ps_expr (pe_call GN (hr.mono (by decide)) (by rfl) gN kN bN .nil pass0 (pa_cons (pv 0) pa_nil)))
      (pss_one (ps_ret (pe_call GI (hr.mono (by decide)) (by rfl) gI kI bI .nil pass0 (pa_cons (pv 0) pa_nil)))), ?_⟩
    refine ⟨_, rfl, x, rfl, hx, hl, fun H1 s1 => ?_⟩
    exact ⟨_, rfl, x, rfl, hx, by omega, fun H2 s2 => q H2 (s1.trans s2)⟩
end
end Sf
namespace Sf
open PySem PySem.Spec PyProof.Rows L2 TL
def spLaw (K : PySem.W.Frag) : Sp := fun vs H Q _ => ∃ (a : Addr) (ns : List Int), vs = [.ref a] ∧ SqL K H a (ns.map V.int) ∧ ns.length ≤ 63 ∧ ∀ H', Q (.bl true) H'
theorem eqv_list {H : Hp} {n : Nat} {p q : Addr} {xs : List V} (hp : H p = some (.lst xs)) (hq : H q = some (.lst xs)) (hl : xs.length ≤ 100000) (hf : ∀ x ∈ xs, flat4 x = true) : Eqv H (n + 1) (.ref p) (.ref q) :=
  .inr ⟨p, q, xs, xs, rfl, rfl, .inl ⟨hp, hq⟩, rfl, hl, fun i x y hx hy => by
    have e : x = y := Option.some.inj (hx.symm.trans hy)
    subst e
    exact .flat (hf x (List.mem_of_getElem? hx))⟩
theorem short_back {x : Str} (h : Wd x) : shortT (x ++ backT x) = mkS [] := by
  unfold shortT shortL
  rw [tl_append]
  show mkS (runS [] (tl x ++ backL (tl x))).reverse = _
  rw [runS_app, run_back (s := []) True.intro (fun _ z => by cases z) h]
  rfl
theorem mkS_nil : mkS [] = Str.ofString "" := by decide +kernel
theorem shortT_nil : shortT (Str.ofString "") = Str.ofString "" := by decide +kernel
theorem backT_nil : backT (Str.ofString "") = Str.ofString "" := by decide +kernel
theorem letT_nil : mkS (letL (tl (Str.ofString ""))) = Str.ofString "" := by decide +kernel
section
variable {P : Program} {w : World} {K : PySem.W.Frag} {mg : Str → Option Value} {base : Heap}
theorem sc_law : FnScope ["_law_script", "_law_bag", "_law_turn", "_law_word_here", "_law_due", "_law_letter"] ["_law_script"] (defScope s_law) := ⟨rfl, rfl, rfl, by decide +kernel, rfl, by decide +kernel, by decide +kernel⟩
theorem ok_law {f : Addr} {fd : FuncData} (F : Fun K "law" "law" s_law f fd) (B : Blt mg)
    (hBe : HasBegin P w K mg base) (hP : HasPull P w K mg base) (hA : HasAny P w K mg base) (hS0 : HasSame P w K mg base 0) (hS1 : HasSame P w K mg base 1)
    (hU : HasUndone P w K mg base) (hR : HasReduced P w K mg base) (hLe : HasLetters P w K mg base) (hBa : HasBack P w K mg base) (hSh : HasShort P w K mg base) :
    FnOk P w K mg base CX0 6 f fd ["_law_script"] (spLaw K) := by
  obtain ⟨fB, fdB, gB, kB, bB, GB⟩ := hBe
  obtain ⟨fP, fdP, gP, kP, bP, GP⟩ := hP
  obtain ⟨fA, fdA, gA, kA, bA, GA⟩ := hA
  obtain ⟨fS, fdS, gS, kS, bS, GS⟩ := hS0
  obtain ⟨fS1, fdS1, gS1, kS1, bS1, GS1⟩ := hS1
  obtain ⟨fU, fdU, gU, kU, bU, GU⟩ := hU
  obtain ⟨fR, fdR, gR, kR, bR, GR⟩ := hR
  obtain ⟨fL, fdL, gL, kL, bL, GL⟩ := hLe
  obtain ⟨fK, fdK, gK, kK, bK, GK⟩ := hBa
  obtain ⟨fH, fdH, gH, kH, bH, GH⟩ := hSh
  refine F.ok sc_law (fun vs H Q E h => ?_) (fun cdv A outer s H vs Q E hr h => ?_)
  · obtain ⟨a, ns, rfl, _⟩ := h
    rfl
  · obtain ⟨a, ns, rfl, hS, hlen, q⟩ := h
    have hr1 : Room 1 _ := hr.mono (by decide)
    have hr2 : Room 2 _ := hr.mono (by decide)
    have hr3 : Room 3 _ := hr.mono (by decide)
    have hr4 : Room 4 _ := hr.mono (by decide)
    refine Tl.start (Tl.cons (fun σ' H' => ∃ b, σ' = [some (.ref a), some (.ref b), none, none, none, none] ∧ Bag H' b) ⟨_, ps_set (i := 1) sc_law.nd rfl (.inl rfl) (pe_call GB hr1 (by rfl) gB kB bB .nil pass0 (pa_cons (pv 0) pa_nil)), ?_⟩ (Tl.cons (fun _ _ => True)
      (Stp.rng (k := 2) (fun _ n i σ' H' => ∃ (b : Addr) (y2 y3 y4 : Option V), σ' = [some (.ref a), some (.ref b), y2, y3, y4, none] ∧ Bag H' b) PassesOwn.never rfl (pi_range1 rfl B.range (pa_cons pe_int pa_nil)) (pg_name (i := 2) sc_law.nd rfl (.inl rfl)) ?_ ?_ (fun _ _ _ _ _ => trivial)) ?_))
    · rintro _ D σ H0 ⟨rfl, rfl⟩ k
      exact ⟨_, rfl, a, ns, rfl, hS, fun b H1 nb B1 s1 => k _ _ ⟨b, rfl, B1⟩⟩
    · rintro _ σ H1 R ⟨b, rfl, B1⟩ k
      exact ⟨5, rfl, by decide, by decide, k _ _ ⟨b, none, none, none, rfl, B1⟩⟩
    · -- the loop's body; what holds behind the word's drawing
      refine Blk.cons (fun _ σ' H' => ∃ (b : Addr) (y2 y4 : Option V) (x : Str), σ' = [some (.ref a), some (.ref b), y2, some (.str x), y4, none] ∧ Bag H' b ∧ Wd x ∧ x.length ≤ 60)
        ⟨_, ps_set (i := 3) sc_law.nd rfl (.inr rfl) (pe_call GA hr4 (by rfl) gA kA bA .nil pass0 (pa_cons (pv 1) (pa_cons (pe_ix ix_list (pe_lst (pa_cons pe_int (pa_cons pe_int (pa_cons pe_int pa_nil)))) (pe_call GP hr1 (by rfl) gP kP bP .nil pass0 (pa_cons (pv 1) (pa_cons pe_int pa_nil))) (fun _ _ => rfl)) pa_nil))), ?_⟩ ?_
      · rintro ⟨n, i⟩ D σ H3 ⟨hi, σ0, ⟨b, y2, y3, y4, rfl, B3⟩, rfl⟩ k
        refine ⟨_, rfl, (by show 3 ≤ sizeLine; decide), fun p0 np0 => ⟨_, rfl, b, 3, rfl, B3.new np0, by decide, by decide, fun d H4 d0 d1 B4 f4 => ?_⟩⟩
        have hp0 : H4 p0 = some (.lst [.int 8, .int 30, .int 60]) := f4 _ _ upd_same (B3.ne np0)
        obtain ⟨u, hu, u0, u1⟩ : ∃ u : Int, atI [V.int 8, .int 30, .int 60] d = some (.int u) ∧ 0 ≤ u ∧ u ≤ 60 := by
          have hd : d = 0 ∨ d = 1 ∨ d = 2 := by omega
          rcases hd with rfl | rfl | rfl
          · exact ⟨8, rfl, by decide, by decide⟩
          · exact ⟨30, rfl, by decide, by decide⟩
          · exact ⟨60, rfl, by decide, by decide⟩
        exact ⟨p0, _, d, _, rfl, rfl, SqL.of hp0, hu, b, u, rfl, B4, u0, by omega, fun x H5 hx hl B5 f5 => k _ _ ⟨b, _, _, x, rfl, B5, hx, by omega⟩⟩
      -- undone
      refine Blk.cons (fun _ σ' H' => ∃ (b : Addr) (y2 y4 : Option V) (x : Str), σ' = [some (.ref a), some (.ref b), y2, some (.str x), y4, none] ∧ Bag H' b ∧ Wd x ∧ x.length ≤ 60)
        ⟨_, ps_if (pt_not (pt_val (pe_call GS1 hr2 (by rfl) gS1 kS1 bS1 .nil pass0 (pa_cons (pe_lst (pa_cons (pe_call GU hr3 (by rfl) gU kU bU .nil pass0 (pa_cons (pv 3) pa_nil)) (pa_cons (pe_call GU hr3 (by rfl) gU kU bU .nil pass0 (pa_cons (pe_call GU hr3 (by rfl) gU kU bU .nil pass0 (pa_cons (pv 3) pa_nil)) pa_nil)) pa_nil)))
            (pa_cons (pe_lst (pa_cons (pe_call GK hr2 (by rfl) gK kK bK .nil pass0 (pa_cons (pv 3) pa_nil)) (pa_cons (pv 3) pa_nil))) pa_nil))))) pss_never pss_nil, ?_⟩ ?_
      · rintro _ D σ H5 ⟨b, y2, y4, x, rfl, B5, hx, hl60⟩ k
        have hbw := backT_wd hx
        have hbl := backT_len x
        refine ⟨_, rfl, x, rfl, hx, hl60, fun H6 s6 => ⟨_, rfl, x, rfl, hx, hl60, fun H7 s7 => ⟨_, rfl, hbw, by omega, fun H8 s8 => ⟨(by show 2 ≤ sizeLine; decide), fun p np => ?_⟩⟩⟩⟩
        refine ⟨_, rfl, x, rfl, hx, by omega, fun H9 s9 => ⟨_, rfl, (by show 2 ≤ sizeLine; decide), fun p2 np2 => ?_⟩⟩
        have hp : H9 p = some (.lst [.str (backT x), .str (backT (backT x))]) := s9 _ _ upd_same
        have npp : p ≠ p2 := ne_of_none hp np2
        refine ⟨_, _, rfl, eqv_list (xs := [.str (backT x), .str x]) (by rw [upd_ne npp, hp, backT_back hx]) upd_same (by show 2 ≤ 100000; decide) (by simp [flat4]), fun H10 s10 => ⟨_, rfl, iteF ?_⟩⟩
        exact k _ _ ⟨b, _, _, x, rfl, (((((((B5.same s6).same s7).same s8).new np).same s9).new np2).same s10), hx, hl60⟩
      -- reduced(word + back)
      refine Blk.cons (fun _ σ' H' => ∃ (b : Addr) (y2 y4 : Option V) (x : Str), σ' = [some (.ref a), some (.ref b), y2, some (.str x), y4, none] ∧ Bag H' b ∧ Wd x ∧ x.length ≤ 60)
        ⟨_, ps_if (PW.pt (pw_and (pt_cmpR op_le (pe_callB call_len_str (by rfl) B.len PySem.boot_len (pa_cons (pv 3) pa_nil)) pe_int (nomark _)) (pw_and1 (pt_not (pt_val (pe_call GS hr1 (by rfl) gS kS bS .nil pass0 (pa_cons (pe_call GR hr3 (by rfl) gR kR bR .nil pass0 (pa_cons (pe_op op_add_str (pv 3) (pe_call GK hr2 (by rfl) gK kK bK .nil pass0 (pa_cons (pv 3) pa_nil))) pa_nil)) (pa_cons pe_str pa_nil)))))))) pss_never pss_nil, ?_⟩ ?_
      · rintro _ D σ H5 ⟨b, y2, y4, x, rfl, B5, hx, hl60⟩ k
        have hbw := backT_wd hx
        have hbl := backT_len x
        refine ⟨_, rfl, x, rfl, line_of (by omega), _, 30, rfl, rfl, _, rfl, ite2 (fun e => ?_) (fun e => ?_)⟩
        · have h30 : x.length ≤ 30 := by
            have := of_decide_eq_true e
            omega
          refine ⟨_, rfl, _, rfl, x, rfl, hx, by omega, fun H6 s6 => ⟨x, backT x, rfl, rfl, line_of (by omega), _, rfl, hx.app hbw, by rw [len_app]; omega, fun H7 s7 => ⟨_, _, rfl, ⟨rfl, ?_⟩, fun H8 s8 => ⟨_, rfl, iteF (k _ _ ⟨b, _, _, x, rfl, ((B5.same s6).same s7).same s8, hx, hl60⟩)⟩⟩⟩⟩
          rw [short_back hx, mkS_nil]
        · exact iteF (k _ _ ⟨b, _, _, x, rfl, B5, hx, hl60⟩)
      -- reduced(word), short
      refine Blk.cons (fun _ σ' H' => ∃ (b : Addr) (y2 y4 : Option V) (x : Str), σ' = [some (.ref a), some (.ref b), y2, some (.str x), y4, none] ∧ Bag H' b ∧ Wd x ∧ x.length ≤ 60)
        ⟨_, ps_if (pt_not (pt_val (pe_call GS hr1 (by rfl) gS kS bS .nil pass0 (pa_cons (pe_call GR hr3 (by rfl) gR kR bR .nil pass0 (pa_cons (pv 3) pa_nil)) (pa_cons (pe_call GH hr2 (by rfl) gH kH bH .nil pass0 (pa_cons (pv 3) pa_nil)) pa_nil))))) pss_never pss_nil, ?_⟩ ?_
      · rintro _ D σ H5 ⟨b, y2, y4, x, rfl, B5, hx, hl60⟩ k
        exact ⟨_, rfl, x, rfl, hx, hl60, fun H6 s6 => ⟨_, rfl, x, rfl, hx, by omega, fun H7 s7 => ⟨_, _, rfl, ⟨rfl, rfl⟩, fun H8 s8 => ⟨_, rfl, iteF (k _ _ ⟨b, _, _, x, rfl, ((B5.same s6).same s7).same s8, hx, hl60⟩)⟩⟩⟩⟩
      -- the letters by the law
      refine Blk.cons (fun _ σ' H' => ∃ (b : Addr) (y2 : Option V) (x : Str), σ' = [some (.ref a), some (.ref b), y2, some (.str x), some (.str (mkS (letL (tl x)))), none] ∧ Bag H' b ∧ Wd x ∧ x.length ≤ 60)
        ⟨_, ps_set (i := 4) sc_law.nd rfl (.inl rfl) (pe_join pe_str (pe_lc (own := [("_law_letter", 5)]) (g := gName 5) (by rfl) sc_law.nd (pi_str pe_str)
            (blkOk_by (own := [("_law_letter", 5)]) (N := ["_law_script", "_law_bag", "_law_turn", "_law_word_here", "_law_due", "_law_letter"]) (sc := defScope s_law) (by decide +kernel)) (fun _ _ _ _ _ => pg_name (i := 5) sc_law.nd rfl (.inl rfl))
            (fun _ _ _ _ _ => pts_one (PW.pt (pw_or (pt_cmpR op_in_sign (pv 5) (pv 3) rfl) (pw_or1 (pt_cmpR op_in_sign (pe_upper (pv 5)) (pv 3) rfl))))) (fun _ _ _ _ _ => pv 5))), ?_⟩ ?_
      · rintro _ D σ H1 ⟨b, y2, y4, x, rfl, B5, hx, hl60⟩ k
        refine ⟨⟨_, rfl⟩, _, rfl, fun D' nD => ?_⟩
        refine lc_gen (n := 8) (fun i H2 => Same H1 H2 ∧ H2 D' = some (.lst ((([97, 98, 99, 100, 101, 102, 103, 104].take i).filter fun c => decide (c ∈ tl x) || decide (c - 32 ∈ tl x)).map fun c => V.str (one c)))) ⟨same_upd nD, upd_same⟩ (fun i H2 hi _ => by show i < _; rw [tlL]; exact hi) (fun H2 _ => by show _ ≤ _; rw [tlL]; exact Nat.le_refl _) ?_ ?_
        · rintro i v H2 H3 hi ⟨s2, hD⟩ ⟨rfl, c, hc, rfl⟩
          have hc' := getElem?_of_cps hc
          rw [show tl (Str.ofString "abcdefgh") = _ from tl_small] at hc'
          obtain ⟨h0, h1⟩ := small_at hc'
          have hf := filter_take (p := fun c => decide (c ∈ tl x) || decide (c - 32 ∈ tl x)) hc'
          have yes : (decide (c ∈ tl x) || decide (c - 32 ∈ tl x)) = true → ∃ v : V, some (some (V.str (one c))) = some (some v) ∧ ∃ acc, H3 D' = some (.lst acc) ∧ acc.length < sizeLine ∧ (Same H1 (upd H3 D' (.lst (acc ++ [v]))) ∧ (upd H3 D' (.lst (acc ++ [v]))) D' = some (.lst ((([97, 98, 99, 100, 101, 102, 103, 104].take (i + 1)).filter fun c => decide (c ∈ tl x) || decide (c - 32 ∈ tl x)).map fun c => V.str (one c)))) := by
            intro e
            rw [if_pos e] at hf
            refine ⟨_, rfl, _, hD, ?_, fun a o z => ?_, ?_⟩
            · rw [List.length_map]
              refine lineLt_of (Nat.le_trans (List.length_filter_le _ _) ?_)
              rw [List.length_take]
              exact Nat.le_trans (Nat.min_le_right _ _) (by decide)
            · rw [upd_ne (ne_of_none z nD)]
              exact s2 _ _ z
            · rw [upd_same, hf, List.map_append]
              rfl
          refine ⟨rfl, _, rfl, _, rfl, c, x, rfl, rfl, _, rfl, ite2 (fun e => ?_) (fun e => ?_)⟩
          · refine iteT (yes ?_)
            have e' : decide (c ∈ tl x) = true := e
            rw [e', Bool.true_or]
          · refine ⟨_, rfl, ⟨_, rfl⟩, _, rfl, rfl, by rw [len_one]; decide, _, rfl, c - 32, x, by rw [upper_one ⟨h0, h1⟩], rfl, _, rfl, ite2 (fun e2 => ?_) (fun e2 => ?_)⟩
            · refine yes ?_
              have e' : decide (c - 32 ∈ tl x) = true := e2
              rw [e', Bool.or_true]
            · have n1 : ¬ decide (c ∈ tl x) = true := e
              have n2 : ¬ decide (c - 32 ∈ tl x) = true := e2
              have e3 : ¬ (decide (c ∈ tl x) || decide (c - 32 ∈ tl x)) = true := by
                rw [Bool.or_eq_true]
                exact fun z => z.elim n1 n2
              rw [if_neg e3, List.append_nil] at hf
              rw [hf]
              exact ⟨s2, hD⟩
        · rintro H2 ⟨s2, hD⟩
          refine ⟨_, D', (letL (tl x)).map one, rfl, rfl, .inl (SqL.of ?_), join_fit (Nat.le_trans (letL_len _) (by decide)), ?_⟩
          · rw [hD, List.map_map]
            rfl
          · rw [join_ones]
            exact k _ _ ⟨b, _, x, rfl, B5.same s2, hx, hl60⟩
      -- letters_of
      refine Blk.one ⟨_, ps_if (pt_not (pt_val (pe_call GS hr1 (by rfl) gS kS bS .nil pass0 (pa_cons (pe_call GL hr3 (by rfl) gL kL bL .nil pass0 (pa_cons (pv 3) pa_nil)) (pa_cons (pv 4) pa_nil))))) pss_never pss_nil, ?_⟩
      rintro _ D σ H5 ⟨b, y2, x, rfl, B5, hx, hl60⟩ k
      exact ⟨_, rfl, x, rfl, hx, hl60, fun H6 s6 => ⟨_, rfl, _, _, rfl, ⟨rfl, rfl⟩, fun H8 s8 => ⟨_, rfl, iteF (k _ _ ⟨b, _, _, _, rfl, (B5.same s6).same s8⟩)⟩⟩⟩
    · refine ⟨_, pss_one (ps_ret (pe_call GS1 hr2 (by rfl) gS1 kS1 bS1 .nil pass0 (pa_cons (pe_lst (pa_cons (pe_call GU hr3 (by rfl) gU kU bU .nil pass0 (pa_cons pe_str pa_nil)) (pa_cons (pe_call GR hr3 (by rfl) gR kR bR .nil pass0 (pa_cons pe_str pa_nil)) (pa_cons (pe_call GL hr3 (by rfl) gL kL bL .nil pass0 (pa_cons pe_str pa_nil)) pa_nil))))
        (pa_cons (pe_lst (pa_cons pe_str (pa_cons pe_str (pa_cons pe_str pa_nil)))) pa_nil)))), fun σ H3 _ => ?_⟩
      refine ⟨_, rfl, wd_nil, (by decide +kernel), fun H4 s4 => ⟨_, rfl, wd_nil, (by decide +kernel), fun H5 s5 => ⟨_, rfl, wd_nil, (by decide +kernel), fun H6 s6 => ?_⟩⟩⟩
      refine ⟨(by show 3 ≤ sizeLine; decide), fun p np => ?_⟩
      refine ⟨(by show 3 ≤ sizeLine; decide), fun p2 np2 => ?_⟩
      have npp : p ≠ p2 := ne_of_none upd_same np2
      refine ⟨_, _, rfl, eqv_list (xs := [.str (Str.ofString ""), .str (Str.ofString ""), .str (Str.ofString "")]) ?_ upd_same (by show 3 ≤ 100000; decide) (by simp [flat4]), fun H7 s7 => q H7⟩
      rw [upd_ne npp, upd_same, shortT_nil, backT_nil, letT_nil]
end
end Sf
namespace Sf
open PySem PySem.Spec PyProof.Rows L2 TL
theorem all_mk {P : Program} {w : World} {K : PySem.W.Frag} {h : Heap} {mg : Str → Option Value} {fa f : Addr} (X : K.In h) (G : h.Ns mainGlobals mg) (hfa : mg "law" = some (.ref fa))
    {od an : Option Addr} {sl : Array (Option Value)} {oc kV dc pm cd ct : Value}
    (aL : PySem.W.nsIn K mainGlobals "law" = some (some (.ref f))) (lL : K.lookup f = some ⟨oc, od, .func (PySem.W.fnOf "law" "law" (defArgs s_law) (defBody s_law) (defScope s_law) .none kV dc pm an cd ct), sl⟩) (cL : PySem.W.codeIn K cd "law" = true) (kL : PySem.W.keepIn K (.ref f) = true)
    (F_law_begin : FnAt K mg "_law_begin" s__law_begin ["_law_script"])
    (F_law_pull : FnAt K mg "_law_pull" s__law_pull ["_law_bag", "_law_many"])
    (F_law_flip : FnAt K mg "_law_flip" s__law_flip ["_law_sign_here"])
    (F_law_sign : FnAt K mg "_law_sign" s__law_sign ["_law_bag", "_law_many"])
    (F_law_word : FnAt K mg "_law_word" s__law_word ["_law_bag", "_law_upto", "_law_many"])
    (F_law_any_word : FnAt K mg "_law_any_word" s__law_any_word ["_law_bag", "_law_upto"])
    (F_law_same : FnAt K mg "_law_same" s__law_same ["_law_found", "_law_due"])
    (Fis_word : FnAt K mg "is_word" s_is_word ["text"])
    (Fneed_word : FnAt K mg "need_word" s_need_word ["text"])
    (Fglued : FnAt K mg "glued" s_glued ["one", "other"])
    (Fshortened : FnAt K mg "shortened" s_shortened ["word"])
    (Freduced : FnAt K mg "reduced" s_reduced ["word"])
    (Fturned : FnAt K mg "turned" s_turned ["word"])
    (Fundone : FnAt K mg "undone" s_undone ["word"])
    (Fletters_in : FnAt K mg "letters_in" s_letters_in ["word"])
    (Fletters_of : FnAt K mg "letters_of" s_letters_of ["word"])
    (F_law_back : FnAt K mg "_law_back" s__law_back ["_law_word_here"])
    (F_law_short : FnAt K mg "_law_short" s__law_short ["_law_word_here"])
    (B : Blt mg) {t_LETTERS : Tok} (CLETTERS : mg "LETTERS" = some (.str (Str.ofString "abcdefgh") t_LETTERS)) {t_MOST_WORD : Tok} (CMOST_WORD : mg "MOST_WORD" = some (.int 60 t_MOST_WORD)) {t_SIGNS : Tok} (CSIGNS : mg "SIGNS" = some (.str (Str.ofString "aAbBcCdDeEfFgGhH") t_SIGNS)) :
    ∃ fd : FuncData, (∀ (s : Shared) (v : Value), BindsTo s fd ⟨[v], []⟩ [("_law_script", v)]) ∧ ∀ base : Heap, K.In base → base.Ns mainGlobals mg → FnOk P w K mg base CX0 6 fa fd ["_law_script"] (spLaw K) := by
  have e := hfa.symm.trans (PySem.W.mg_of X G aL)
  cases e
  have FL := fun_mk (st := s_law) lL cL kL
  refine ⟨PySem.W.fnOf "law" "law" (defArgs s_law) (defBody s_law) (defScope s_law) .none kV dc pm an cd ct, fun s v => .of_eq rfl, fun base _ _ => ?_⟩
  have hBe := has_begin (P := P) (w := w) (base := base) F_law_begin B
  have hP := has_pull (P := P) (w := w) (base := base) F_law_pull B
  have hFl := has_flip (P := P) (w := w) (base := base) F_law_flip
  have hSi := has_sign (P := P) (w := w) (base := base) F_law_sign hP
  have hW := has_word (P := P) (w := w) (base := base) F_law_word B hP hSi hFl
  have hA := has_any (P := P) (w := w) (base := base) F_law_any_word hP hW
  have hS := has_same (P := P) (w := w) (base := base) F_law_same B
  have hI := has_isword (P := P) (w := w) (base := base) Fis_word B CMOST_WORD CSIGNS
  have hN := has_need (P := P) (w := w) (base := base) Fneed_word hI
  have hG := has_glued (P := P) (w := w) (base := base) Fglued B B.min
  have hSd := has_shortened (P := P) (w := w) (base := base) Fshortened hG
  have hR := has_reduced (P := P) (w := w) (base := base) Freduced hN hSd
  have hT := has_turned (P := P) (w := w) (base := base) Fturned
  have hU := has_undone (P := P) (w := w) (base := base) Fundone hN hT
  have hLI := has_letin (P := P) (w := w) (base := base) Fletters_in CLETTERS
  have hLe := has_letters (P := P) (w := w) (base := base) Fletters_of hN hLI
  have hBa := has_back (P := P) (w := w) (base := base) F_law_back hFl
  have hSh := has_short (P := P) (w := w) (base := base) F_law_short hFl
  exact ok_law FL B hBe hP hA (hS 0) (hS 1) hU hR hLe hBa hSh
end Sf
open PySem PySem.W PyProof.Rows
set_option maxRecDepth 100000 in
set_option maxHeartbeats 0 in
theorem PySem.Challenge.cw_spoorfold_k02_words_undone_and_reduced_holds : PySem.Challenge.rw_spoorfold_k02_words_undone_and_reduced.Holds := by
  w_on; o_law; k_head; (case hw => w_witness2)
  k_fill
  refine L2.walk_of (l := PySem.Challenge.rw_spoorfold_k02_words_undone_and_reduced) (n := 63) (k := 6) (x := "_law_script") (CX := fun _ => L2.CX0) (sp := fun w => Sf.spLaw _) rfl (by decide) rfl ⟨rfl, by decide, by decide⟩ (fun w h Y => PySem.W.kIn_of Y) ?F (fun _ _ a ns hl _ hS => ⟨a, ns, rfl, hS, hl, fun _ => rfl⟩) (fun _ _ _ _ _ h => h)
  case F =>
    intro w mg fa h KX G hmg
    refine' Sf.all_mk KX G hmg ?aL ?lL ?cL ?kL (Sf.fnAt_mk KX G ?a0 ?l0 ?c0 ?k0 (fun _ _ _ _ _ _ us hl => match us, hl with | [_], _ => rfl)) (Sf.fnAt_mk KX G ?a1 ?l1 ?c1 ?k1 (fun _ _ _ _ _ _ us hl => match us, hl with | [_, _], _ => rfl)) (Sf.fnAt_mk KX G ?a2 ?l2 ?c2 ?k2 (fun _ _ _ _ _ _ us hl => match us, hl with | [_], _ => rfl)) (Sf.fnAt_mk KX G ?a3 ?l3 ?c3 ?k3 (fun _ _ _ _ _ _ us hl => match us, hl with | [_, _], _ => rfl)) (Sf.fnAt_mk KX G ?a4 ?l4 ?c4 ?k4 (fun _ _ _ _ _ _ us hl => match us, hl with | [_, _, _], _ => rfl)) (Sf.fnAt_mk KX G ?a5 ?l5 ?c5 ?k5 (fun _ _ _ _ _ _ us hl => match us, hl with | [_, _], _ => rfl)) (Sf.fnAt_mk KX G ?a6 ?l6 ?c6 ?k6 (fun _ _ _ _ _ _ us hl => match us, hl with | [_, _], _ => rfl)) (Sf.fnAt_mk KX G ?a7 ?l7 ?c7 ?k7 (fun _ _ _ _ _ _ us hl => match us, hl with | [_], _ => rfl)) (Sf.fnAt_mk KX G ?a8 ?l8 ?c8 ?k8 (fun _ _ _ _ _ _ us hl => match us, hl with | [_], _ => rfl)) (Sf.fnAt_mk KX G ?a9 ?l9 ?c9 ?k9 (fun _ _ _ _ _ _ us hl => match us, hl with | [_, _], _ => rfl)) (Sf.fnAt_mk KX G ?a10 ?l10 ?c10 ?k10 (fun _ _ _ _ _ _ us hl => match us, hl with | [_], _ => rfl)) (Sf.fnAt_mk KX G ?a11 ?l11 ?c11 ?k11 (fun _ _ _ _ _ _ us hl => match us, hl with | [_], _ => rfl)) (Sf.fnAt_mk KX G ?a12 ?l12 ?c12 ?k12 (fun _ _ _ _ _ _ us hl => match us, hl with | [_], _ => rfl)) (Sf.fnAt_mk KX G ?a13 ?l13 ?c13 ?k13 (fun _ _ _ _ _ _ us hl => match us, hl with | [_], _ => rfl)) (Sf.fnAt_mk KX G ?a14 ?l14 ?c14 ?k14 (fun _ _ _ _ _ _ us hl => match us, hl with | [_], _ => rfl)) (Sf.fnAt_mk KX G ?a15 ?l15 ?c15 ?k15 (fun _ _ _ _ _ _ us hl => match us, hl with | [_], _ => rfl)) (Sf.fnAt_mk KX G ?a16 ?l16 ?c16 ?k16 (fun _ _ _ _ _ _ us hl => match us, hl with | [_], _ => rfl)) (Sf.fnAt_mk KX G ?a17 ?l17 ?c17 ?k17 (fun _ _ _ _ _ _ us hl => match us, hl with | [_], _ => rfl)) ⟨PySem.W.mg_none_of KX G ?z0, PySem.W.mg_none_of KX G ?z1, PySem.W.mg_none_of KX G ?z2, PySem.W.mg_none_of KX G ?z3, PySem.W.mg_none_of KX G ?z4, PySem.W.mg_none_of KX G ?z5, PySem.W.mg_none_of KX G ?z6, PySem.W.mg_none_of KX G ?z7, PySem.W.mg_none_of KX G ?z8, PySem.W.mg_none_of KX G ?z9, PySem.W.mg_none_of KX G ?z10, PySem.W.mg_none_of KX G ?z11⟩ (PySem.W.mg_of KX G ?d0) (PySem.W.mg_of KX G ?d1) (PySem.W.mg_of KX G ?d2)
    (case aL => k_is)
    (case lL => k_is)
    (case cL => k_is)
    (case kL => k_is)
    (case a0 => k_is)
    (case l0 => k_is)
    (case c0 => k_is)
    (case k0 => k_is)
    (case a1 => k_is)
    (case l1 => k_is)
    (case c1 => k_is)
    (case k1 => k_is)
    (case a2 => k_is)
    (case l2 => k_is)
    (case c2 => k_is)
    (case k2 => k_is)
    (case a3 => k_is)
    (case l3 => k_is)
    (case c3 => k_is)
    (case k3 => k_is)
    (case a4 => k_is)
    (case l4 => k_is)
    (case c4 => k_is)
    (case k4 => k_is)
    (case a5 => k_is)
    (case l5 => k_is)
    (case c5 => k_is)
    (case k5 => k_is)
    (case a6 => k_is)
    (case l6 => k_is)
    (case c6 => k_is)
    (case k6 => k_is)
    (case a7 => k_is)
    (case l7 => k_is)
    (case c7 => k_is)
    (case k7 => k_is)
    (case a8 => k_is)
    (case l8 => k_is)
    (case c8 => k_is)
    (case k8 => k_is)
    (case a9 => k_is)
    (case l9 => k_is)
    (case c9 => k_is)
    (case k9 => k_is)
    (case a10 => k_is)
    (case l10 => k_is)
    (case c10 => k_is)
    (case k10 => k_is)
    (case a11 => k_is)
    (case l11 => k_is)
    (case c11 => k_is)
    (case k11 => k_is)
    (case a12 => k_is)
    (case l12 => k_is)
    (case c12 => k_is)
    (case k12 => k_is)
    (case a13 => k_is)
    (case l13 => k_is)
    (case c13 => k_is)
    (case k13 => k_is)
    (case a14 => k_is)
    (case l14 => k_is)
    (case c14 => k_is)
    (case k14 => k_is)
    (case a15 => k_is)
    (case l15 => k_is)
    (case c15 => k_is)
    (case k15 => k_is)
    (case a16 => k_is)
    (case l16 => k_is)
    (case c16 => k_is)
    (case k16 => k_is)
    (case a17 => k_is)
    (case l17 => k_is)
    (case c17 => k_is)
    (case k17 => k_is)
    (case z0 => k_is)
    (case z1 => k_is)
    (case z2 => k_is)
    (case z3 => k_is)
    (case z4 => k_is)
    (case z5 => k_is)
    (case z6 => k_is)
    (case z7 => k_is)
    (case z8 => k_is)
    (case z9 => k_is)
    (case z10 => k_is)
    (case z11 => k_is)
    (case d0 => k_is)
    (case d1 => k_is)
    (case d2 => k_is)
