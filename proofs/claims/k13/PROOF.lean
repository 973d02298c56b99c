import PyProof.Rows.All
import Wide.All
import OpenK.AllK
import Wide.FinOn
import HandS.ForMost
import HandS.IsInst
import HandS.Zip
import HandS.More
import KE.LtData
import HandS.DictComp
import KE.SortKeyHeap
import HandS.SortKw
import HandS.OwnEq
import HandS.Conv
import HandS.TupAny
import PySem.Challenge.RW_spoorfold_k13_rows_of_steps
import HandS.WrittenGet
import HandS.ExcInit
import HandS.ExcField
import HandS.WordsExc
import HandS.ExcOwn
import HandS.FStr
import KE.DataFind
import KE.KTryMore
set_option Elab.async false
set_option linter.all false
set_option maxRecDepth 100000
set_option maxHeartbeats 4000000
namespace Sf
open PySem PySem.Spec PyProof.Rows L2
/-! the text of the law by places -/
def topS (i : Nat) : Stmt := PySem.Challenge.pw_spoorfold_k13_rows_of_steps.main.body.getD i (.Pass ⟨0, 0, 0, 0⟩)
abbrev s_SpoorError___init__ : Stmt := inClass (topS 1) 0
abbrev s_BadWord___init__ : Stmt := inClass (topS 2) 0
abbrev s_BadStep___init__ : Stmt := inClass (topS 3) 0
abbrev s_is_upto : Stmt := topS 5
abbrev s_is_word : Stmt := topS 9
abbrev s_need_word : Stmt := topS 10
abbrev s_turned : Stmt := topS 11
abbrev s_walked : Stmt := topS 14
abbrev s_replaced : Stmt := topS 15
abbrev s_is_step : Stmt := topS 16
abbrev s_is_way : Stmt := topS 17
abbrev s_sides : Stmt := topS 18
abbrev s_loop : Stmt := topS 19
abbrev s__law_pull : Stmt := topS 21
abbrev s__law_flip : Stmt := topS 22
abbrev s__law_back : Stmt := topS 23
abbrev s__law_stepped : Stmt := topS 24
abbrev s__law_pick : Stmt := topS 25
abbrev s__law_begin : Stmt := topS 26
abbrev s__law_sign : Stmt := topS 27
abbrev s__law_word : Stmt := topS 28
abbrev s__law_any_word : Stmt := topS 29
abbrev s__law_same : Stmt := topS 30
abbrev s__law_told : Stmt := topS 31
abbrev s__law_drawn_step : Stmt := topS 32
abbrev s_law : Stmt := topS 33
end Sf
namespace Sf
open PySem PySem.Spec PyProof.Rows L2 TL
/-! ### helpers of heaps and blocks -/
theorem same_upd {H : Hp} {p : Addr} {o : HO} (h : H p = none) : Same H (upd H p o) := fun b x e => by
  rw [upd_ne (ne_of_none e h)]
  exact e
/-- all but what stands at b stands -/
def Fx (b : Addr) (H H' : Hp) : Prop := ∀ a o, H a = some o → a ≠ b → H' a = some o
theorem Fx.refl {b : Addr} {H : Hp} : Fx b H H := fun _ _ h _ => h
theorem Fx.of {b : Addr} {H H' : Hp} (h : Same H H') : Fx b H H' := fun a o e _ => h a o e
theorem Fx.trans {b : Addr} {H H1 H2 : Hp} (h : Fx b H H1) (k : Fx b H1 H2) : Fx b H H2 := fun a o e n => k a o (h a o e n) n
theorem Fx.same {b : Addr} {H H1 H2 : Hp} (h : Fx b H H1) (k : Same H1 H2) : Fx b H H2 := h.trans (.of k)
theorem Fx.upd {b : Addr} {H H1 : Hp} {o : HO} (h : Fx b H H1) : Fx b H (upd H1 b o) := fun a u e n => by
  rw [upd_ne n]
  exact h a u e n
theorem Fx.new {b p : Addr} {H H1 : Hp} {o : HO} (h : Fx b H H1) (n : H1 p = none) : Fx b H (L2.upd H1 p o) := h.same (same_upd n)
theorem Fx.seq {b a : Addr} {H H1 : Hp} {xs : List V} {K : PySem.W.Frag} (h : Fx b H H1) (n : a ≠ b) (s : SqL K H a xs) : SqL K H1 a xs := by
  rcases s with (s | ⟨o, s⟩) | s
  · exact .inl (.inl (h _ _ s n))
  · exact .inl (.inr ⟨o, h _ _ s n⟩)
  · exact .inr s
theorem seq_by {X : Cx} {st : Stmt} {rest : List Stmt} {D : Ends} {σ : L2.St} {H : Hp} (J : L2.St → Hp → Prop) (hr : ∃ u, PSs X rest u ∧ ∀ σ' H', J σ' H' → u D σ' H')
    (hs : ∀ u : TS, (∀ σ' H', J σ' H' → u D σ' H') → ∃ t, PS X st t ∧ t { D with nx := u D } σ H) : ∃ t, PSs X (st :: rest) t ∧ t D σ H := by
  obtain ⟨u, hu, k⟩ := hr
  obtain ⟨t, ht, h⟩ := hs u k
  exact ⟨tSeq t u, pss_cons ht hu, h⟩
theorem line_of {n : Nat} (h : n ≤ 100000) : n ≤ sizeLine := Nat.le_trans h (by decide)
theorem lineLt_of {n : Nat} (h : n ≤ 100000) : n < sizeLine := Nat.lt_of_le_of_lt h (by decide)
/-! ### the bag of the laws: its list at l, three numbers -/
structure BagL (H : Hp) (b l : Addr) (ns : List Int) (k z r : Int) : Prop where
  hb : H b = some (.lst [.ref l, .int k, .int z, .int r])
  hl : H l = some (.lst (ns.map V.int))
  k0 : 0 ≤ k
  z0 : 0 ≤ z
  r0 : 0 ≤ r
  r1 : r < 2147483647
def Bag (H : Hp) (b l : Addr) : Prop := ∃ (ns : List Int) (k z r : Int), BagL H b l ns k z r
theorem bag_ne {l : Addr} {ns : List Int} {vs : List V} : HO.lst (.ref l :: vs) ≠ HO.lst (ns.map V.int) := fun e => by
  cases ns with
  | nil => cases e
  | cons x r => cases e
theorem BagL.ne {H : Hp} {b l : Addr} {ns : List Int} {k z r : Int} (h : BagL H b l ns k z r) : l ≠ b := fun e => by
  have h1 := h.hb
  have h2 := h.hl
  rw [e, h1] at h2
  exact bag_ne (Option.some.inj h2)
theorem BagL.set {H : Hp} {b l : Addr} {ns : List Int} {k z r k' z' r' : Int} (h : BagL H b l ns k z r) (hk : 0 ≤ k') (hz : 0 ≤ z') (h0 : 0 ≤ r') (h1 : r' < 2147483647) :
    BagL (upd H b (.lst [.ref l, .int k', .int z', .int r'])) b l ns k' z' r' :=
  ⟨upd_same, by rw [upd_ne h.ne]; exact h.hl, hk, hz, h0, h1⟩
theorem Bag.same {H H' : Hp} {b l : Addr} (s : Same H H') : Bag H b l → Bag H' b l
  | ⟨ns, k, z, r, h⟩ => ⟨ns, k, z, r, s _ _ h.hb, s _ _ h.hl, h.k0, h.z0, h.r0, h.r1⟩
theorem Bag.new {H : Hp} {b l p : Addr} {o : HO} (h : Bag H b l) (n : H p = none) : Bag (upd H p o) b l := h.same (same_upd n)
theorem Bag.ne {H : Hp} {b l p : Addr} (h : Bag H b l) (n : H p = none) : p ≠ b := fun e => by
  obtain ⟨ns, k, z, r, h⟩ := h
  rw [e, h.hb] at n
  cases n
theorem Bag.neL {H : Hp} {b l p : Addr} (h : Bag H b l) (n : H p = none) : p ≠ l := fun e => by
  obtain ⟨ns, k, z, r, h⟩ := h
  rw [e, h.hl] at n
  cases n
theorem len_eq {α : Type} {xs : List α} {n : Nat} (h : xs.length = n) : ((xs.length : Nat) : Int) = (n : Int) := by rw [h]
theorem int_at {ns : List Int} {k : Int} (h0 : 0 ≤ k) (h1 : k < ((ns.map V.int).length : Nat)) : ∃ v : Int, atI (ns.map V.int) k = some (.int v) := by
  rw [List.length_map] at h1
  refine ⟨ns[k.toNat]'(by omega), at_of (j := k.toNat) (by omega) ?_⟩
  rw [List.getElem?_map, List.getElem?_eq_getElem (by omega)]
  rfl
end Sf
namespace Sf
open PySem PySem.Spec PyProof.Rows L2 TL
/-! ### what stands at the top: a def of the text; a def that keeps a promise; a constant; built-in names -/
def FnAt (K : PySem.W.Frag) (mg : Str → Option Value) (x : Str) (st : Stmt) (ps : List Str) : Prop := ∃ (f : Addr) (fd : FuncData), mg x = some (.ref f) ∧ Fun K x x st f fd ∧ Binds K fd ps []
def Has (P : Program) (w : World) (K : PySem.W.Frag) (mg : Str → Option Value) (base : Heap) (k : Nat) (x : Str) (ps : List Str) (sp : Sp) : Prop :=
  ∃ (f : Addr) (fd : FuncData), mg x = some (.ref f) ∧ PySem.W.keepIn K (.ref f) = true ∧ Binds K fd ps [] ∧ FnOk P w K mg base CX0 k f fd ps sp
theorem FnAt.has {P : Program} {w : World} {K : PySem.W.Frag} {mg : Str → Option Value} {base : Heap} {k : Nat} {x : Str} {st : Stmt} {ps : List Str} {sp : Sp} (h : FnAt K mg x st ps)
    (ok : ∀ {f : Addr} {fd : FuncData}, Fun K x x st f fd → FnOk P w K mg base CX0 k f fd ps sp) : Has P w K mg base k x ps sp := by
  obtain ⟨f, fd, g, F, b⟩ := h
  exact ⟨f, fd, g, F.kp, b, ok F⟩
theorem fnAt_mk {K : PySem.W.Frag} {h : Heap} {mg : Str → Option Value} {x : Str} {st : Stmt} {ps : List Str} {f : Addr} {oc : Value} {od an : Option Addr} {osl : Array (Option Value)} {kV doc pm cdv ct : Value} (X : K.In h) (G : h.Ns mainGlobals mg)
    (a : PySem.W.nsIn K mainGlobals x = some (some (.ref f))) (l : K.lookup f = some ⟨oc, od, .func (PySem.W.fnOf x x (defArgs st) (defBody st) (defScope st) .none kV doc pm an cdv ct), osl⟩)
    (c : PySem.W.codeIn K cdv x = true) (k : PySem.W.keepIn K (.ref f) = true)
    (b : ∀ (kV doc pm : Value) (an : Option Addr) (cdv ct : Value) (us : List Value), us.length = ps.length → bindArgs (PySem.W.fnOf x x (defArgs st) (defBody st) (defScope st) .none kV doc pm an cdv ct) ⟨us, []⟩ = pure (ps.zip us)) : FnAt K mg x st ps :=
  ⟨f, _, PySem.W.mg_of X G a, fun_mk l c k, (fun_mk l c k).binds b⟩
structure Blt (mg : Str → Option Value) : Prop where
  len : mg "len" = none
  range : mg "range" = none
  isinstance : mg "isinstance" = none
  list : mg "list" = none
  tuple : mg "tuple" = none
  bool : mg "bool" = none
  int : mg "int" = none
  str : mg "str" = none
  all : mg "all" = none
  zip : mg "zip" = none
  min : mg "min" = none
  sorted : mg "sorted" = none
theorem lc_gen {J : It} {n : Nat} {g : TG} {tt : TT} {te : TE} {vs : List Nat} {σ : L2.St} {H1 : Hp} {D : Addr} {Qd : Hp → Prop} (Pv : Nat → Hp → Prop) (h0 : Pv 0 (upd H1 D (.lst [])))
    (hgo : ∀ i H, i < n → Pv i H → J.go i H) (hst : ∀ H, Pv n H → J.stop n H)
    (hs : ∀ i x H H', i < n → Pv i H → J.yld i H x H' → g x (wipe σ vs) H' fun σ2 H2 => wipe σ2 vs = wipe σ vs ∧ tt σ2 H2 fun b H3 =>
      if b = true then te σ2 H3 fun y H4 => ∃ acc, H4 D = some (.lst acc) ∧ acc.length < sizeLine ∧ Pv (i + 1) (upd H4 D (.lst (acc ++ [y]))) else Pv (i + 1) H3) (hd : ∀ H, Pv n H → Qd H) :
    ∃ W : Nat → Nat → Hp → Prop, (∃ m, W 0 m (upd H1 D (.lst []))) ∧ ∀ i m H, W i m H →
      (J.stop i H ∧ Qd H) ∨ (J.go i H ∧ ∃ Nx : Hp → Prop, (∀ H', Nx H' → ∃ m', m' < m ∧ W (i + 1) m' H') ∧ ∀ x H', J.yld i H x H' → g x (wipe σ vs) H' fun σ2 H2 => wipe σ2 vs = wipe σ vs ∧ tt σ2 H2 fun b H3 =>
        if b = true then te σ2 H3 fun y H4 => ∃ acc, H4 D = some (.lst acc) ∧ acc.length < sizeLine ∧ Nx (upd H4 D (.lst (acc ++ [y]))) else Nx H3) := by
  refine ⟨fun i m H => m = n - i ∧ i ≤ n ∧ Pv i H, ⟨n, rfl, Nat.zero_le _, h0⟩, ?_⟩
  rintro i m H ⟨rfl, hi, p⟩
  by_cases hlt : i < n
  · exact .inr ⟨hgo i H hlt p, Pv (i + 1), fun H' p' => ⟨n - (i + 1), by omega, rfl, hlt, p'⟩, fun x H' y => hs i x H H' hlt p y⟩
  · have e : i = n := by omega
    subst e
    exact .inl ⟨hst H p, hd H p⟩
theorem for_gen {J : It} {n : Nat} {g : TG} {tb : TS} {D : Ends} {σ : L2.St} {H : Hp} (Pv : Nat → L2.St → Hp → Prop) (h0 : Pv 0 σ H) (hgo : ∀ i σ H, i < n → Pv i σ H → J.go i H) (hst : ∀ σ H, Pv n σ H → J.stop n H)
    (hs : ∀ i x σ H H', i < n → Pv i σ H → J.yld i H x H' → g x σ H' fun σ2 H2 => tb { D with nx := Pv (i + 1), ct := Pv (i + 1), bk := D.nx } σ2 H2) (hd : ∀ σ H, Pv n σ H → D.nx σ H) :
    ∃ W : Nat → Nat → L2.St → Hp → Prop, (∃ m, W 0 m σ H) ∧ ∀ i m σ H, W i m σ H →
      (J.stop i H ∧ D.nx σ H) ∨ (J.go i H ∧ ∃ N : L2.St → Hp → Prop, (∀ σ' H', N σ' H' → ∃ m', m' < m ∧ W (i + 1) m' σ' H') ∧ ∀ x H', J.yld i H x H' → g x σ H' fun σ2 H2 => tb { D with nx := N, ct := N, bk := D.nx } σ2 H2) := by
  refine ⟨fun i m σ H => m = n - i ∧ i ≤ n ∧ Pv i σ H, ⟨n, rfl, Nat.zero_le _, h0⟩, ?_⟩
  rintro i m σ H ⟨rfl, hi, p⟩
  by_cases hlt : i < n
  · exact .inr ⟨hgo i σ H hlt p, Pv (i + 1), fun σ' H' p' => ⟨n - (i + 1), by omega, rfl, hlt, p'⟩, fun x H' y => hs i x σ H H' hlt p y⟩
  · have e : i = n := by omega
    subst e
    exact .inl ⟨hst σ H p, hd σ H p⟩
theorem yes_if {σ : L2.St} {H : Hp} {A B : Hp → Prop} (h : A H) : tYes σ H (fun b H3 => if b = true then A H3 else B H3) := by
  show if true = true then A H else B H
  exact iteT h
/-! ### signs and words -/
def sgn (c : Nat) : Bool := (decide (97 ≤ c) && decide (c ≤ 104)) || (decide (65 ≤ c) && decide (c ≤ 72))
theorem sgn_iff {c : Nat} : sgn c = true ↔ (97 ≤ c ∧ c ≤ 104) ∨ (65 ≤ c ∧ c ≤ 72) := by
  unfold sgn
  simp only [Bool.or_eq_true, Bool.and_eq_true, decide_eq_true_eq]
def flipC (c : Nat) : Nat := if 97 ≤ c then c - 32 else c + 32
def Wd (x : Str) : Prop := ∀ c ∈ tl x, sgn c = true
abbrev one (c : Nat) : Str := ⟨#[c]⟩
theorem tl_one (c : Nat) : tl (one c) = [c] := rfl
theorem len_one (c : Nat) : (one c).length = 1 := rfl
theorem len_app (x y : Str) : (x ++ y).length = x.length + y.length := by
  rw [len_tl, len_tl, len_tl, tl_append, List.length_append]
theorem Wd.app {x y : Str} (hx : Wd x) (hy : Wd y) : Wd (x ++ y) := fun c hc => by
  rw [tl_append, List.mem_append] at hc
  exact hc.elim (hx c) (hy c)
theorem wd_one {c : Nat} (h : sgn c = true) : Wd (one c) := fun d hd => by
  rw [tl_one, List.mem_singleton] at hd
  rw [hd]
  exact h
theorem tl_small : (Str.ofString "abcdefgh").cps.toList = [97, 98, 99, 100, 101, 102, 103, 104] := by decide +kernel
theorem tl_great : (Str.ofString "ABCDEFGH").cps.toList = [65, 66, 67, 68, 69, 70, 71, 72] := by decide +kernel
theorem tl_signs : (Str.ofString "aAbBcCdDeEfFgGhH").cps.toList = [97, 65, 98, 66, 99, 67, 100, 68, 101, 69, 102, 70, 103, 71, 104, 72] := by decide +kernel
theorem in_small {c : Nat} : (c ∈ (Str.ofString "abcdefgh").cps.toList) ↔ (97 ≤ c ∧ c ≤ 104) := by
  rw [tl_small]
  simp only [List.mem_cons, List.not_mem_nil, or_false]
  omega
theorem in_signs {c : Nat} : (c ∈ (Str.ofString "aAbBcCdDeEfFgGhH").cps.toList) ↔ sgn c = true := by
  rw [tl_signs, sgn_iff]
  simp only [List.mem_cons, List.not_mem_nil, or_false]
  omega
theorem upper_one {c : Nat} (h : 97 ≤ c ∧ c ≤ 104) : Txt.upper (one c) = one (c - 32) := by
  have : c = 97 ∨ c = 98 ∨ c = 99 ∨ c = 100 ∨ c = 101 ∨ c = 102 ∨ c = 103 ∨ c = 104 := by omega
  rcases this with rfl | rfl | rfl | rfl | rfl | rfl | rfl | rfl <;> decide +kernel
theorem lower_one {c : Nat} (h : 65 ≤ c ∧ c ≤ 72) : Txt.lower (one c) = one (c + 32) := by
  have : c = 65 ∨ c = 66 ∨ c = 67 ∨ c = 68 ∨ c = 69 ∨ c = 70 ∨ c = 71 ∨ c = 72 := by omega
  rcases this with rfl | rfl | rfl | rfl | rfl | rfl | rfl | rfl <;> decide +kernel
theorem flip_sgn {c : Nat} (h : sgn c = true) : sgn (flipC c) = true := by
  rw [sgn_iff] at h ⊢
  unfold flipC
  split <;> omega
theorem at_small {e : Int} (h0 : 0 ≤ e) (h1 : e < 8) : atI (Str.ofString "abcdefgh").cps.toList e = some (97 + e.toNat) := by
  have : e = 0 ∨ e = 1 ∨ e = 2 ∨ e = 3 ∨ e = 4 ∨ e = 5 ∨ e = 6 ∨ e = 7 := by omega
  rw [tl_small]
  rcases this with rfl | rfl | rfl | rfl | rfl | rfl | rfl | rfl <;> rfl
theorem at_great {e : Int} (h0 : 0 ≤ e) (h1 : e < 8) : atI (Str.ofString "ABCDEFGH").cps.toList e = some (65 + e.toNat) := by
  have : e = 0 ∨ e = 1 ∨ e = 2 ∨ e = 3 ∨ e = 4 ∨ e = 5 ∨ e = 6 ∨ e = 7 := by omega
  rw [tl_great]
  rcases this with rfl | rfl | rfl | rfl | rfl | rfl | rfl | rfl <;> rfl
theorem at_end {x : List Nat} (h : x ≠ []) : ∃ c, atI x (-1) = some c ∧ c ∈ x := by
  refine ⟨x.getLast h, ?_, List.getLast_mem h⟩
  have e := atI_last x.dropLast (x.getLast h)
  rw [List.dropLast_concat_getLast h] at e
  exact e
theorem str_ne {x : Str} (h : ¬ V.str x = V.str "") : tl x ≠ [] := fun e => h (by
  have : x = "" := ext_tl (by rw [e]; decide +kernel)
  rw [this])
theorem wd_nil : Wd "" := fun c hc => by
  have e : tl "" = [] := by decide +kernel
  rw [e] at hc
  cases hc
/-! ### two values of the same data -/
def flat4 : V → Bool
  | .non => true
  | .bl _ => true
  | .int _ => true
  | .str _ => true
  | _ => false
def Eqv (H : Hp) : Nat → V → V → Prop
  | 0, x, y => flat4 x = true ∧ x = y
  | n + 1, x, y => (flat4 x = true ∧ x = y) ∨ ∃ (p q : Addr) (xs ys : List V), x = .ref p ∧ y = .ref q ∧ ((H p = some (.lst xs) ∧ H q = some (.lst ys)) ∨ (H p = some (.tup xs) ∧ H q = some (.tup ys))) ∧
      xs.length = ys.length ∧ xs.length ≤ 100000 ∧ ∀ (i : Nat) (x y : V), xs[i]? = some x → ys[i]? = some y → Eqv H n x y
theorem Eqv.same {H H' : Hp} (s : Same H H') : ∀ {n : Nat} {x y : V}, Eqv H n x y → Eqv H' n x y
  | 0, _, _, h => h
  | _ + 1, _, _, .inl h => .inl h
  | _ + 1, _, _, .inr ⟨p, q, xs, ys, ex, ey, hp, hl, hz, k⟩ => .inr ⟨p, q, xs, ys, ex, ey, hp.elim (fun h => .inl ⟨s _ _ h.1, s _ _ h.2⟩) (fun h => .inr ⟨s _ _ h.1, s _ _ h.2⟩), hl, hz, fun i x y hx hy => Eqv.same s (k i x y hx hy)⟩
theorem Eqv.flat {H : Hp} {n : Nat} {x : V} (h : flat4 x = true) : Eqv H n x x := by
  cases n with
  | zero => exact ⟨h, rfl⟩
  | succ n => exact .inl ⟨h, rfl⟩
theorem flat_kit {K : PySem.W.Frag} {H : Hp} {x : V} (h : flat4 x = true) : ∃ (T : String) (b1 b2 b3 : Bool), TyX K H x (.type T) ∧ kitB T "list" = some false ∧ kitB T "tuple" = some false ∧ kitB T "bool" = some b1 ∧ kitB T "int" = some b2 ∧ kitB T "str" = some b3 := by
  cases x with
  | non => exact ⟨"NoneType", false, false, false, .base .non, by decide +kernel, by decide +kernel, by decide +kernel, by decide +kernel, by decide +kernel⟩
  | bl b => exact ⟨"bool", true, true, false, .base (.bl b), by decide +kernel, by decide +kernel, by decide +kernel, by decide +kernel, by decide +kernel⟩
  | int b => exact ⟨"int", false, true, false, .base (.int b), by decide +kernel, by decide +kernel, by decide +kernel, by decide +kernel, by decide +kernel⟩
  | str b => exact ⟨"str", false, false, true, .base (.str b), by decide +kernel, by decide +kernel, by decide +kernel, by decide +kernel, by decide +kernel⟩
  | byt b => cases h
  | flt b => cases h
  | ref b => cases h
  | ty b => cases h
theorem TyX.same {K : PySem.W.Frag} {H H' : Hp} {x : V} {T : String} (s : Same H H') (f : flat4 x = true) (h : TyX K H x (.type T)) : TyX K H' x (.type T) := by
  cases x with
  | non => cases h with | base h => cases h with | non => exact .base .non
  | bl b => cases h with | base h => cases h with | bl => exact .base (.bl b)
  | int b => cases h with | base h => cases h with | int => exact .base (.int b)
  | str b => cases h with | base h => cases h with | str => exact .base (.str b)
  | byt b => cases f
  | flt b => cases f
  | ref b => cases f
  | ty b => cases f
theorem kit2 {K : PySem.W.Frag} {T : String} (h1 : kitB T "list" = some false) (h2 : kitB T "tuple" = some false) : PySem.W.kitAny K (.type T) [.type "list", .type "tuple"] = some false :=
  kitAny_cons (kit_ty h1) (fun _ => kitAny_cons (kit_ty h2) (fun _ => kitAny_nil) (fun q => nomatch q)) (fun q => nomatch q)
theorem scal_flat {x : V} (h : flat4 x = true) : scal x x = true := by
  cases x <;> first | rfl | cases h
theorem ne_bl (b : Bool) : (!decide (V.bl b = V.bl b)) = false := by simp
end Sf
namespace Sf
open PySem PySem.Spec PyProof.Rows L2 TL
/-! ### blocks by what holds ahead and behind -/
def Stp {ι : Type} (X : Cx) (st : Stmt) (pre post : ι → L2.St → Hp → Prop) : Prop := ∃ t, PS X st t ∧ ∀ (i : ι) (D : Ends) (σ : L2.St) (H : Hp), pre i σ H → (∀ σ' H', post i σ' H' → D.nx σ' H') → t D σ H
def Blk {ι : Type} (X : Cx) (sts : List Stmt) (pre post : ι → L2.St → Hp → Prop) : Prop := ∃ t, PSs X sts t ∧ ∀ (i : ι) (D : Ends) (σ : L2.St) (H : Hp), pre i σ H → (∀ σ' H', post i σ' H' → D.nx σ' H') → t D σ H
theorem Blk.cons {ι : Type} {X : Cx} {st : Stmt} {rest : List Stmt} {pre post : ι → L2.St → Hp → Prop} (mid : ι → L2.St → Hp → Prop) (a : Stp X st pre mid) (b : Blk X rest mid post) : Blk X (st :: rest) pre post := by
  obtain ⟨t, ht, h⟩ := a
  obtain ⟨u, hu, k⟩ := b
  exact ⟨tSeq t u, pss_cons ht hu, fun i D σ H hp hq => h i _ σ H hp fun σ' H' hm => k i D σ' H' hm hq⟩
theorem Blk.one {ι : Type} {X : Cx} {st : Stmt} {pre post : ι → L2.St → Hp → Prop} (a : Stp X st pre post) : Blk X [st] pre post := by
  obtain ⟨t, ht, h⟩ := a
  exact ⟨t, pss_one ht, h⟩
/-- the same within a block -/
theorem Stp.rng {ι : Type} {X : Cx} {tg iter : Expr} {body : List Stmt} {pos : Pos} {wi : TI} {k : Nat} {pre post : ι → L2.St → Hp → Prop} (Pv : ι → Nat → Nat → L2.St → Hp → Prop) (hp : PassesOwn (model X.prog X.w) X.A X.env X.xe) (hc : X.calm = true) (hi : PI X tg iter wi) (hg : PG X tg (gName k))
    (hk : ∀ (j : ι) (σ : L2.St) (H : Hp) (R : It → Hp → Prop), pre j σ H → (∀ n H1, Pv j n 0 σ H1 → R (Itr 0 n) H1) → wi σ H R)
    (hb : Blk (ι := ι × Nat × Nat) X body (fun i σ H => i.2.2 < i.2.1 ∧ ∃ σ0, Pv i.1 i.2.1 i.2.2 σ0 H ∧ σ = σ0.set k (some (.int (0 + (i.2.2 : Int))))) (fun i σ H => Pv i.1 i.2.1 (i.2.2 + 1) σ H))
    (hr : ∀ j n σ H, Pv j n n σ H → post j σ H) (hs : ∀ x, foldedSetIterable iter X.env x = pure x := by intro _; rfl) : Stp X (.For tg iter body [] pos) pre post := by
  obtain ⟨tb, hb, kb⟩ := hb
  refine ⟨_, ps_for hp hc hi hg hb hs, fun j D σ H h0 hq => ?_⟩
  refine hk j σ H _ h0 fun n H1 h0 => ?_
  exact for_range (lo := 0) (n := n) (Pv j n) h0 (fun i σ1 H2 hlt hv => kb (j, n, i) _ _ _ ⟨hlt, σ1, hv, rfl⟩ fun σ' H' h => h) (fun σ1 H2 hv => hq σ1 H2 (hr j n σ1 H2 hv))
/-- the rest of a def's body -/
def Tl (X : Cx) (sts : List Stmt) (D : Ends) (J : L2.St → Hp → Prop) : Prop := ∃ u, PSs X sts u ∧ ∀ σ H, J σ H → u D σ H
theorem Tl.start {X : Cx} {sts : List Stmt} {D : Ends} {σ : L2.St} {H : Hp} (h : Tl X sts D (fun σ' H' => σ' = σ ∧ H' = H)) : ∃ t, PSs X sts t ∧ t D σ H := by
  obtain ⟨u, hu, k⟩ := h
  exact ⟨u, hu, k σ H ⟨rfl, rfl⟩⟩
theorem Tl.cons {X : Cx} {st : Stmt} {rest : List Stmt} {D : Ends} {J : L2.St → Hp → Prop} (mid : L2.St → Hp → Prop) (a : Stp (ι := Unit) X st (fun _ => J) (fun _ => mid)) (b : Tl X rest D mid) : Tl X (st :: rest) D J := by
  obtain ⟨t, ht, h⟩ := a
  obtain ⟨u, hu, k⟩ := b
  exact ⟨tSeq t u, pss_cons ht hu, fun σ H hj => h () _ σ H hj k⟩
end Sf
namespace Sf
open PySem PySem.Spec PyProof.Rows L2 TL
section
variable {P : Program} {w : World} {K : PySem.W.Frag} {mg : Str → Option Value} {base : Heap}
/-! ### _law_pull: some number below many -/
def spPull : Sp := fun vs H Q _ => ∃ (b l : Addr) (n : Int), vs = [.ref b, .int n] ∧ Bag H b l ∧ 0 < n ∧ n < 1073741824 ∧
  ∀ (d : Int) (H' : Hp), 0 ≤ d → d < n → Bag H' b l → Fx b H H' → Q (.int d) H'
theorem sc_pull : FnScope ["_law_bag", "_law_many", "_law_cell", "_law_digit"] ["_law_bag", "_law_many"] (defScope s__law_pull) := ⟨rfl, rfl, rfl, by decide +kernel, rfl, by decide +kernel, by decide +kernel⟩
theorem ok_pull {f : Addr} {fd : FuncData} {j : Nat} (F : Fun K "_law_pull" "_law_pull" s__law_pull f fd) (ml : mg "len" = none) : FnOk P w K mg base CX0 (j + 1) f fd ["_law_bag", "_law_many"] spPull := by
  refine F.ok sc_pull (fun vs H Q E h => ?_) (fun cdv A outer s H vs Q E hr h => ?_)
  · obtain ⟨b, l, n, rfl, _⟩ := h
    rfl
  · obtain ⟨b, l, n, rfl, ⟨ns, k, z, r, hB⟩, hn0, hn1, q⟩ := h
    refine seq_by (fun σ H1 => ∃ (y2 : Option V) (k z r : Int), σ = [some (.ref b), some (.int n), y2, none] ∧ BagL H1 b l ns k z r ∧ Fx b H H1) ?_ ?_
    · refine ⟨_, pss_cons (ps_if (pt_cmpR op_gt (pe_ix ix_list (pv 0) pe_int (fun _ _ => rfl)) pe_int (nomark _))
          (pss_cons (ps_set (i := 3) sc_pull.nd rfl (.inl rfl) (pe_op op_mod (pe_ix ix_list (pv 0) pe_int (fun _ _ => rfl)) (pv 1)))
          (pss_cons (ps_asg (pe_op op_fdiv (pe_ix ix_list (pv 0) pe_int (fun _ _ => rfl)) (pv 1)) (pg_sub (pv 0) pe_int set_list))
          (pss_one (ps_ret (pv 3))))) pss_nil)
        (pss_cons (ps_asg (pe_op op_mod (pe_op op_add (pe_op op_add (pe_op op_mul (pe_op op_mod (pe_op op_mul (pe_ix ix_list (pv 0) pe_int (fun _ _ => rfl)) (pe_ix ix_list (pv 0) pe_int (fun _ _ => rfl))) pe_int) pe_int)
            (pe_op op_mul (pe_ix ix_list (pv 0) pe_int (fun _ _ => rfl)) pe_int)) pe_int) pe_int) (pg_sub (pv 0) pe_int set_list))
        (pss_one (ps_ret (pe_op op_mod (pe_op op_add (pe_op op_fdiv (pe_ix ix_list (pv 0) pe_int (fun _ _ => rfl)) pe_int) (pe_op op_mul (pe_op op_mod (pe_ix ix_list (pv 0) pe_int (fun _ _ => rfl)) pe_int) pe_int)) (pv 1))))), ?_⟩
      rintro σ H1 ⟨y2, k, z, r, rfl, B, fx⟩
      have hS := SqL.of (K := K) B.hb
      have rr0 := B.r0
      have rr1 := B.r1
      have zz0 := B.z0
      refine ⟨_, rfl, b, _, 2, _, rfl, rfl, hS, at_of (j := 2) rfl rfl, z, 0, rfl, rfl, _, rfl, ite2 (fun e => ?_) (fun e => ?_)⟩
      · have zp : 0 < z := of_decide_eq_true e
        refine ⟨_, rfl, b, _, 2, _, rfl, rfl, hS, at_of (j := 2) rfl rfl, _, rfl, z, n, rfl, rfl, hn0, ?_⟩
        refine ⟨_, rfl, b, _, 2, _, rfl, rfl, hS, at_of (j := 2) rfl rfl, _, rfl, z, n, rfl, rfl, ⟨hn0, hn1⟩, ?_⟩
        refine ⟨_, rfl, b, _, 2, 2, rfl, rfl, B.hb, rfl, ?_⟩
        refine ⟨_, rfl, ?_⟩
        refine q _ _ (Int.emod_nonneg _ (by omega)) (Int.emod_lt_of_pos _ hn0) ⟨ns, k, z / n, r, B.set B.k0 (Int.ediv_nonneg B.z0 (by omega)) B.r0 B.r1⟩ fx.upd
      · refine ⟨_, rfl, b, _, 3, _, rfl, rfl, hS, at_of (j := 3) rfl rfl, _, rfl, b, _, 3, _, rfl, rfl, hS, at_of (j := 3) rfl rfl, r, r, rfl, rfl, .inl ⟨by omega, by omega⟩,
          _, 2147483629, rfl, rfl, (by show (0 : Int) < 2147483629; decide), _, 5, rfl, rfl, .inr ⟨by decide, by decide⟩,
          _, rfl, b, _, 3, _, rfl, rfl, hS, at_of (j := 3) rfl rfl, r, 16807, rfl, rfl, .inr ⟨by decide, by decide⟩, _, _, rfl, rfl, _, 2531011, rfl, rfl, _, 2147483647, rfl, rfl, (by show (0 : Int) < 2147483647; decide), ?_⟩
        refine ⟨_, rfl, b, _, 3, 3, rfl, rfl, B.hb, rfl, ?_⟩
        have h0 : 0 ≤ (r * r % 2147483629 * 5 + r * 16807 + 2531011) % 2147483647 := Int.emod_nonneg _ (by decide)
        have h1 : (r * r % 2147483629 * 5 + r * 16807 + 2531011) % 2147483647 < 2147483647 := Int.emod_lt_of_pos _ (by decide)
        have B' : BagL (upd H1 b (.lst [.ref l, .int k, .int z, .int ((r * r % 2147483629 * 5 + r * 16807 + 2531011) % 2147483647)])) b l ns k z ((r * r % 2147483629 * 5 + r * 16807 + 2531011) % 2147483647) := B.set B.k0 B.z0 h0 h1
        have hS' := SqL.of (K := K) B'.hb
        refine ⟨_, rfl, b, _, 3, _, rfl, rfl, hS', at_of (j := 3) rfl rfl, _, 61, rfl, rfl, ⟨by decide, by decide⟩,
          _, rfl, b, _, 3, _, rfl, rfl, hS', at_of (j := 3) rfl rfl, _, 8191, rfl, rfl, (by show (0 : Int) < 8191; decide), _, 31, rfl, rfl, .inr ⟨by decide, by decide⟩, _, _, rfl, rfl, _, rfl, _, n, rfl, rfl, hn0, ?_⟩
        exact q _ _ (Int.emod_nonneg _ (by omega)) (Int.emod_lt_of_pos _ hn0) ⟨ns, k, z, _, B'⟩ fx.upd
    · intro u hu
      have hS := SqL.of (K := K) hB.hb
      have hS2 := SqL.of (K := K) hB.hl
      have rr0 := hB.r0
      have rr1 := hB.r1
      have zz0 := hB.z0
      have kk0 := hB.k0
      refine ⟨_, ps_if (PW.pt (pw_and (pt_cmpR op_eq (pe_ix ix_list (pv 0) pe_int (fun _ _ => rfl)) pe_int (nomark _))
            (pw_and1 (pt_cmpR op_lt (pe_ix ix_list (pv 0) pe_int (fun _ _ => rfl)) (pe_callB call_len_seq (by rfl) ml PySem.boot_len (pa_cons (pe_ix ix_list (pv 0) pe_int (fun _ _ => rfl)) pa_nil)) (nomark _)))))
          (pss_cons (ps_set (i := 2) sc_pull.nd rfl (.inl rfl) (pe_ix ix_list (pe_ix ix_list (pv 0) pe_int (fun _ _ => rfl)) (pe_ix ix_list (pv 0) pe_int (fun _ _ => rfl)) (fun _ _ => rfl)))
          (pss_cons (ps_asg (pe_op op_add (pe_ix ix_list (pv 0) pe_int (fun _ _ => rfl)) pe_int) (pg_sub (pv 0) pe_int set_list))
          (pss_one (ps_if (pt_cmpR op_ge (pv 2) (pe_op op_pow pe_int pe_int) (nomark _))
            (pss_one (ps_asg (pv 2) (pg_sub (pv 0) pe_int set_list)))
            (pss_one (ps_asg (pe_op op_mod (pe_op op_add (pe_op op_add (pe_op op_mul (pe_ix ix_list (pv 0) pe_int (fun _ _ => rfl)) pe_int) (pe_op op_mul (pe_op op_mod (pv 2) pe_int) pe_int)) pe_int) pe_int) (pg_sub (pv 0) pe_int set_list)))))))
          pss_nil, ?_⟩
      refine ⟨_, rfl, b, _, 2, _, rfl, rfl, hS, at_of (j := 2) rfl rfl, rfl, _, rfl, ite2 (fun e => ?_) (fun e => ?_)⟩
      · refine ⟨_, rfl, b, _, 1, _, rfl, rfl, hS, at_of (j := 1) rfl rfl, _, rfl, b, _, 0, _, rfl, rfl, hS, at_of (j := 0) rfl rfl, l, _, rfl, .inl hS2, k, _, rfl, rfl, _, rfl, ite2 (fun e2 => ?_) (fun e2 => ?_)⟩
        · obtain ⟨v, hv⟩ := int_at (ns := ns) kk0 (of_decide_eq_true e2)
          refine ⟨_, rfl, b, _, 0, _, rfl, rfl, hS, at_of (j := 0) rfl rfl, _, rfl, b, _, 1, _, rfl, rfl, hS, at_of (j := 1) rfl rfl, l, _, k, _, rfl, rfl, hS2, hv, ?_⟩
          refine ⟨_, rfl, b, _, 1, _, rfl, rfl, hS, at_of (j := 1) rfl rfl, k, 1, rfl, rfl, _, rfl, b, _, 1, 1, rfl, rfl, hB.hb, rfl, ?_⟩
          have B' : BagL (upd H b (.lst [.ref l, .int (k + 1), .int z, .int r])) b l ns (k + 1) z r := hB.set (by omega) zz0 rr0 rr1
          have hS' := SqL.of (K := K) B'.hb
          refine ⟨_, rfl, 10, 18, rfl, rfl, ⟨by decide, by decide, by decide⟩, v, _, rfl, rfl, _, rfl, ite2 (fun e3 => ?_) (fun e3 => ?_)⟩
          · have hv0 : 0 ≤ v := by
              have := of_decide_eq_true e3
              have h18 : (10 : Int) ^ (18 : Int).toNat = 1000000000000000000 := by decide +kernel
              rw [h18] at this
              omega
            refine ⟨_, rfl, _, rfl, b, _, 2, 2, rfl, rfl, B'.hb, rfl, ?_⟩
            exact hu _ _ ⟨some (.int v), k + 1, v, r, rfl, B'.set B'.k0 hv0 rr0 rr1, Fx.refl.upd.upd⟩
          · refine ⟨_, rfl, b, _, 3, _, rfl, rfl, hS', at_of (j := 3) rfl rfl, r, 48271, rfl, rfl, .inr ⟨by decide, by decide⟩, _, rfl, v, 2147483629, rfl, rfl, (by show (0 : Int) < 2147483629; decide), _, 69621, rfl, rfl, .inr ⟨by decide, by decide⟩,
              _, _, rfl, rfl, _, 12345, rfl, rfl, _, 2147483647, rfl, rfl, (by show (0 : Int) < 2147483647; decide), ?_⟩
            refine ⟨_, rfl, b, _, 3, 3, rfl, rfl, B'.hb, rfl, ?_⟩
            exact hu _ _ ⟨some (.int v), k + 1, z, _, rfl, B'.set B'.k0 B'.z0 (Int.emod_nonneg _ (by decide)) (Int.emod_lt_of_pos _ (by decide)), Fx.refl.upd.upd⟩
        · exact hu _ _ ⟨none, k, z, r, rfl, hB, .refl⟩
      · exact iteF (hu _ _ ⟨none, k, z, r, rfl, hB, .refl⟩)
end
end Sf
namespace Sf
open PySem PySem.Spec PyProof.Rows L2 TL
section
variable {P : Program} {w : World} {K : PySem.W.Frag} {mg : Str → Option Value} {base : Heap}
abbrev HasPull (P : Program) (w : World) (K : PySem.W.Frag) (mg : Str → Option Value) (base : Heap) : Prop := Has P w K mg base 1 "_law_pull" ["_law_bag", "_law_many"] spPull
theorem has_pull (F : FnAt K mg "_law_pull" s__law_pull ["_law_bag", "_law_many"]) (B : Blt mg) : HasPull P w K mg base := F.has fun F => ok_pull F B.len
/-! ### _law_flip -/
def spFlip : Sp := fun vs H Q _ => ∃ c : Nat, vs = [.str (one c)] ∧ sgn c = true ∧ Q (.str (one (flipC c))) H
abbrev HasFlip (P : Program) (w : World) (K : PySem.W.Frag) (mg : Str → Option Value) (base : Heap) : Prop := Has P w K mg base 1 "_law_flip" ["_law_sign_here"] spFlip
theorem sc_flip : FnScope ["_law_sign_here"] ["_law_sign_here"] (defScope s__law_flip) := ⟨rfl, rfl, rfl, by decide +kernel, rfl, by decide +kernel, by decide +kernel⟩
theorem has_flip (F : FnAt K mg "_law_flip" s__law_flip ["_law_sign_here"]) : HasFlip P w K mg base := F.has fun F => by
  refine F.ok sc_flip (fun vs H Q E h => ?_) (fun cdv A outer s H vs Q E hr h => ?_)
  · obtain ⟨c, rfl, _⟩ := h
    rfl
  · obtain ⟨c, rfl, hc, q⟩ := h
    refine ⟨_, pss_one (ps_ret (pe_ifExp (pt_cmpR op_in_sign (pv 0) pe_str rfl) (pe_upper (pv 0)) (pe_lower (pv 0)))), ?_⟩
    refine ⟨_, rfl, c, _, rfl, rfl, _, rfl, ite2 (fun e => ?_) (fun e => ?_)⟩
    · have h := in_small.mp (of_decide_eq_true e)
      refine ⟨_, rfl, ⟨_, rfl⟩, _, rfl, rfl, by rw [len_one]; decide, ?_⟩
      rw [upper_one h]
      rw [flipC, if_pos h.1] at q
      exact q
    · have h : ¬ (97 ≤ c ∧ c ≤ 104) := fun z => e (decide_eq_true (in_small.mpr z))
      rw [sgn_iff] at hc
      refine ⟨_, rfl, ⟨_, rfl⟩, _, rfl, rfl, by rw [len_one]; decide, ?_⟩
      rw [lower_one (by omega)]
      rw [flipC, if_neg (by omega)] at q
      exact q
/-! ### _law_sign -/
def spSign : Sp := fun vs H Q _ => ∃ (b l : Addr) (n : Int), vs = [.ref b, .int n] ∧ Bag H b l ∧ 0 < n ∧ n ≤ 8 ∧
  ∀ (c : Nat) (H' : Hp), sgn c = true → Bag H' b l → Fx b H H' → Q (.str (one c)) H'
abbrev HasSign (P : Program) (w : World) (K : PySem.W.Frag) (mg : Str → Option Value) (base : Heap) : Prop := Has P w K mg base 2 "_law_sign" ["_law_bag", "_law_many"] spSign
theorem sc_sign : FnScope ["_law_bag", "_law_many"] ["_law_bag", "_law_many"] (defScope s__law_sign) := ⟨rfl, rfl, rfl, by decide +kernel, rfl, by decide +kernel, by decide +kernel⟩
theorem has_sign (F : FnAt K mg "_law_sign" s__law_sign ["_law_bag", "_law_many"]) (hP : HasPull P w K mg base) : HasSign P w K mg base := F.has fun F => by
  obtain ⟨fP, fdP, gP, kP, bP, GP⟩ := hP
  refine F.ok sc_sign (fun vs H Q E h => ?_) (fun cdv A outer s H vs Q E hr h => ?_)
  · obtain ⟨b, l, n, rfl, _⟩ := h
    rfl
  · obtain ⟨b, l, n, rfl, hB, hn0, hn1, q⟩ := h
    refine ⟨_, pss_one (ps_ret (pe_ix ix_str (pe_ix ix_list (pe_lst (pa_cons pe_str (pa_cons pe_str pa_nil))) (pe_call GP hr (by rfl) gP kP bP .nil pass0 (pa_cons (pv 0) (pa_cons pe_int pa_nil))) (fun _ _ => rfl))
      (pe_call GP hr (by rfl) gP kP bP .nil pass0 (pa_cons (pv 0) (pa_cons (pv 1) pa_nil))) (fun _ _ => rfl))), ?_⟩
    refine ⟨by decide, fun p np => ?_⟩
    refine ⟨_, rfl, b, l, 2, rfl, hB.new np, by decide, by decide, fun d H1 d0 d1 B1 f1 => ?_⟩
    have hp : H1 p = some (.lst [.str "abcdefgh", .str "ABCDEFGH"]) := f1 _ _ upd_same (hB.ne np)
    have hd : d = 0 ∨ d = 1 := by omega
    rcases hd with rfl | rfl
    · refine ⟨p, _, 0, _, rfl, rfl, SqL.of hp, at_of (j := 0) rfl rfl, ?_⟩
      refine ⟨_, rfl, _, rfl, b, l, n, rfl, B1, hn0, by omega, fun e H2 e0 e1 B2 f2 => ?_⟩
      refine ⟨_, e, _, rfl, rfl, (by decide +kernel), at_small e0 (by omega), ?_⟩
      exact q _ _ (sgn_iff.mpr (by omega)) B2 ((Fx.new .refl np).trans (f1.trans f2))
    · refine ⟨p, _, 1, _, rfl, rfl, SqL.of hp, at_of (j := 1) rfl rfl, ?_⟩
      refine ⟨_, rfl, _, rfl, b, l, n, rfl, B1, hn0, by omega, fun e H2 e0 e1 B2 f2 => ?_⟩
      refine ⟨_, e, _, rfl, rfl, (by decide +kernel), at_great e0 (by omega), ?_⟩
      exact q _ _ (sgn_iff.mpr (by omega)) B2 ((Fx.new .refl np).trans (f1.trans f2))
/-! ### _law_word -/
def spWord : Sp := fun vs H Q _ => ∃ (b l : Addr) (u n : Int), vs = [.ref b, .int u, .int n] ∧ Bag H b l ∧ 0 ≤ u ∧ u ≤ 1000 ∧ 0 < n ∧ n ≤ 8 ∧
  ∀ (x : Str) (H' : Hp), Wd x → x.length ≤ u.toNat → Bag H' b l → Fx b H H' → Q (.str x) H'
abbrev HasWord (P : Program) (w : World) (K : PySem.W.Frag) (mg : Str → Option Value) (base : Heap) : Prop := Has P w K mg base 3 "_law_word" ["_law_bag", "_law_upto", "_law_many"] spWord
theorem sc_word : FnScope ["_law_bag", "_law_upto", "_law_many", "_law_found", "_law_turn", "_law_sign_here"] ["_law_bag", "_law_upto", "_law_many"] (defScope s__law_word) := ⟨rfl, rfl, rfl, by decide +kernel, rfl, by decide +kernel, by decide +kernel⟩
theorem has_word (F : FnAt K mg "_law_word" s__law_word ["_law_bag", "_law_upto", "_law_many"]) (B : Blt mg) (hP : HasPull P w K mg base) (hS : HasSign P w K mg base) (hF : HasFlip P w K mg base) : HasWord P w K mg base := F.has fun F => by
  obtain ⟨fP, fdP, gP, kP, bP, GP⟩ := hP
  obtain ⟨fS, fdS, gS, kS, bS, GS⟩ := hS
  obtain ⟨fF, fdF, gF, kF, bF, GF⟩ := hF
  refine F.ok sc_word (fun vs H Q E h => ?_) (fun cdv A outer s H vs Q E hr h => ?_)
  · obtain ⟨b, l, u, n, rfl, _⟩ := h
    rfl
  · obtain ⟨b, l, u, n, rfl, hB, hu0, hu1, hn0, hn1, q⟩ := h
    have hr1 : Room 1 _ := hr.mono (by decide)
    refine ⟨_, pss_cons (ps_set (i := 3) sc_word.nd rfl (.inl rfl) pe_str)
      (pss_cons (ps_for PassesOwn.never rfl (pi_range1 rfl B.range (pa_cons (pe_call GP hr1 (by rfl) gP kP bP .nil pass0 (pa_cons (pv 0) (pa_cons (pe_op op_add (pv 1) pe_int) pa_nil))) pa_nil)) (pg_name (i := 4) sc_word.nd rfl (.inl rfl))
        (pss_cons (ps_set (i := 5) sc_word.nd rfl (.inl rfl) (pe_call GS hr (by rfl) gS kS bS .nil pass0 (pa_cons (pv 0) (pa_cons (pv 2) pa_nil))))
        (pss_cons (ps_if (PW.pt (pw_and (pt_cmpR op_ne (pv 3) pe_str (nomark _)) (pw_and1 (pt_cmpR op_eq (pe_call GP hr1 (by rfl) gP kP bP .nil pass0 (pa_cons (pv 0) (pa_cons pe_int pa_nil))) pe_int (nomark _)))))
          (pss_one (ps_set (i := 5) sc_word.nd rfl (.inl rfl) (pe_call GF hr1 (by rfl) gF kF bF .nil pass0 (pa_cons (pe_ix ix_str (pv 3) (pe_un un_neg pe_int) (fun _ _ => rfl)) pa_nil)))) pss_nil)
        (pss_one (ps_set (i := 3) sc_word.nd rfl (.inl rfl) (pe_op op_add_str (pv 3) (pv 5)))))))
      (pss_one (ps_ret (pv 3)))), ?_⟩
    refine ⟨_, rfl, _, rfl, u, 1, rfl, rfl, b, l, u + 1, rfl, hB, by omega, by omega, fun d H1 d0 d1 B1 f1 => ?_⟩
    refine ⟨d, rfl, by omega, by omega, for_range (lo := 0) (n := d.toNat) (fun i σ H2 => ∃ (x : Str) (y4 y5 : Option V), σ = [some (.ref b), some (.int u), some (.int n), some (.str x), y4, y5] ∧ Wd x ∧ x.length ≤ i ∧ Bag H2 b l ∧ Fx b H H2)
      ⟨"", none, none, rfl, wd_nil, (by decide +kernel), B1, f1⟩ ?_ ?_⟩
    · rintro i σ H2 hi ⟨x, y4, y5, rfl, hx, hlen, B2, f2⟩
      have hsz : x.length + 1 ≤ sizeLine := Nat.le_trans (Nat.add_le_add_right (Nat.le_trans hlen (by omega : i ≤ 1000)) 1) (by decide)
      refine ⟨_, rfl, _, rfl, b, l, n, rfl, B2, hn0, hn1, fun c H3 hc B3 f3 => ?_⟩
      have fin : ∀ (c : Nat) (H4 : Hp), sgn c = true → Bag H4 b l → Fx b H H4 → ∃ (x' : Str) (y4 y5 : Option V), [some (V.ref b), some (.int u), some (.int n), some (.str (x ++ one c)), some (.int (0 + i)), some (.str (one c))] = [some (.ref b), some (.int u), some (.int n), some (.str x'), y4, y5] ∧ Wd x' ∧ x'.length ≤ i + 1 ∧ Bag H4 b l ∧ Fx b H H4 :=
        fun c H4 hc B4 f4 => ⟨_, _, _, rfl, hx.app (wd_one hc), by rw [len_app, len_one]; omega, B4, f4⟩
      refine ⟨_, rfl, rfl, _, rfl, ite2 (fun e => ?_) (fun e => ?_)⟩
      · refine ⟨_, rfl, b, l, 4, rfl, B3, by decide, by decide, fun d2 H4 _ _ B4 f4 => ?_⟩
        refine ⟨rfl, _, rfl, ite2 (fun e2 => ?_) (fun e2 => ?_)⟩
        · have hne : tl x ≠ [] := str_ne fun z => by
            rw [z] at e
            simp at e
          obtain ⟨c2, hc2, hm⟩ := at_end hne
          refine ⟨_, rfl, 1, rfl, x, _, c2, rfl, rfl, by omega, hc2, c2, rfl, hx c2 hm, ?_⟩
          exact ⟨_, rfl, _, rfl, x, _, rfl, rfl, hsz, fin _ _ (flip_sgn (hx c2 hm)) B4 (f2.trans (f3.trans f4))⟩
        · exact ⟨_, rfl, _, rfl, x, _, rfl, rfl, hsz, fin _ _ hc B4 (f2.trans (f3.trans f4))⟩
      · exact iteF ⟨_, rfl, _, rfl, x, _, rfl, rfl, hsz, fin _ _ hc B3 (f2.trans f3)⟩
    · rintro σ H2 ⟨x, y4, y5, rfl, hx, hlen, B2, f2⟩
      exact ⟨_, rfl, q x H2 hx (by omega) B2 f2⟩
end
end Sf
namespace Sf
open PySem PySem.Spec PyProof.Rows L2 TL
section
variable {P : Program} {w : World} {K : PySem.W.Frag} {mg : Str → Option Value} {base : Heap}
/-! ### _law_any_word -/
def spAny : Sp := fun vs H Q _ => ∃ (b l : Addr) (u : Int), vs = [.ref b, .int u] ∧ Bag H b l ∧ 0 ≤ u ∧ u ≤ 1000 ∧
  ∀ (x : Str) (H' : Hp), Wd x → x.length ≤ u.toNat → Bag H' b l → Fx b H H' → Q (.str x) H'
abbrev HasAny (P : Program) (w : World) (K : PySem.W.Frag) (mg : Str → Option Value) (base : Heap) : Prop := Has P w K mg base 4 "_law_any_word" ["_law_bag", "_law_upto"] spAny
theorem sc_any : FnScope ["_law_bag", "_law_upto"] ["_law_bag", "_law_upto"] (defScope s__law_any_word) := ⟨rfl, rfl, rfl, by decide +kernel, rfl, by decide +kernel, by decide +kernel⟩
theorem has_any (F : FnAt K mg "_law_any_word" s__law_any_word ["_law_bag", "_law_upto"]) (hP : HasPull P w K mg base) (hW : HasWord P w K mg base) : HasAny P w K mg base := F.has fun F => by
  obtain ⟨fP, fdP, gP, kP, bP, GP⟩ := hP
  obtain ⟨fW, fdW, gW, kW, bW, GW⟩ := hW
  refine F.ok sc_any (fun vs H Q E h => ?_) (fun cdv A outer s H vs Q E hr h => ?_)
  · obtain ⟨b, l, u, rfl, _⟩ := h
    rfl
  · obtain ⟨b, l, u, rfl, hB, hu0, hu1, q⟩ := h
    refine ⟨_, pss_one (ps_ret (pe_call GW hr (by rfl) gW kW bW .nil pass0 (pa_cons (pv 0) (pa_cons (pv 1) (pa_cons (pe_ix ix_list (pe_lst (pa_cons pe_int (pa_cons pe_int (pa_cons pe_int (pa_cons pe_int pa_nil)))))
      (pe_call GP (hr.mono (by decide)) (by rfl) gP kP bP .nil pass0 (pa_cons (pv 0) (pa_cons pe_int pa_nil))) (fun _ _ => rfl)) pa_nil))))), ?_⟩
    refine ⟨_, rfl, _, rfl, by decide, fun p np => ?_⟩
    refine ⟨_, rfl, b, l, 4, rfl, hB.new np, by decide, by decide, fun d H1 d0 d1 B1 f1 => ?_⟩
    have hp : H1 p = some (.lst [.int 2, .int 1, .int 3, .int 8]) := f1 _ _ upd_same (hB.ne np)
    have hv : ∃ v : Int, atI [V.int 2, .int 1, .int 3, .int 8] d = some (.int v) ∧ 0 < v ∧ v ≤ 8 := by
      have hd : d = 0 ∨ d = 1 ∨ d = 2 ∨ d = 3 := by omega
      rcases hd with rfl | rfl | rfl | rfl
      · exact ⟨2, rfl, by decide, by decide⟩
      · exact ⟨1, rfl, by decide, by decide⟩
      · exact ⟨3, rfl, by decide, by decide⟩
      · exact ⟨8, rfl, by decide, by decide⟩
    obtain ⟨v, hv, v0, v1⟩ := hv
    refine ⟨p, _, d, _, rfl, rfl, SqL.of hp, hv, b, l, u, v, rfl, B1, hu0, hu1, v0, v1, fun x H2 hx hl B2 f2 => ?_⟩
    exact q x H2 hx hl B2 ((Fx.new .refl np).trans (f1.trans f2))
end
end Sf
namespace Sf
open PySem PySem.Spec PyProof.Rows L2 TL
section
variable {P : Program} {w : World} {K : PySem.W.Frag} {mg : Str → Option Value} {base : Heap}
/-! ### _law_begin -/
def spBegin (K : PySem.W.Frag) : Sp := fun vs H Q _ => ∃ (a : Addr) (ns : List Int), vs = [.ref a] ∧ SqL K H a (ns.map V.int) ∧ ∀ (b l : Addr) (H' : Hp), H b = none → Bag H' b l → Same H H' → Q (.ref b) H'
abbrev HasBegin (P : Program) (w : World) (K : PySem.W.Frag) (mg : Str → Option Value) (base : Heap) : Prop := Has P w K mg base 1 "_law_begin" ["_law_script"] (spBegin K)
theorem sc_begin : FnScope ["_law_script", "_law_salt", "_law_cell"] ["_law_script"] (defScope s__law_begin) := ⟨rfl, rfl, rfl, by decide +kernel, rfl, by decide +kernel, by decide +kernel⟩
theorem cut_ints (ns : List Int) (lo hi : Option Int) : ∃ ms : List Int, cutV (ns.map V.int) lo hi = ms.map V.int := by
  refine ⟨(ns.drop (HT.sIx (ns.map V.int).length 0 lo)).take (HT.sIx (ns.map V.int).length (ns.map V.int).length hi - HT.sIx (ns.map V.int).length 0 lo), ?_⟩
  unfold cutV
  rw [List.map_take, List.map_drop]
theorem has_begin (F : FnAt K mg "_law_begin" s__law_begin ["_law_script"]) (B : Blt mg) : HasBegin P w K mg base := F.has fun F => by
  refine F.ok sc_begin (fun vs H Q E h => ?_) (fun cdv A outer s H vs Q E hr h => ?_)
  · obtain ⟨a, ns, rfl, _⟩ := h
    rfl
  · obtain ⟨a, ns, rfl, hS, q⟩ := h
    refine ⟨_, pss_cons (ps_set (i := 1) sc_begin.nd rfl (.inl rfl) pe_int)
      (pss_cons (ps_for PassesOwn.never rfl (pi_list (pe_slice sl_list (pv 0) po_none (po_some pe_int))) (pg_name (i := 2) sc_begin.nd rfl (.inl rfl))
        (pss_one (ps_set (i := 1) sc_begin.nd rfl (.inl rfl) (pe_op op_mod (pe_op op_add (pe_op op_add (pe_op op_mul (pv 1) pe_int) (pe_op op_mod (pv 2) pe_int)) pe_int) pe_int))))
      (pss_one (ps_ret (pe_lst (pa_cons (pe_callTy call_list_of (by rfl) B.list (by decide +kernel) (pa_cons (pe_slice sl_list (pv 0) po_none (po_some pe_int)) pa_nil)) (pa_cons pe_int (pa_cons pe_int (pa_cons (pv 1) pa_nil)))))))), ?_⟩
    obtain ⟨ms, em⟩ := cut_ints ns none (some 63)
    refine ⟨_, rfl, 63, rfl, a, _, rfl, hS, fun p np => ?_⟩
    have s1 : Same H (upd H p (.lst (cutV (ns.map V.int) none (some 63)))) := same_upd np
    have hp : SqL K (upd H p (.lst (cutV (ns.map V.int) none (some 63)))) p (ms.map V.int) := SqL.of (by rw [upd_same, em])
    refine ⟨p, rfl, ⟨_, hp⟩, for_list (K := K) (a := p) (xs := ms.map V.int) (fun i σ H2 => ∃ (r : Int) (y : Option V), σ = [some (.ref a), some (.int r), y] ∧ 0 ≤ r ∧ r < 2147483647 ∧ H2 = upd H p (.lst (cutV (ns.map V.int) none (some 63))))
      ⟨977, none, rfl, by decide, by decide, rfl⟩ (fun i σ H2 _ ⟨_, _, _, _, _, e⟩ => by rw [e]; exact hp) ?_ ?_⟩
    · rintro i v σ H2 hi ⟨r, y, rfl, r0, r1, rfl⟩
      obtain ⟨z, rfl⟩ : ∃ z, v = V.int z := by
        rw [List.getElem?_map] at hi
        cases e : ms[i]? with
        | none =>
          rw [e] at hi
          cases hi
        | some z =>
          rw [e] at hi
          exact ⟨z, (Option.some.inj hi).symm⟩
      refine ⟨_, rfl, r, 1009, rfl, rfl, .inr ⟨by decide, by decide⟩, _, rfl, z, 2147483629, rfl, rfl, (by show (0 : Int) < 2147483629; decide), _, _, rfl, rfl, _, 7, rfl, rfl, _, 2147483629, rfl, rfl, (by show (0 : Int) < 2147483629; decide), ?_⟩
      have h0 : 0 ≤ (r * 1009 + z % 2147483629 + 7) % 2147483629 := Int.emod_nonneg _ (by decide)
      have h1 : (r * 1009 + z % 2147483629 + 7) % 2147483629 < 2147483629 := Int.emod_lt_of_pos _ (by decide)
      exact ⟨_, _, rfl, h0, by omega, rfl⟩
    · rintro σ H2 ⟨r, y, rfl, r0, r1, rfl⟩
      refine ⟨_, rfl, 63, rfl, a, _, rfl, s1.seq hS, fun p2 np2 => ?_⟩
      have hp2 : SqL K (upd (upd H p (.lst (cutV (ns.map V.int) none (some 63)))) p2 (.lst (cutV (ns.map V.int) none (some 63)))) p2 (ms.map V.int) := SqL.of (by rw [upd_same, em])
      have s2 := s1.trans (same_upd (o := .lst (cutV (ns.map V.int) none (some 63))) np2)
      refine ⟨p2, _, rfl, .inl hp2, fun l nl => ?_⟩
      have s3 := s2.trans (same_upd (o := .lst (ms.map V.int)) nl)
      refine ⟨_, rfl, (by show 4 ≤ sizeLine; decide), fun b nb => ?_⟩
      have s4 := s3.trans (same_upd (o := .lst [.ref l, .int 0, .int 0, .int r]) nb)
      refine q b l _ (s3.free nb) ⟨ms, 0, 0, r, upd_same, ?_, by decide, by decide, r0, r1⟩ s4
      have nlb : l ≠ b := fun z => by
        rw [← z, upd_same] at nb
        cases nb
      rw [upd_ne nlb, upd_same]
end
end Sf
namespace Sf
open PySem PySem.Spec PyProof.Rows L2 TL
section
variable {P : Program} {w : World} {K : PySem.W.Frag} {mg : Str → Option Value} {base : Heap}
/-! ### _law_same: True of two values of the same data -/
def spSame (n : Nat) : Sp := fun vs H Q _ => ∃ x y : V, vs = [x, y] ∧ Eqv H n x y ∧ ∀ H', Same H H' → Q (.bl true) H'
abbrev HasSame (P : Program) (w : World) (K : PySem.W.Frag) (mg : Str → Option Value) (base : Heap) (n : Nat) : Prop := Has P w K mg base (n + 1) "_law_same" ["_law_found", "_law_due"] (spSame n)
theorem sc_same : FnScope ["_law_found", "_law_due", "_law_one", "_law_other"] ["_law_found", "_law_due"] (defScope s__law_same) := ⟨rfl, rfl, rfl, by decide +kernel, rfl, by decide +kernel, by decide +kernel⟩
theorem all_true (n : Nat) : (List.replicate n true).all id = true := by
  induction n with
  | zero => rfl
  | succ n ih => rw [List.replicate_succ, List.all_cons, ih]; rfl
theorem has_same (F : FnAt K mg "_law_same" s__law_same ["_law_found", "_law_due"]) (B : Blt mg) : ∀ n, HasSame P w K mg base n := by
  intro n
  induction n with
  | zero =>
    refine F.has fun F => ?_
    refine F.ok sc_same (fun vs H Q E h => ?_) (fun cdv A outer s H vs Q E hr h => ?_)
    · obtain ⟨x, y, rfl, _⟩ := h
      rfl
    · obtain ⟨x, y, rfl, ⟨fx, rfl⟩, q⟩ := h
      obtain ⟨T, b1, b2, b3, ty, k1, k2, k3, k4, k5⟩ := flat_kit (K := K) (H := H) fx
      refine ⟨_, pss_cons (ps_if (pt_val (pe_callB call_isiT (by rfl) B.isinstance (by decide +kernel) (pa_cons (pv 1) (pa_cons (pe_tup (pa_cons (pe_bltn (v := .ty "list") (by rfl) B.list (by decide +kernel) rfl) (pa_cons (pe_bltn (v := .ty "tuple") (by rfl) B.tuple (by decide +kernel) rfl) pa_nil))) pa_nil)))) pss_never pss_nil)
        (pss_cons (ps_if (PW.pt (pw_or (pt_cmpR op_isN (pv 1) pe_non (nomark _)) (pw_or1 (pt_cmpR op_isN (pv 0) pe_non (nomark _))))) (pss_one (ps_ret (pe_and (pe_cmpR op_isN (pv 0) pe_non (nomark _)) (pe_one (pe_cmpR op_isN (pv 1) pe_non (nomark _)))))) pss_nil)
        (pss_cons (ps_if (PW.pt (pw_or (pt_cmpR op_ne (pe_callB call_isi (by rfl) B.isinstance (by decide +kernel) (pa_cons (pv 0) (pa_cons (pe_bltn (v := .ty "bool") (by rfl) B.bool (by decide +kernel) rfl) pa_nil))) (pe_callB call_isi (by rfl) B.isinstance (by decide +kernel) (pa_cons (pv 1) (pa_cons (pe_bltn (v := .ty "bool") (by rfl) B.bool (by decide +kernel) rfl) pa_nil))) (nomark _))
            (pw_or1 (pt_cmpR op_ne (pe_callB call_isi (by rfl) B.isinstance (by decide +kernel) (pa_cons (pv 0) (pa_cons (pe_bltn (v := .ty "int") (by rfl) B.int (by decide +kernel) rfl) pa_nil))) (pe_callB call_isi (by rfl) B.isinstance (by decide +kernel) (pa_cons (pv 1) (pa_cons (pe_bltn (v := .ty "int") (by rfl) B.int (by decide +kernel) rfl) pa_nil))) (nomark _))))) pss_never pss_nil)
        (pss_one (ps_ret (pe_and (pe_cmpR op_eq (pe_callB call_isi (by rfl) B.isinstance (by decide +kernel) (pa_cons (pv 0) (pa_cons (pe_bltn (v := .ty "str") (by rfl) B.str (by decide +kernel) rfl) pa_nil))) (pe_callB call_isi (by rfl) B.isinstance (by decide +kernel) (pa_cons (pv 1) (pa_cons (pe_bltn (v := .ty "str") (by rfl) B.str (by decide +kernel) rfl) pa_nil))) (nomark _)) (pe_one (pe_cmpR op_eq (pv 0) (pv 1) (nomark _)))))))), ?_⟩
      refine ⟨x, rfl, (by show 2 ≤ sizeLine; decide), fun p np => ?_⟩
      have s1 := same_upd (o := .tup [.ty "list", .ty "tuple"]) np
      have ty1 := TyX.same s1 fx ty
      refine ⟨x, p, _, _, [.type "list", .type "tuple"], false, rfl, upd_same, .cons (.ty _) (.cons (.ty _) .nil), ty1, kit2 k1 k2, _, rfl, iteF ?_⟩
      refine ⟨x, rfl, rfl, _, rfl, ite2 (fun e => ?_) (fun e => ?_)⟩
      · have ex : x = .non := of_decide_eq_true e
        subst ex
        refine iteT ⟨_, rfl, rfl, _, rfl, ite2 (fun _ => ⟨_, rfl, rfl, ?_⟩) (fun z => absurd (decide_eq_true rfl) z)⟩
        exact q _ s1
      · refine ⟨x, rfl, rfl, _, rfl, ite2 (fun e2 => absurd e2 e) (fun _ => ?_)⟩
        refine ⟨x, rfl, x, _, _, _, b1, rfl, .ty "bool", ty1, kit_ty k3, x, rfl, x, _, _, _, b1, rfl, .ty "bool", ty1, kit_ty k3, rfl, _, rfl, ite2 (fun z => ?_) (fun _ => ?_)⟩
        · rw [ne_bl] at z
          cases z
        · refine ⟨x, rfl, x, _, _, _, b2, rfl, .ty "int", ty1, kit_ty k4, x, rfl, x, _, _, _, b2, rfl, .ty "int", ty1, kit_ty k4, rfl, _, rfl, ite2 (fun z => ?_) (fun _ => ?_)⟩
          · rw [ne_bl] at z
            cases z
          · refine ⟨x, rfl, x, _, _, _, b3, rfl, .ty "str", ty1, kit_ty k5, x, rfl, x, _, _, _, b3, rfl, .ty "str", ty1, kit_ty k5, rfl, _, rfl, ite2 (fun z => ?_) (fun z => absurd (decide_eq_true rfl) z)⟩
            refine ⟨x, rfl, x, rfl, scal_flat fx, ?_⟩
            rw [decide_eq_true rfl]
            exact q _ s1
  | succ n ih =>
    obtain ⟨fR, fdR, gR, kR, bR, GR⟩ := ih
    refine F.has fun F => ?_
    refine F.ok sc_same (fun vs H Q E h => ?_) (fun cdv A outer s H vs Q E hr h => ?_)
    · obtain ⟨x, y, rfl, _⟩ := h
      rfl
    · obtain ⟨x, y, rfl, hE, q⟩ := h
      refine seq_by (fun σ H1 => σ = [some x, some x, none, none] ∧ flat4 x = true ∧ Same H H1) ?_ ?_
      · refine ⟨_, (pss_cons (ps_if (PW.pt (pw_or (pt_cmpR op_isN (pv 1) pe_non (nomark _)) (pw_or1 (pt_cmpR op_isN (pv 0) pe_non (nomark _))))) (pss_one (ps_ret (pe_and (pe_cmpR op_isN (pv 0) pe_non (nomark _)) (pe_one (pe_cmpR op_isN (pv 1) pe_non (nomark _)))))) pss_nil)
        (pss_cons (ps_if (PW.pt (pw_or (pt_cmpR op_ne (pe_callB call_isi (by rfl) B.isinstance (by decide +kernel) (pa_cons (pv 0) (pa_cons (pe_bltn (v := .ty "bool") (by rfl) B.bool (by decide +kernel) rfl) pa_nil))) (pe_callB call_isi (by rfl) B.isinstance (by decide +kernel) (pa_cons (pv 1) (pa_cons (pe_bltn (v := .ty "bool") (by rfl) B.bool (by decide +kernel) rfl) pa_nil))) (nomark _))
            (pw_or1 (pt_cmpR op_ne (pe_callB call_isi (by rfl) B.isinstance (by decide +kernel) (pa_cons (pv 0) (pa_cons (pe_bltn (v := .ty "int") (by rfl) B.int (by decide +kernel) rfl) pa_nil))) (pe_callB call_isi (by rfl) B.isinstance (by decide +kernel) (pa_cons (pv 1) (pa_cons (pe_bltn (v := .ty "int") (by rfl) B.int (by decide +kernel) rfl) pa_nil))) (nomark _))))) pss_never pss_nil)
        (pss_one (ps_ret (pe_and (pe_cmpR op_eq (pe_callB call_isi (by rfl) B.isinstance (by decide +kernel) (pa_cons (pv 0) (pa_cons (pe_bltn (v := .ty "str") (by rfl) B.str (by decide +kernel) rfl) pa_nil))) (pe_callB call_isi (by rfl) B.isinstance (by decide +kernel) (pa_cons (pv 1) (pa_cons (pe_bltn (v := .ty "str") (by rfl) B.str (by decide +kernel) rfl) pa_nil))) (nomark _)) (pe_one (pe_cmpR op_eq (pv 0) (pv 1) (nomark _)))))))), ?_⟩
        rintro σ H1 ⟨rfl, fx, s1⟩
        obtain ⟨T, b1, b2, b3, ty1, k1, k2, k3, k4, k5⟩ := flat_kit (K := K) (H := H1) fx
        refine ⟨x, rfl, rfl, _, rfl, ite2 (fun e => ?_) (fun e => ?_)⟩
        · have ex : x = .non := of_decide_eq_true e
          subst ex
          refine iteT ⟨_, rfl, rfl, _, rfl, ite2 (fun _ => ⟨_, rfl, rfl, ?_⟩) (fun z => absurd (decide_eq_true rfl) z)⟩
          exact q _ s1
        · refine ⟨x, rfl, rfl, _, rfl, ite2 (fun e2 => absurd e2 e) (fun _ => ?_)⟩
          refine ⟨x, rfl, x, _, _, _, b1, rfl, .ty "bool", ty1, kit_ty k3, x, rfl, x, _, _, _, b1, rfl, .ty "bool", ty1, kit_ty k3, rfl, _, rfl, ite2 (fun z => ?_) (fun _ => ?_)⟩
          · rw [ne_bl] at z
            cases z
          · refine ⟨x, rfl, x, _, _, _, b2, rfl, .ty "int", ty1, kit_ty k4, x, rfl, x, _, _, _, b2, rfl, .ty "int", ty1, kit_ty k4, rfl, _, rfl, ite2 (fun z => ?_) (fun _ => ?_)⟩
            · rw [ne_bl] at z
              cases z
            · refine ⟨x, rfl, x, _, _, _, b3, rfl, .ty "str", ty1, kit_ty k5, x, rfl, x, _, _, _, b3, rfl, .ty "str", ty1, kit_ty k5, rfl, _, rfl, ite2 (fun z => ?_) (fun z => absurd (decide_eq_true rfl) z)⟩
              refine ⟨x, rfl, x, rfl, scal_flat fx, ?_⟩
              rw [decide_eq_true rfl]
              exact q _ s1
      · intro u hu
        refine ⟨_, ps_if (pt_val (pe_callB call_isiT (by rfl) B.isinstance (by decide +kernel) (pa_cons (pv 1) (pa_cons (pe_tup (pa_cons (pe_bltn (v := .ty "list") (by rfl) B.list (by decide +kernel) rfl) (pa_cons (pe_bltn (v := .ty "tuple") (by rfl) B.tuple (by decide +kernel) rfl) pa_nil))) pa_nil))))
          (pss_cons (ps_if (PW.pt (pw_or (pt_cmpR op_ne (pe_callB call_isi (by rfl) B.isinstance (by decide +kernel) (pa_cons (pv 0) (pa_cons (pe_bltn (v := .ty "list") (by rfl) B.list (by decide +kernel) rfl) pa_nil))) (pe_callB call_isi (by rfl) B.isinstance (by decide +kernel) (pa_cons (pv 1) (pa_cons (pe_bltn (v := .ty "list") (by rfl) B.list (by decide +kernel) rfl) pa_nil))) (nomark _)) (pw_or1 (pt_cmpR op_ne (pe_callB call_isi (by rfl) B.isinstance (by decide +kernel) (pa_cons (pv 0) (pa_cons (pe_bltn (v := .ty "tuple") (by rfl) B.tuple (by decide +kernel) rfl) pa_nil))) (pe_callB call_isi (by rfl) B.isinstance (by decide +kernel) (pa_cons (pv 1) (pa_cons (pe_bltn (v := .ty "tuple") (by rfl) B.tuple (by decide +kernel) rfl) pa_nil))) (nomark _))))) pss_never pss_nil)
          (pss_one (ps_ret (pe_and (pe_cmpR op_eq (pe_callB call_len_seq (by rfl) B.len PySem.boot_len (pa_cons (pv 0) pa_nil)) (pe_callB call_len_seq (by rfl) B.len PySem.boot_len (pa_cons (pv 1) pa_nil)) (nomark _))
            (pe_one (pe_callB (cr_all rfl) (by rfl) B.all (by decide +kernel) (pa_cons (pe_lc (own := [("_law_one", 2), ("_law_other", 3)]) (g := gTup K 2 (gCons (gName 2) (gCons (gName 3) gNil))) (tt := tYes) (by rfl) sc_same.nd (RZ.pi_zipA (by rfl) B.zip (pa_cons (pv 0) (pa_cons (pv 1) pa_nil)))
              (blkOk_by (own := [("_law_one", 2), ("_law_other", 3)]) (N := ["_law_found", "_law_due", "_law_one", "_law_other"]) (sc := defScope s__law_same) (by decide +kernel))
              (fun _ _ _ _ _ => pg_tup rfl (pgs_cons (pg_name (i := 2) sc_same.nd rfl (.inl rfl)) (pgs_cons (pg_name (i := 3) sc_same.nd rfl (.inl rfl)) pgs_nil))) (fun _ _ _ _ _ => pts_nil)
              (fun _ _ _ _ _ => pe_call GR hr (by rfl) gR kR bR .nil pass0 (pa_cons (pv 2) (pa_cons (pv 3) pa_nil)))) pa_nil))))))) pss_nil, ?_⟩
        refine ⟨y, rfl, (by show 2 ≤ sizeLine; decide), fun p np => ?_⟩
        have s1 := same_upd (o := .tup [.ty "list", .ty "tuple"]) np
        rcases hE with ⟨fx, rfl⟩ | ⟨pa, pb, xs, ys, rfl, rfl, hxy, hlen, hsz, hEach⟩
        · obtain ⟨T, b1, b2, b3, ty, k1, k2, k3, k4, k5⟩ := flat_kit (K := K) (H := upd H p (.tup [.ty "list", .ty "tuple"])) fx
          exact ⟨x, p, _, _, [.type "list", .type "tuple"], false, rfl, upd_same, .cons (.ty _) (.cons (.ty _) .nil), ty, kit2 k1 k2, _, rfl, iteF (hu _ _ ⟨rfl, fx, s1⟩)⟩
        · obtain ⟨T, bl, bt, tyx, tyy, kany, kl, kt⟩ : ∃ (T : String) (bl bt : Bool), TyX K (upd H p (.tup [.ty "list", .ty "tuple"])) (.ref pa) (.type T) ∧ TyX K (upd H p (.tup [.ty "list", .ty "tuple"])) (.ref pb) (.type T) ∧
              PySem.W.kitAny K (.type T) [.type "list", .type "tuple"] = some true ∧ kitB T "list" = some bl ∧ kitB T "tuple" = some bt := by
            rcases hxy with ⟨ha, hb⟩ | ⟨ha, hb⟩
            · exact ⟨"list", true, false, .base (.lst (s1 _ _ ha)), .base (.lst (s1 _ _ hb)), kitAny_cons (kit_ty (b := "list") (r := true) (by decide +kernel)) (fun q => nomatch q) (fun _ => rfl), by decide +kernel, by decide +kernel⟩
            · exact ⟨"tuple", false, true, .base (.tup (s1 _ _ ha)), .base (.tup (s1 _ _ hb)), kitAny_cons (kit_ty (b := "list") (r := false) (by decide +kernel)) (fun _ => kitAny_cons (kit_ty (b := "tuple") (r := true) (by decide +kernel)) (fun q => nomatch q) (fun _ => rfl)) (fun q => nomatch q), by decide +kernel, by decide +kernel⟩
          refine ⟨_, p, _, _, [.type "list", .type "tuple"], true, rfl, upd_same, .cons (.ty _) (.cons (.ty _) .nil), tyy, kany, _, rfl, iteT ?_⟩
          refine ⟨_, rfl, _, _, _, _, bl, rfl, .ty "list", tyx, kit_ty kl, _, rfl, _, _, _, _, bl, rfl, .ty "list", tyy, kit_ty kl, rfl, _, rfl, ite2 (fun z => ?_) (fun _ => ?_)⟩
          · rw [ne_bl] at z
            cases z
          refine ⟨_, rfl, _, _, _, _, bt, rfl, .ty "tuple", tyx, kit_ty kt, _, rfl, _, _, _, _, bt, rfl, .ty "tuple", tyy, kit_ty kt, rfl, _, rfl, ite2 (fun z => ?_) (fun _ => ?_)⟩
          · rw [ne_bl] at z
            cases z
          have sqx : SqL K (upd H p (.tup [.ty "list", .ty "tuple"])) pa xs ∨ SqT K (upd H p (.tup [.ty "list", .ty "tuple"])) pa xs := hxy.elim (fun h => .inl (SqL.of (s1 _ _ h.1))) (fun h => .inr (SqT.of (s1 _ _ h.1)))
          have sqy : SqL K (upd H p (.tup [.ty "list", .ty "tuple"])) pb ys ∨ SqT K (upd H p (.tup [.ty "list", .ty "tuple"])) pb ys := hxy.elim (fun h => .inl (SqL.of (s1 _ _ h.2))) (fun h => .inr (SqT.of (s1 _ _ h.2)))
          refine ⟨_, rfl, pa, xs, rfl, sqx, _, rfl, pb, ys, rfl, sqy, rfl, _, rfl, ite2 (fun _ => ?_) (fun z => absurd (decide_eq_true (by rw [hlen])) z)⟩
          refine ⟨_, rfl, _, rfl, pa, pb, xs, ys, rfl, ?_⟩
          have turn : ∀ (i : Nat) (x y : V) (D T : Addr) (H2 : Hp), (upd H p (.tup [.ty "list", .ty "tuple"])) D = none → xs[i]? = some x → ys[i]? = some y → Same (upd H p (.tup [.ty "list", .ty "tuple"])) H2 → H2 D = some (.lst (List.replicate i (V.bl true))) → H2 T = none →
              ∃ x' y' : V, [x, y] ++ [] = [x', y'] ∧ Eqv (upd H2 T (.tup [x, y])) n x' y' ∧ ∀ H', Same (upd H2 T (.tup [x, y])) H' → ∃ acc, H' D = some (.lst acc) ∧ acc.length < sizeLine ∧ (Same (upd H p (.tup [.ty "list", .ty "tuple"])) (upd H' D (.lst (acc ++ [.bl true]))) ∧ (upd H' D (.lst (acc ++ [.bl true]))) D = some (.lst (List.replicate (i + 1) (V.bl true)))) := by
            intro i x y D T H2 nD hx hy s2 hD nT
            have s3 : Same H2 (upd H2 T (.tup [x, y])) := same_upd nT
            have hi : i < xs.length := (List.getElem?_eq_some_iff.mp hx).1
            refine ⟨x, y, rfl, (hEach i x y hx hy).same (s1.trans (s2.trans s3)), fun H' s4 => ⟨_, s4 _ _ (s3 _ _ hD), ?_, fun a o e => ?_, ?_⟩⟩
            · rw [List.length_replicate]
              exact lineLt_of (by omega)
            · rw [upd_ne (ne_of_none e nD)]
              exact s4 _ _ (s3 _ _ (s2 _ _ e))
            · rw [upd_same, List.replicate_succ']
          have fin : ∀ (D : Addr) (H2 : Hp), Same (upd H p (.tup [.ty "list", .ty "tuple"])) H2 → H2 D = some (.lst (List.replicate xs.length (V.bl true))) → ∃ (a : Addr) (bs : List Bool), [V.ref D] = [V.ref a] ∧ SqL K H2 a (bs.map V.bl) ∧ Q (.bl (bs.all id)) H2 := by
            intro D H2 s2 hD
            refine ⟨D, List.replicate xs.length true, rfl, SqL.of (by rw [hD, List.map_replicate]), ?_⟩
            rw [all_true]
            exact q _ (s1.trans s2)
          rcases hxy with ⟨ha, hb⟩ | ⟨ha, hb⟩
          · refine .inl ⟨SqL.of (s1 _ _ ha), SqL.of (s1 _ _ hb), fun D nD => ?_⟩
            refine lc_gen (n := xs.length) (fun i H2 => Same (upd H p (.tup [.ty "list", .ty "tuple"])) H2 ∧ H2 D = some (.lst (List.replicate i (V.bl true)))) ⟨same_upd nD, upd_same⟩ ?_ ?_ ?_ ?_
            · rintro i H2 hi ⟨s2, hD⟩
              exact ⟨xs, ys, _, _, SqL.of (s2 _ _ (s1 _ _ ha)), SqL.of (s2 _ _ (s1 _ _ hb)), List.getElem?_eq_getElem hi, List.getElem?_eq_getElem (by omega)⟩
            · rintro H2 ⟨s2, hD⟩
              exact ⟨xs, ys, SqL.of (s2 _ _ (s1 _ _ ha)), SqL.of (s2 _ _ (s1 _ _ hb)), .inl (Nat.le_refl _)⟩
            · rintro i v H2 H3 hi ⟨s2, hD⟩ ⟨T, x, y, rfl, nT, rfl, f1, f2⟩
              refine ⟨T, [x, y], rfl, .inl (.inl upd_same), rfl, x, [y], rfl, y, [], rfl, rfl, rfl, ?_⟩
              refine yes_if ?_
              exact ⟨_, rfl, _, rfl, turn i x y D T H2 nD (f1 xs (SqL.of (s2 _ _ (s1 _ _ ha)))) (f2 ys (SqL.of (s2 _ _ (s1 _ _ hb)))) s2 hD nT⟩
            · rintro H2 ⟨s2, hD⟩
              exact fin D H2 s2 hD
          · refine .inr ⟨SqT.of (s1 _ _ ha), SqT.of (s1 _ _ hb), fun D nD => ?_⟩
            refine lc_gen (n := xs.length) (fun i H2 => Same (upd H p (.tup [.ty "list", .ty "tuple"])) H2 ∧ H2 D = some (.lst (List.replicate i (V.bl true)))) ⟨same_upd nD, upd_same⟩ ?_ ?_ ?_ ?_
            · rintro i H2 hi ⟨s2, hD⟩
              exact ⟨xs, ys, _, _, SqT.of (s2 _ _ (s1 _ _ ha)), SqT.of (s2 _ _ (s1 _ _ hb)), List.getElem?_eq_getElem hi, List.getElem?_eq_getElem (by omega)⟩
            · rintro H2 ⟨s2, hD⟩
              exact ⟨xs, ys, SqT.of (s2 _ _ (s1 _ _ ha)), SqT.of (s2 _ _ (s1 _ _ hb)), .inl (Nat.le_refl _)⟩
            · rintro i v H2 H3 hi ⟨s2, hD⟩ ⟨T, x, y, rfl, nT, rfl, f1, f2⟩
              refine ⟨T, [x, y], rfl, .inl (.inl upd_same), rfl, x, [y], rfl, y, [], rfl, rfl, rfl, ?_⟩
              refine yes_if ?_
              exact ⟨_, rfl, _, rfl, turn i x y D T H2 nD (f1 xs (SqT.of (s2 _ _ (s1 _ _ ha)))) (f2 ys (SqT.of (s2 _ _ (s1 _ _ hb)))) s2 hD nT⟩
            · rintro H2 ⟨s2, hD⟩
              exact fin D H2 s2 hD
end
end Sf
namespace Sf
open PySem PySem.Spec PyProof.Rows L2 TL
section
variable {P : Program} {w : World} {K : PySem.W.Frag} {mg : Str → Option Value} {base : Heap}
/-! ### is_word -/
def isW (x : Str) : Bool := decide (x.length ≤ 60) && (tl x).all sgn
def spIsWord : Sp := fun vs H Q _ => ∃ x : Str, vs = [.str x] ∧ x.length ≤ 100000 ∧ ∀ H', Same H H' → Q (.bl (isW x)) H'
abbrev HasIsWord (P : Program) (w : World) (K : PySem.W.Frag) (mg : Str → Option Value) (base : Heap) : Prop := Has P w K mg base 1 "is_word" ["text"] spIsWord
theorem sc_isword : FnScope ["text", "sign"] ["text"] (defScope s_is_word) := ⟨rfl, rfl, rfl, by decide +kernel, rfl, by decide +kernel, by decide +kernel⟩
theorem dec_signs {c : Nat} : decide (c ∈ (Str.ofString "aAbBcCdDeEfFgGhH").cps.toList) = sgn c := by
  rw [Bool.eq_iff_iff, decide_eq_true_eq]
  exact in_signs
theorem getElem?_of_cps {x : Str} {i c : Nat} (h : x.cps[i]? = some c) : (tl x)[i]? = some c := by
  rw [← h]
  exact Array.getElem?_toList
theorem has_isword (F : FnAt K mg "is_word" s_is_word ["text"]) (B : Blt mg) {t1 t2 : Tok} (mM : mg "MOST_WORD" = some (.int 60 t1)) (mS : mg "SIGNS" = some (.str (Str.ofString "aAbBcCdDeEfFgGhH") t2)) : HasIsWord P w K mg base := F.has fun F => by
  refine F.ok sc_isword (fun vs H Q E h => ?_) (fun cdv A outer s H vs Q E hr h => ?_)
  · obtain ⟨x, rfl, _⟩ := h
    rfl
  · obtain ⟨x, rfl, hlen, q⟩ := h
    have hz : x.cps.size = (tl x).length := len_tl x
    refine ⟨_, pss_one (ps_ret (pe_and (pe_cmpR op_le (pe_callB call_len_str (by rfl) B.len PySem.boot_len (pa_cons (pv 0) pa_nil)) (pe_glob (v := .int 60) (by rfl) mM ⟨_, rfl⟩) (nomark _))
      (pe_one (pe_callB (cr_all rfl) (by rfl) B.all (by decide +kernel) (pa_cons (pe_lc (own := [("sign", 1)]) (g := gName 1) (tt := tYes) (by rfl) sc_isword.nd (pi_str (pv 0))
        (blkOk_by (own := [("sign", 1)]) (N := ["text", "sign"]) (sc := defScope s_is_word) (by decide +kernel)) (fun _ _ _ _ _ => pg_name (i := 1) sc_isword.nd rfl (.inl rfl)) (fun _ _ _ _ _ => pts_nil)
        (fun _ _ _ _ _ => pe_cmpR op_in_sign (pv 1) (pe_glob (v := .str (Str.ofString "aAbBcCdDeEfFgGhH")) (by rfl) mS ⟨_, rfl⟩) rfl)) pa_nil))))), ?_⟩
    refine ⟨_, rfl, x, rfl, line_of hlen, _, 60, rfl, rfl, _, rfl, ite2 (fun e => ?_) (fun e => ?_)⟩
    · refine ⟨_, rfl, x, rfl, fun D nD => ?_⟩
      refine lc_gen (n := x.cps.size) (fun i H2 => Same H H2 ∧ H2 D = some (.lst (((tl x).take i).map fun c => V.bl (sgn c)))) ⟨same_upd nD, upd_same⟩ ?_ ?_ ?_ ?_
      · rintro i H2 hi ⟨s2, hD⟩
        exact hi
      · rintro H2 ⟨s2, hD⟩
        exact Nat.le_refl _
      · rintro i v H2 H3 hi ⟨s2, hD⟩ ⟨rfl, c, hc, rfl⟩
        refine ⟨rfl, yes_if ?_⟩
        refine ⟨_, rfl, c, _, rfl, rfl, _, hD, ?_, fun a o e => ?_, ?_⟩
        · rw [List.length_map, List.length_take]
          exact lineLt_of (Nat.le_trans (Nat.min_le_right _ _) (by rw [← hz]; exact hlen))
        · rw [upd_ne (ne_of_none e nD)]
          exact s2 _ _ e
        · have ed : decide (c ∈ (Str.ofString "aAbBcCdDeEfFgGhH").cps.toList) = sgn c := dec_signs
          rw [upd_same, List.take_add_one, getElem?_of_cps hc, List.map_append, ed]
          rfl
      · rintro H2 ⟨s2, hD⟩
        refine ⟨D, (tl x).map sgn, rfl, SqL.of ?_, ?_⟩
        · rw [hD, List.take_of_length_le (by rw [hz]; exact Nat.le_refl _), List.map_map]
          rfl
        · have h1 := q H2 s2
          have e1 : decide (x.length ≤ 60) = true := decide_eq_true (by have := of_decide_eq_true e; omega)
          have e2 : ((tl x).map sgn).all id = (tl x).all sgn := by
            rw [List.all_map]
            rfl
          rw [e2]
          unfold isW at h1
          rw [e1, Bool.true_and] at h1
          exact h1
    · have h1 := q H (.refl H)
      have e1 : decide (x.length ≤ 60) = false := decide_eq_false (fun z => e (decide_eq_true (by omega)))
      unfold isW at h1
      rw [e1, Bool.false_and] at h1
      exact h1
theorem isW_true {x : Str} (h : Wd x) (hl : x.length ≤ 60) : isW x = true := by
  unfold isW
  rw [decide_eq_true hl, Bool.true_and, List.all_eq_true]
  exact h
end
end Sf
namespace Sf
open PySem PySem.Spec PyProof.Rows L2 TL
section
variable {X : Cx}
/-! ### text * int -/
theorem op_mul_str : OpR X (binaryOp .Mult) (fun x y H Q => ∃ (a : Str) (n : Int), x = .str a ∧ y = .int n ∧ 0 ≤ n ∧ n ≤ 1000 ∧ a.length ≤ 1000 ∧ Q (.str (Txt.mul a n)) H) := by
  intro pins s σ H x y v u Q I rx ry h
  obtain ⟨a, n, rfl, rfl, h0, h1, h2, q⟩ := h
  obtain ⟨t, rfl⟩ := rx
  obtain ⟨t', rfl⟩ := ry
  refine PySem.SB.mul ⟨?_, fun hn _ => ?_, fun _ _ => ?_⟩ fun t' k => ⟨.str _, H, I.tok k, ⟨t', rfl⟩, q⟩
  · rw [decide_eq_false (by omega), decide_eq_false (by omega)]
    rfl
  · have h3 : (2 ^ 63 - 1) / n ≥ 9223372036854775807 / 1000 := by
      show (9223372036854775807 : Int) / 1000 ≤ (2 ^ 63 - 1) / n
      have e : (2 ^ 63 - 1 : Int) = 9223372036854775807 := by decide
      rw [e]
      refine (Int.le_ediv_iff_mul_le (by omega)).mpr ?_
      have : (9223372036854775807 : Int) / 1000 * n ≤ (9223372036854775807 : Int) / 1000 * 1000 := Int.mul_le_mul_of_nonneg_left h1 (by decide)
      have e2 : (9223372036854775807 : Int) / 1000 * 1000 ≤ 9223372036854775807 := by decide
      omega
    have e3 : (9223372036854775807 : Int) / 1000 = 9223372036854775 := by decide
    omega
  · refine PyProof.Rows.short24 ?_
    have h5 : n.toNat ≤ 1000 := by omega
    exact Nat.le_trans (Nat.mul_le_mul h2 h5) (by decide)
theorem mul_len {a : Str} {n : Int} (h : 0 ≤ n) : (Txt.mul a n).length = a.length * n.toNat := by
  obtain ⟨m, rfl⟩ : ∃ m : Nat, n = (m : Int) := ⟨n.toNat, by omega⟩
  have h1 := PyProof.Rows.len_mul a (m : Int)
  rw [decide_eq_false (by omega)] at h1
  have e : (if false = true then (0 : Int) else (m : Int)) = (m : Int) := rfl
  rw [e, ← Int.natCast_mul] at h1
  rw [Int.toNat_natCast]
  exact Int.ofNat.inj h1
theorem foldl_app (a : Array Nat) : ∀ (k : Nat) (acc : Array Nat) (c : Nat), c ∈ ((List.replicate k a).foldl (· ++ ·) acc).toList → c ∈ acc.toList ∨ c ∈ a.toList
  | 0, acc, c, h => .inl h
  | k + 1, acc, c, h => by
    rw [List.replicate_succ, List.foldl_cons] at h
    rcases foldl_app a k (acc ++ a) c h with h | h
    · rw [Array.toList_append, List.mem_append] at h
      exact h
    · exact .inr h
theorem mul_mem {a : Str} {n : Int} {c : Nat} (h : c ∈ tl (Txt.mul a n)) : c ∈ tl a := by
  unfold Txt.mul at h
  split at h
  · cases h
  · split at h
    · exact h
    · rcases foldl_app a.cps n.toNat #[] c h with h | h
      · cases h
      · exact h
theorem Wd.mul {a : Str} {n : Int} (h : Wd a) : Wd (Txt.mul a n) := fun c hc => h c (mul_mem hc)
theorem tl_cut (z : Str) (lo hi : Option Int) : tl (cutS z lo hi) = ((tl z).drop (HT.sIx z.length 0 lo)).take (HT.sIx z.length z.length hi - HT.sIx z.length 0 lo) := by
  unfold cutS
  rfl
theorem Wd.cut {z : Str} {lo hi : Option Int} (h : Wd z) : Wd (cutS z lo hi) := fun c hc => by
  rw [tl_cut] at hc
  exact h c (List.mem_of_mem_drop (List.mem_of_mem_take hc))
end
end Sf
namespace Sf
open PySem PySem.Spec PyProof.Rows L2 TL
section
variable {X : Cx}
/-! ### text[::-1] -/
def revS (z : Str) : Str := ⟨(tl z).reverse.toArray⟩
theorem tl_revS (z : Str) : tl (revS z) = (tl z).reverse := rfl
theorem rev_picked (z : Str) : ((Builtin.Str.strSliceIndices none none (-1) z.length).filterMap (z.cps[·]?)) = (tl z).reverse := by
  rw [picked_rev]
  apply List.ext_getElem?
  intro i
  have hz : z.length = (tl z).length := len_tl z
  rw [PyProof.Rows.filterMap_get _ _ (fun k hk => by
    obtain ⟨j, hj, rfl⟩ := List.mem_map.mp hk
    have := List.mem_range.mp hj
    show z.length - 1 - j < z.length
    omega), List.map_map]
  by_cases h : i < z.length
  · rw [List.getElem?_reverse (by omega), List.getElem?_map, List.getElem?_range h]
    show some (z.cps.getD (z.length - 1 - i) 0) = _
    have h2 : z.length - 1 - i < z.cps.size := by show z.length - 1 - i < z.length; omega
    rw [← hz, Array.getElem?_toList]
    simp [Array.getD, h2]
  · rw [List.getElem?_eq_none (by rw [List.length_map, List.length_range]; omega), List.getElem?_eq_none (by rw [List.length_reverse, ← hz]; omega)]
def tRevS (te : TE) : TE := fun σ H Q => te σ H fun x H1 => ∃ z, x = .str z ∧ z.length ≤ sizeLine ∧ Q (.str (revS z)) H1
theorem pe_revS {e : Expr} {te : TE} {k : Nat} {p1 p2 p3 pos : Pos} (he : PE X e te) : PE X (.Subscript e (.Slice none none (some (.UnaryOp .USub (.Constant (.int 1) k p1) p2)) p3) pos) (tRevS te) := by
  refine ⟨fun pins s σ H Q I h => ?_⟩
  refine Subscript_ (thn (he.run pins s σ H _ I h) fun v s1 ⟨x, H1, I1, r1, q1⟩ => ?_)
  obtain ⟨z, ex, hz, q⟩ := q1
  subst ex
  obtain ⟨tz, rfl⟩ := r1
  have hst : PO X (some (.UnaryOp .USub (.Constant (.int 1) k p1) p2)) (tPart (tUn (rU fun i => .int (-i)) (tC (.int 1)))) := po_some (pe_un un_neg pe_int)
  refine wpAny_Slice (thn (po_none.run pins s1 σ H1 (fun o H2 => o = none ∧ H2 = H1) I1 ⟨rfl, rfl⟩) fun vl s2 ⟨l, H2, I2, pl, el, e2⟩ => ?_)
  subst el e2
  refine thn (po_none.run pins s2 σ H2 (fun o H3 => o = none ∧ H3 = H2) I2 ⟨rfl, rfl⟩) fun vu s3 ⟨u, H3, I3, pu, eu, e3⟩ => ?_
  subst eu e3
  refine thn (hst.run pins s3 σ H3 (fun o H4 => o = some (-1) ∧ H4 = H3) I3 ⟨1, rfl, -1, rfl, rfl, rfl⟩) fun vs s4 ⟨o, H4, I4, ps, eo, e4⟩ => ?_
  subst eo e4
  cases pl
  cases pu
  cases ps with
  | int _ ts =>
  have I5 : Inv X pins σ H4 { s4 with heap := s4.heap.push { cls := .type "slice", data := .fields #[.none, .none, .int (-1) ts] } } := I4.kept (t' := s4.toks) fun b ob q => Heap.get?_push_of_some _ q
  show wpAny (model X.prog X.w) X.A (subscriptTail e (.Slice none none (some (.UnaryOp .USub (.Constant (.int 1) k p1) p2)) p3) (.str z tz) (.ref s4.heap.objs.size)) (EP X pins σ Q) X.xe { s4 with heap := s4.heap.push { cls := .type "slice", data := .fields #[.none, .none, .int (-1) ts] } }
  refine tail_any (ops := [.str z tz, .ref s4.heap.objs.size]) (typeIs_str _ _ _) (PySem.F.slot_str_getitem.lookup) ?_ (by with_unfolding_all rfl)
  refine wpAny_getItem_str_slice (l := none) (u := none) (st := some (-1, ts)) ⟨_, Heap.get?_push_size _ rfl, rfl, rfl⟩ rfl ?_
  have e1 : sliceMade z tz none none (some (-1, ts)) = Made.str (revS z) := by
    unfold sliceMade slicePicked
    have h1 : ¬ (((((some ((-1 : Int), ts)).map (·.1)).getD 1 == 1) && ((Builtin.Str.strSliceIndices ((none : Option (Int × Tok)).map (·.1)) ((none : Option (Int × Tok)).map (·.1)) (((some ((-1 : Int), ts)).map (·.1)).getD 1) z.length).length == z.length)) = true) := by
      have : ((((some ((-1 : Int), ts)).map (·.1)).getD 1 == 1)) = false := rfl
      rw [this]
      simp
    rw [if_neg h1]
    show Made.str ⟨((Builtin.Str.strSliceIndices none none (-1) z.length).filterMap (z.cps[·]?)).toArray⟩ = _
    rw [rev_picked]
    rfl
  rw [e1]
  refine ⟨?_, .str _, H4, I5.tok _, ⟨_, rfl⟩, q⟩
  rw [len_tl, tl_revS, List.length_reverse, ← len_tl]
  exact hz
/-! ### text.swapcase() -/
theorem mt_swapcase : MtR X "str.swapcase" (fun x xs H Q => ∃ a, x = .str a ∧ xs = [] ∧ a.length ≤ 5592405 ∧ Q (.str (Txt.swapcase a)) H) :=
  mt0 (C := fun a => a.length ≤ 5592405) (g := fun a => .str (Txt.swapcase a)) fun a _ s _ hc h =>
    PySem.SC.swapcase (PyProof.Rows.fit_swapcase hc) (h _ (s.toks + 1) ⟨_, rfl⟩)
theorem pe_swapcase {o : Expr} {to : TE} {apos pos : Pos} (ho : PE X o to) (hbase : attributeBase o "swapcase" X.env (eval o X.env) = eval o X.env := by rfl) (hline : (apos.endLine == pos.line) = true := by rfl) :
    PE X (.Call (.Attribute o "swapcase" apos) [] [] pos) (tM0 (fun x xs H Q => ∃ a, x = .str a ∧ xs = [] ∧ a.length ≤ 5592405 ∧ Q (.str (Txt.swapcase a)) H) to) :=
  pe_m0 PySem.F.slot_str_swapcase PySem.F.type_str_swapcase mt_swapcase ho hbase hline
theorem case_sgn : ∀ c, c < 128 → sgn c = true → (if Unicode.isUpper c then PyProof.Rows.lo1 c else if Unicode.isLower c then PyProof.Rows.up1 c else c) = flipC c := by decide +kernel
theorem sgn_lt {c : Nat} (h : sgn c = true) : c < 128 := by
  rw [sgn_iff] at h
  omega
def flipS (x : Str) : Str := ⟨((tl x).map flipC).toArray⟩
theorem swap_wd {x : Str} (h : Wd x) : Txt.swapcase x = flipS x := by
  unfold Txt.swapcase
  rw [PyProof.Rows.placed_single x _ flipC fun i c hc => by
    have hc' : x.cps[i]? = some c := by simpa using hc
    have hs := h c (List.mem_of_getElem? hc)
    have hlt := sgn_lt hs
    have hk := case_sgn c hlt hs
    unfold Unicode.lowerAt
    rw [hc']
    have hne : (c == 0x3A3) = false := by rw [beq_eq_false_iff_ne]; omega
    simp only [hne, Bool.false_and, Bool.false_eq_true, if_false]
    rw [PyProof.Rows.lowerOf_ascii c hlt, PyProof.Rows.upperOf_ascii c hlt, ← hk]
    by_cases h1 : Unicode.isUpper c = true
    · rw [if_pos h1, if_pos h1]
    · rw [if_neg h1, if_neg h1]
      by_cases h2 : Unicode.isLower c = true
      · rw [if_pos h2, if_pos h2]
      · rw [if_neg h2, if_neg h2]]
  apply ext_tl
  show (x.cps.map flipC).toList = (tl x).map flipC
  rw [Array.toList_map]
theorem flipS_one (c : Nat) : flipS (one c) = one (flipC c) := rfl
theorem tl_flipS (x : Str) : tl (flipS x) = (tl x).map flipC := rfl
theorem rev_wd {x : Str} (h : Wd x) : Wd (revS x) := fun c hc => h c (List.mem_reverse.mp hc)
theorem revS_len (x : Str) : (revS x).length = x.length := by rw [len_tl, tl_revS, List.length_reverse, ← len_tl]
end
end Sf
namespace Sf
open PySem PySem.Spec PyProof.Rows L2 TL
/-! ### words as lists of codes; the stack of a walk (its head is the last sign) -/
abbrev Sg (l : List Nat) : Prop := ∀ c ∈ l, sgn c = true
theorem flip2 {c : Nat} (h : sgn c = true) : flipC (flipC c) = c := by
  rw [sgn_iff] at h
  unfold flipC
  by_cases h1 : 97 ≤ c
  · rw [if_pos h1, if_neg (by omega)]
    omega
  · rw [if_neg h1, if_pos (by omega)]
    omega
theorem flip_inj {c d : Nat} (hc : sgn c = true) (hd : sgn d = true) (h : flipC c = flipC d) : c = d := by
  rw [← flip2 hc, ← flip2 hd, h]
def pushS (s : List Nat) (c : Nat) : List Nat :=
  match s with
  | [] => [c]
  | x :: t => if x = flipC c then t else c :: x :: t
def RedS : List Nat → Prop
  | [] => True
  | [_] => True
  | x :: y :: t => y ≠ flipC x ∧ RedS (y :: t)
theorem RedS.tail {x : Nat} {t : List Nat} (h : RedS (x :: t)) : RedS t := by
  cases t with
  | nil => trivial
  | cons y t => exact h.2
theorem RedS.suffix : ∀ {a b : List Nat}, RedS (a ++ b) → RedS b
  | [], _, h => h
  | _ :: a, _, h => RedS.suffix (a := a) (RedS.tail h)
theorem pushS_red {s : List Nat} {c : Nat} (h : RedS s) : RedS (pushS s c) := by
  cases s with
  | nil => trivial
  | cons x t =>
    unfold pushS
    by_cases e : x = flipC c
    · simp only [if_pos e]
      exact h.tail
    · simp only [if_neg e]
      exact ⟨e, h⟩
theorem pushS_sg {s : List Nat} {c : Nat} (h : Sg s) (hc : sgn c = true) : Sg (pushS s c) := by
  cases s with
  | nil =>
    intro d hd
    rw [pushS, List.mem_singleton] at hd
    rw [hd]
    exact hc
  | cons x t =>
    unfold pushS
    by_cases e : x = flipC c
    · simp only [if_pos e]
      exact fun d hd => h d (List.mem_cons_of_mem _ hd)
    · simp only [if_neg e]
      intro d hd
      rcases List.mem_cons.mp hd with rfl | hd
      · exact hc
      · exact h d hd
theorem pushS_inv {s : List Nat} {c : Nat} (h : RedS s) (hs : Sg s) (hc : sgn c = true) : pushS (pushS s c) (flipC c) = s := by
  cases s with
  | nil =>
    show (if c = flipC (flipC c) then [] else _) = ([] : List Nat)
    rw [if_pos (flip2 hc).symm]
  | cons x t =>
    by_cases e : x = flipC c
    · have e1 : pushS (x :: t) c = t := by simp only [pushS, if_pos e]
      rw [e1, e]
      cases t with
      | nil => rfl
      | cons y t =>
        have hn : ¬ y = flipC (flipC c) := by
          rw [← e]
          exact h.1
        simp only [pushS, if_neg hn]
    · have e1 : pushS (x :: t) c = c :: x :: t := by simp only [pushS, if_neg e]
      rw [e1]
      simp only [pushS, if_pos (flip2 hc).symm]
def runS (s w : List Nat) : List Nat := w.foldl pushS s
theorem runS_cons (s : List Nat) (c : Nat) (w : List Nat) : runS s (c :: w) = runS (pushS s c) w := rfl
theorem runS_app (s u v : List Nat) : runS s (u ++ v) = runS (runS s u) v := List.foldl_append
theorem runS_red : ∀ {w s : List Nat}, RedS s → RedS (runS s w)
  | [], _, h => h
  | _ :: w, _, h => runS_red (w := w) (pushS_red h)
theorem runS_sg : ∀ {w s : List Nat}, Sg s → Sg w → Sg (runS s w)
  | [], _, h, _ => h
  | c :: w, _, h, hw => runS_sg (w := w) (pushS_sg h (hw c (List.mem_cons_self ..))) (fun d hd => hw d (List.mem_cons_of_mem _ hd))
def backL (w : List Nat) : List Nat := (w.map flipC).reverse
theorem backL_cons (c : Nat) (w : List Nat) : backL (c :: w) = backL w ++ [flipC c] := by
  unfold backL
  rw [List.map_cons, List.reverse_cons]
theorem backL_app (u v : List Nat) : backL (u ++ v) = backL v ++ backL u := by
  unfold backL
  rw [List.map_append, List.reverse_append]
theorem backL_sg {w : List Nat} (h : Sg w) : Sg (backL w) := fun c hc => by
  unfold backL at hc
  rw [List.mem_reverse, List.mem_map] at hc
  obtain ⟨d, hd, rfl⟩ := hc
  exact flip_sgn (h d hd)
theorem backL_back {w : List Nat} (h : Sg w) : backL (backL w) = w := by
  unfold backL
  rw [List.map_reverse, List.reverse_reverse, List.map_map]
  have e : w.map (flipC ∘ flipC) = w.map id := List.map_congr_left fun c hc => flip2 (h c hc)
  rw [e, List.map_id]
theorem run_back : ∀ {w s : List Nat}, RedS s → Sg s → Sg w → runS (runS s w) (backL w) = s
  | [], _, _, _, _ => rfl
  | c :: w, s, h, hs, hw => by
    have hc := hw c (List.mem_cons_self ..)
    rw [runS_cons, backL_cons, runS_app, run_back (w := w) (pushS_red h) (pushS_sg hs hc) (fun d hd => hw d (List.mem_cons_of_mem _ hd))]
    exact pushS_inv h hs hc
theorem pushS_of {s : List Nat} {c : Nat} (h : RedS (c :: s)) : pushS s c = c :: s := by
  cases s with
  | nil => rfl
  | cons x t => simp only [pushS, if_neg h.1]
theorem run_of_red : ∀ {w s : List Nat}, RedS (w.reverse ++ s) → runS s w = w.reverse ++ s
  | [], _, _ => rfl
  | c :: w, s, h => by
    rw [List.reverse_cons, List.append_assoc] at h ⊢
    rw [runS_cons, pushS_of (s := s) (RedS.suffix (b := c :: s) h)]
    exact run_of_red h
/-- a word reduced, as a list from its first sign -/
def shortL (w : List Nat) : List Nat := (runS [] w).reverse
theorem shortL_sg {w : List Nat} (h : Sg w) : Sg (shortL w) := fun c hc => runS_sg (s := []) (fun _ z => by cases z) h c (List.mem_reverse.mp hc)
def push (l : List Nat) (c : Nat) : List Nat := (pushS l.reverse c).reverse
theorem shortL_snoc (w : List Nat) (c : Nat) : shortL (w ++ [c]) = push (shortL w) c := by
  unfold shortL push
  rw [runS_app, List.reverse_reverse]
  rfl
theorem push_last {l : List Nat} {c : Nat} (x : Nat) : push (l ++ [x]) c = if x = flipC c then l else l ++ [x] ++ [c] := by
  unfold push
  rw [List.reverse_append]
  show (if x = flipC c then l.reverse else c :: x :: l.reverse).reverse = _
  by_cases e : x = flipC c
  · rw [if_pos e, if_pos e, List.reverse_reverse]
  · rw [if_neg e, if_neg e]
    simp
theorem push_nil (c : Nat) : push [] c = [c] := rfl
/-- two words put together where they meet -/
def glS : List Nat → List Nat → List Nat
  | x :: s, y :: b => if x = flipC y then glS s b else (y :: b).reverse ++ (x :: s)
  | [], b => b.reverse
  | x :: s, [] => x :: s
theorem RedS.join : ∀ {a : List Nat} {y : Nat} {s : List Nat}, RedS (a ++ [y]) → RedS (y :: s) → RedS (a ++ y :: s)
  | [], _, _, _, h => h
  | [x], y, s, h, k => ⟨h.1, k⟩
  | x :: z :: a, y, s, h, k => ⟨h.1, RedS.join (a := z :: a) h.2 k⟩
theorem glS_run : ∀ {b s : List Nat}, RedS b.reverse → RedS s → glS s b = runS s b
  | [], [], _, _ => rfl
  | [], _ :: _, _, _ => rfl
  | y :: b, [], h, _ => by
    have e := run_of_red (w := y :: b) (s := []) (by rw [List.append_nil]; exact h)
    rw [List.append_nil] at e
    exact e.symm
  | y :: b, x :: s, h, k => by
    rw [List.reverse_cons] at h
    by_cases e : x = flipC y
    · have e1 : pushS (x :: s) y = s := by simp only [pushS, if_pos e]
      rw [glS, if_pos e, runS_cons, e1]
      refine glS_run ?_ k.tail
      exact RedS.prefix h
    · have e1 : pushS (x :: s) y = y :: x :: s := by simp only [pushS, if_neg e]
      rw [glS, if_neg e, runS_cons, e1, List.reverse_cons, List.append_assoc]
      exact (run_of_red (RedS.join h (show RedS (y :: x :: s) from ⟨e, k⟩))).symm
where
  RedS.prefix : ∀ {a b : List Nat}, RedS (a ++ b) → RedS a
  | [], _, _ => trivial
  | [_], _, _ => trivial
  | _ :: y :: a, _, h => ⟨h.1, RedS.prefix (a := y :: a) h.2⟩
end Sf
namespace Sf
open PySem PySem.Spec PyProof.Rows L2 TL
/-! ### texts of words -/
def mkS (l : List Nat) : Str := ⟨l.toArray⟩
theorem tl_mkS (l : List Nat) : tl (mkS l) = l := rfl
theorem mkS_tl (x : Str) : mkS (tl x) = x := mk_tl x
theorem mkS_len (l : List Nat) : (mkS l).length = l.length := by rw [len_tl, tl_mkS]
theorem eq_mkS {x : Str} {l : List Nat} (h : tl x = l) : x = mkS l := ext_tl h
/-- a word undone, reduced, glued, as texts -/
def backT (x : Str) : Str := mkS (backL (tl x))
def shortT (x : Str) : Str := mkS (shortL (tl x))
def gluT (x y : Str) : Str := mkS (glS (tl x).reverse (tl y)).reverse
theorem glS_sg : ∀ {s b : List Nat}, Sg s → Sg b → Sg (glS s b)
  | x :: s, y :: b, hs, hb => by
    unfold glS
    by_cases e : x = flipC y
    · rw [if_pos e]
      exact glS_sg (fun c hc => hs c (List.mem_cons_of_mem _ hc)) (fun c hc => hb c (List.mem_cons_of_mem _ hc))
    · rw [if_neg e]
      intro c hc
      rcases List.mem_append.mp hc with hc | hc
      · exact hb c (List.mem_reverse.mp hc)
      · exact hs c hc
  | [], b, _, hb => fun c hc => hb c (List.mem_reverse.mp (by unfold glS at hc; exact hc))
  | x :: s, [], hs, _ => hs
theorem glS_len : ∀ {s b : List Nat}, (glS s b).length ≤ s.length + b.length
  | x :: s, y :: b => by
    unfold glS
    by_cases e : x = flipC y
    · rw [if_pos e]
      have := glS_len (s := s) (b := b)
      simp only [List.length_cons]
      omega
    · rw [if_neg e]
      simp only [List.length_append, List.length_reverse, List.length_cons]
      omega
  | [], b => by
    unfold glS
    simp
  | x :: s, [] => by
    unfold glS
    simp
theorem gluT_wd {x y : Str} (hx : Wd x) (hy : Wd y) : Wd (gluT x y) := fun c hc => by
  unfold gluT at hc
  rw [tl_mkS, List.mem_reverse] at hc
  exact glS_sg (fun d hd => hx d (List.mem_reverse.mp hd)) hy c hc
theorem gluT_len (x y : Str) : (gluT x y).length ≤ x.length + y.length := by
  unfold gluT
  rw [mkS_len, List.length_reverse, len_tl, len_tl]
  have := glS_len (s := (tl x).reverse) (b := tl y)
  rw [List.length_reverse] at this
  exact this
theorem backT_wd {x : Str} (h : Wd x) : Wd (backT x) := fun c hc => backL_sg h c hc
theorem backT_len (x : Str) : (backT x).length = x.length := by
  unfold backT backL
  rw [mkS_len, List.length_reverse, List.length_map, len_tl]
theorem backT_back {x : Str} (h : Wd x) : backT (backT x) = x := by
  unfold backT
  rw [tl_mkS, backL_back h, mkS_tl]
theorem runS_len : ∀ (w s : List Nat), (runS s w).length ≤ s.length + w.length
  | [], s => by simp [runS]
  | c :: w, s => by
    have h := runS_len w (pushS s c)
    rw [runS_cons]
    have h2 : (pushS s c).length ≤ s.length + 1 := by
      cases s with
      | nil => simp [pushS]
      | cons x t =>
        unfold pushS
        by_cases e : x = flipC c
        · simp only [if_pos e, List.length_cons]
          omega
        · simp only [if_neg e, List.length_cons]
          omega
    simp only [List.length_cons]
    omega
theorem shortL_len (w : List Nat) : (shortL w).length ≤ w.length := by
  unfold shortL
  rw [List.length_reverse]
  have := runS_len w []
  simpa using this
theorem glu_one {l : List Nat} {c : Nat} : (glS l.reverse [c]).reverse = push l c := by
  unfold push
  cases h : l.reverse with
  | nil => rfl
  | cons x t =>
    unfold glS pushS
    by_cases e : x = flipC c
    · simp only [if_pos e]
      cases t <;> rfl
    · simp only [if_neg e]
      rfl
end Sf
namespace Sf
open PySem PySem.Spec PyProof.Rows L2 TL
section
variable {P : Program} {w : World} {K : PySem.W.Frag} {mg : Str → Option Value} {base : Heap}
/-! ### need_word, turned, undone -/
def spNeed : Sp := fun vs H Q _ => ∃ x : Str, vs = [.str x] ∧ Wd x ∧ x.length ≤ 60 ∧ ∀ H', Same H H' → Q .non H'
abbrev HasNeed (P : Program) (w : World) (K : PySem.W.Frag) (mg : Str → Option Value) (base : Heap) : Prop := Has P w K mg base 2 "need_word" ["text"] spNeed
theorem sc_need : FnScope ["text"] ["text"] (defScope s_need_word) := ⟨rfl, rfl, rfl, by decide +kernel, rfl, by decide +kernel, by decide +kernel⟩
theorem has_need (F : FnAt K mg "need_word" s_need_word ["text"]) (hI : HasIsWord P w K mg base) : HasNeed P w K mg base := F.has fun F => by
  obtain ⟨fI, fdI, gI, kI, bI, GI⟩ := hI
  refine F.ok sc_need (fun vs H Q E h => ?_) (fun cdv A outer s H vs Q E hr h => ?_)
  · obtain ⟨x, rfl, _⟩ := h
    rfl
  · obtain ⟨x, rfl, hx, hl, q⟩ := h
    refine ⟨_, pss_one (ps_if (pt_not (pt_val (pe_call GI hr (by rfl) gI kI bI .nil pass0 (pa_cons (pv 0) pa_nil)))) pss_never pss_nil), ?_⟩
    refine ⟨_, rfl, x, rfl, by omega, fun H' s' => ⟨_, rfl, ?_⟩⟩
    rw [isW_true hx hl]
    exact iteF (q H' s')
end
end Sf
namespace Sf
open PySem PySem.Spec PyProof.Rows L2 TL
section
variable {P : Program} {w : World} {K : PySem.W.Frag} {mg : Str → Option Value} {base : Heap}
def spTurned : Sp := fun vs H Q _ => ∃ x : Str, vs = [.str x] ∧ Wd x ∧ x.length ≤ 100000 ∧ Q (.str (backT x)) H
abbrev HasTurned (P : Program) (w : World) (K : PySem.W.Frag) (mg : Str → Option Value) (base : Heap) : Prop := Has P w K mg base 1 "turned" ["word"] spTurned
theorem sc_turned : FnScope ["word"] ["word"] (defScope s_turned) := ⟨rfl, rfl, rfl, by decide +kernel, rfl, by decide +kernel, by decide +kernel⟩
theorem has_turned (F : FnAt K mg "turned" s_turned ["word"]) : HasTurned P w K mg base := F.has fun F => by
  refine F.ok sc_turned (fun vs H Q E h => ?_) (fun cdv A outer s H vs Q E hr h => ?_)
  · obtain ⟨x, rfl, _⟩ := h
    rfl
  · obtain ⟨x, rfl, hx, hl, q⟩ := h
    refine ⟨_, pss_one (ps_ret (pe_swapcase (pe_revS (pv 0)))), ?_⟩
    refine ⟨_, rfl, x, rfl, line_of hl, ⟨_, rfl⟩, _, rfl, rfl, by rw [revS_len]; omega, ?_⟩
    have e : Txt.swapcase (revS x) = backT x := by
      rw [swap_wd (rev_wd hx)]
      refine eq_mkS ?_
      rw [tl_flipS, tl_revS, List.map_reverse]
      rfl
    rw [e]
    exact q
end
end Sf
namespace Sf
open PySem PySem.Spec PyProof.Rows L2 TL
/-! ### lists of texts, joined -/
theorem joinL_nil : ∀ ps : List (List Nat), joinL [] ps = ps.flatten
  | [] => rfl
  | [p] => by simp [joinL]
  | p :: q :: r => by
    show p ++ ([] ++ joinL [] (q :: r)) = _
    rw [joinL_nil (q :: r), List.nil_append]
    rfl
theorem tl_empty : tl (Str.ofString "") = [] := by decide +kernel
theorem join_tl (ys : List Str) : Txt.join (Str.ofString "") ys = mkS (ys.map tl).flatten := by
  refine eq_mkS ?_
  rw [join_eq, tl_join, tl_empty, joinL_nil]
theorem join_ones (l : List Nat) : Txt.join (Str.ofString "") (l.map one) = mkS l := by
  rw [join_tl, List.map_map]
  congr 1
  induction l with
  | nil => rfl
  | cons c l ih =>
    rw [List.map_cons, List.flatten_cons, ih]
    rfl
theorem len_empty : (Str.ofString "").length = 0 := by decide +kernel
theorem ones_sum (l : List Nat) : ((l.map one).map (·.length)).sum = l.length := by
  induction l with
  | nil => rfl
  | cons c l ih =>
    rw [List.map_cons, List.map_cons, List.sum_cons, ih, len_one, List.length_cons]
    omega
theorem join_fit {l : List Nat} (h : l.length ≤ 100000) : ((l.map one).map (·.length)).sum + (l.map one).length * (Str.ofString "").length ≤ 16777216 := by
  rw [ones_sum, len_empty]
  omega
/-- data of a list of single signs -/
def dOnes (l : List Nat) : PyData := .list (l.map fun c => .str (one c))
theorem dp_all {K : PySem.W.Frag} {H : Hp} : ∀ l : List Nat, DpAll K H (l.map fun c => V.str (one c)) (l.map fun c => .str (one c))
  | [] => .nil
  | _ :: l => .cons (.str _) (dp_all l)
theorem ones_lay : ∀ {l : List Nat}, Sg l → PyData.canLayAll0 (l.map fun c => .str (one c)) = true
  | [], _ => rfl
  | c :: l, h => by
    have hc := h c (List.mem_cons_self ..)
    have e : PyData.canLay0 (.str (one c)) = true := by
      rw [sgn_iff] at hc
      have : ∀ d, d < 128 → PyData.canLay0 (.str (one d)) = true := by decide +kernel
      exact this c (by omega)
    rw [List.map_cons, PyData.canLayAll0, e, ones_lay fun d hd => h d (List.mem_cons_of_mem _ hd)]
    rfl
theorem ones_depth : ∀ l : List Nat, PyData.depthAll (l.map fun c => .str (one c)) = 0
  | [] => rfl
  | _ :: l => by
    rw [List.map_cons, PyData.depthAll, ones_depth l]
    rfl
theorem ones_shaped {l : List Nat} (h : Sg l) : SeqAt.shaped (dOnes l) = true := by
  unfold SeqAt.shaped dOnes
  rw [PyData.canLay0, ones_lay h, Bool.true_and, PyData.depth, ones_depth]
  rfl
theorem ones_nil {l : List Nat} : PyData.eqv (dOnes l) (.list []) = l.isEmpty := by
  unfold dOnes
  cases l with
  | nil => simp [PyData.eqv, PyData.eqvAll]
  | cons c l => simp [PyData.eqv, PyData.eqvAll]
theorem Fx.toSame {L : Addr} {H H' : Hp} (f : Fx L H H') (n : H L = none) : Same H H' := fun b o e => f b o e (ne_of_none e n)
theorem glu_take {l : List Nat} {i c : Nat} (h : l[i]? = some c) : gluT (mkS (shortL (l.take i))) (one c) = mkS (shortL (l.take (i + 1))) := by
  unfold gluT
  rw [tl_mkS, tl_one, glu_one, ← shortL_snoc, List.take_add_one, h]
  rfl
end Sf
namespace Sf
open PySem PySem.Spec PyProof.Rows L2 TL
section
variable {P : Program} {w : World} {K : PySem.W.Frag} {mg : Str → Option Value} {base : Heap}
/-! ### _law_back, _law_short -/
def spBack : Sp := fun vs H Q _ => ∃ x : Str, vs = [.str x] ∧ Wd x ∧ x.length ≤ 50000 ∧ ∀ H', Same H H' → Q (.str (backT x)) H'
abbrev HasBack (P : Program) (w : World) (K : PySem.W.Frag) (mg : Str → Option Value) (base : Heap) : Prop := Has P w K mg base 2 "_law_back" ["_law_word_here"] spBack
def spShort : Sp := fun vs H Q _ => ∃ x : Str, vs = [.str x] ∧ Wd x ∧ x.length ≤ 50000 ∧ ∀ H', Same H H' → Q (.str (shortT x)) H'
abbrev HasShort (P : Program) (w : World) (K : PySem.W.Frag) (mg : Str → Option Value) (base : Heap) : Prop := Has P w K mg base 2 "_law_short" ["_law_word_here"] spShort
end
end Sf
namespace Sf
open PySem PySem.Spec PyProof.Rows L2 TL
section
variable {P : Program} {w : World} {K : PySem.W.Frag} {mg : Str → Option Value} {base : Heap}
theorem sc_back : FnScope ["_law_word_here", "_law_sign_here"] ["_law_word_here"] (defScope s__law_back) := ⟨rfl, rfl, rfl, by decide +kernel, rfl, by decide +kernel, by decide +kernel⟩
theorem has_back (F : FnAt K mg "_law_back" s__law_back ["_law_word_here"]) (hF : HasFlip P w K mg base) : HasBack P w K mg base := F.has fun F => by
  obtain ⟨fF, fdF, gF, kF, bF, GF⟩ := hF
  refine F.ok sc_back (fun vs H Q E h => ?_) (fun cdv A outer s H vs Q E hr h => ?_)
  · obtain ⟨x, rfl, _⟩ := h
    rfl
  · obtain ⟨x, rfl, hx, hl, q⟩ := h
    have hz : (revS x).cps.size = (tl (revS x)).length := len_tl (revS x)
    have hzl := revS_len x
    refine ⟨_, pss_one (ps_ret (pe_join pe_str (pe_lc (own := [("_law_sign_here", 1)]) (g := gName 1) (tt := tYes) (by rfl) sc_back.nd (pi_str (pe_revS (pv 0)))
      (blkOk_by (own := [("_law_sign_here", 1)]) (N := ["_law_word_here", "_law_sign_here"]) (sc := defScope s__law_back) (by decide +kernel)) (fun _ _ _ _ _ => pg_name (i := 1) sc_back.nd rfl (.inl rfl)) (fun _ _ _ _ _ => pts_nil)
      (fun _ _ _ _ _ => pe_call GF hr (by rfl) gF kF bF .nil pass0 (pa_cons (pv 1) pa_nil))))), ?_⟩
    refine ⟨⟨_, rfl⟩, _, rfl, x, rfl, line_of (by omega), revS x, rfl, fun D nD => ?_⟩
    refine lc_gen (n := (revS x).cps.size) (fun i H2 => Same H H2 ∧ H2 D = some (.lst (((tl (revS x)).take i).map fun c => V.str (one (flipC c))))) ⟨same_upd nD, upd_same⟩ (fun i H2 hi _ => hi) (fun H2 _ => Nat.le_refl _) ?_ ?_
    · rintro i v H2 H3 hi ⟨s2, hD⟩ ⟨rfl, c, hc, rfl⟩
      have hc' := getElem?_of_cps hc
      have hs := rev_wd hx c (List.mem_of_getElem? hc')
      refine ⟨rfl, yes_if ?_⟩
      refine ⟨_, rfl, c, rfl, hs, _, hD, ?_, fun a o e => ?_, ?_⟩
      · rw [List.length_map, List.length_take]
        have h3 : (revS x).length = (tl (revS x)).length := len_tl (revS x)
        exact lineLt_of (by omega)
      · rw [upd_ne (ne_of_none e nD)]
        exact s2 _ _ e
      · rw [upd_same, List.take_add_one, hc', List.map_append]
        rfl
    · rintro H2 ⟨s2, hD⟩
      have e1 : (tl (revS x)).take (revS x).cps.size = tl (revS x) := List.take_of_length_le (by rw [hz]; exact Nat.le_refl _)
      rw [e1] at hD
      have e2 : (backL (tl x)).map one = (tl (revS x)).map fun c => one (flipC c) := by
        rw [tl_revS]
        unfold backL
        rw [← List.map_reverse, List.map_map]
        rfl
      refine ⟨_, D, (backL (tl x)).map one, rfl, rfl, .inl (SqL.of ?_), join_fit ?_, ?_⟩
      · rw [hD, e2, List.map_map]
        rfl
      · unfold backL
        rw [List.length_reverse, List.length_map, ← len_tl]
        omega
      · rw [join_ones]
        exact q H2 s2
end
end Sf
namespace Sf
open PySem PySem.Spec PyProof.Rows L2 TL
def MAt (K : PySem.W.Frag) (C : Addr) (m q : Str) (st : Stmt) (ps : List Str) : Prop := ∃ (f : Addr) (fd : FuncData), Meth K C m f ∧ Fun K m q st f fd ∧ Binds K fd ps []
def HasM (P : Program) (w : World) (K : PySem.W.Frag) (mg : Str → Option Value) (base : Heap) (C : Addr) (k : Nat) (m : Str) (ps : List Str) (sp : Sp) : Prop :=
  ∃ (f : Addr) (fd : FuncData), Meth K C m f ∧ Binds K fd ps [] ∧ FnOk P w K mg base CX0 k f fd ps sp
theorem MAt.has {P : Program} {w : World} {K : PySem.W.Frag} {mg : Str → Option Value} {base : Heap} {C : Addr} {k : Nat} {m q : Str} {st : Stmt} {ps : List Str} {sp : Sp} (h : MAt K C m q st ps)
    (ok : ∀ {f : Addr} {fd : FuncData}, Fun K m q st f fd → FnOk P w K mg base CX0 k f fd ps sp) : HasM P w K mg base C k m ps sp := by
  obtain ⟨f, fd, g, F, b⟩ := h
  exact ⟨f, fd, g, b, ok F⟩
theorem mAt_mk {K : PySem.W.Frag} {C : Addr} {m q : Str} {st : Stmt} {ps : List Str} {f : Addr} {oc : Value} {od an : Option Addr} {osl : Array (Option Value)} {kV doc pm cdv ct : Value}
    (a : PySem.W.findIn K (.ref C) m = some (some (.ref f))) (i : PySem.W.isFn K (.ref f) = true) (l : K.lookup f = some ⟨oc, od, .func (PySem.W.fnOf m q (defArgs st) (defBody st) (defScope st) .none kV doc pm an cdv ct), osl⟩)
    (c : PySem.W.codeIn K cdv q = true) (k : PySem.W.keepIn K (.ref f) = true)
    (b : ∀ (kV doc pm : Value) (an : Option Addr) (cdv ct : Value) (us : List Value), us.length = ps.length → bindArgs (PySem.W.fnOf m q (defArgs st) (defBody st) (defScope st) .none kV doc pm an cdv ct) ⟨us, []⟩ = pure (ps.zip us)) : MAt K C m q st ps :=
  ⟨f, _, ⟨a, i, k⟩, fun_mk l c k, (fun_mk l c k).binds b⟩
theorem dc_gen {J : It} {n : Nat} {g : TG} {tt : TT} {tk tv : TE} {vs : List Nat} {σ : L2.St} {H1 : Hp} {D : Addr} {Qd : Hp → Prop} (Pv : Nat → Hp → Prop) (h0 : Pv 0 (upd H1 D (.dK [])))
    (hgo : ∀ i H, i < n → Pv i H → J.go i H) (hst : ∀ H, Pv n H → J.stop n H)
    (hs : ∀ i x H H', i < n → Pv i H → J.yld i H x H' → g x (wipe σ vs) H' fun σ2 H2 => wipe σ2 vs = wipe σ vs ∧ tt σ2 H2 fun b H3 =>
      if b = true then tk σ2 H3 fun y H4 => tv σ2 H4 fun z H5 => ∃ kvs k, y = kV k ∧ H5 D = some (.dK kvs) ∧ kvs.length < sizeLine ∧ Pv (i + 1) (upd H5 D (.dK (putK kvs k z))) else Pv (i + 1) H3) (hd : ∀ H, Pv n H → Qd H) :
    ∃ W : Nat → Nat → Hp → Prop, (∃ m, W 0 m (upd H1 D (.dK []))) ∧ ∀ i m H, W i m H →
      (J.stop i H ∧ Qd H) ∨ (J.go i H ∧ ∃ Nx : Hp → Prop, (∀ H', Nx H' → ∃ m', m' < m ∧ W (i + 1) m' H') ∧ ∀ x H', J.yld i H x H' → g x (wipe σ vs) H' fun σ2 H2 => wipe σ2 vs = wipe σ vs ∧ tt σ2 H2 fun b H3 =>
        if b = true then tk σ2 H3 fun y H4 => tv σ2 H4 fun z H5 => ∃ kvs k, y = kV k ∧ H5 D = some (.dK kvs) ∧ kvs.length < sizeLine ∧ Nx (upd H5 D (.dK (putK kvs k z))) else Nx H3) := by
  refine ⟨fun i m H => m = n - i ∧ i ≤ n ∧ Pv i H, ⟨n, rfl, Nat.zero_le _, h0⟩, ?_⟩
  rintro i m H ⟨rfl, hi, p⟩
  by_cases hlt : i < n
  · exact .inr ⟨hgo i H hlt p, Pv (i + 1), fun H' p' => ⟨n - (i + 1), by omega, rfl, hlt, p'⟩, fun x H' y => hs i x H H' hlt p y⟩
  · have e : i = n := by omega
    subst e
    exact .inl ⟨hst H p, hd H p⟩
theorem kit_self {K : PySem.W.Frag} {t : Value} : PySem.W.kitOne K t t = some true := by
  unfold PySem.W.kitOne
  rw [if_pos (beq_self_eq_true t)]
end Sf
namespace Sf
open PySem PySem.Spec PyProof.Rows L2 TL
section
variable {X : Cx}
/-! ### name = {k: v for ..} on one line, the name a local -/
theorem ps_setDc {i : Nat} {y : Str} {py : Pos} {kx vx tg iter : Expr} {ifs : List Expr} {scope : Scope} {own : List (Str × Nat)} {pos spos : Pos} {wi : TI} {g : TG} {tt : TT} {tk tv : TE} (hc : X.calm = true) (hN : X.N.Nodup) (hy : X.N[i]? = some y) (hyl : X.env.scope.names.lookup y = some .local)
    (hsw : swapsWith (.DictComp kx vx [⟨tg, iter, ifs, 0⟩] scope pos) (some (.Name y py)) spos.line X.env = pure true) (hi : PI X tg iter wi) (ok : BlkOk X.N X.env.scope scope own)
    (hg : ∀ (s : Shared) (H : Hp) (C : Addr) (cl : List (Str × Addr)) (fp : List Addr), PG (X.blk s H scope (compEnvC scope cl C X.env) fp) tg g) (ht : ∀ (s : Shared) (H : Hp) (C : Addr) (cl : List (Str × Addr)) (fp : List Addr), PTs (X.blk s H scope (compEnvC scope cl C X.env) fp) ifs tt)
    (hk : ∀ (s : Shared) (H : Hp) (C : Addr) (cl : List (Str × Addr)) (fp : List Addr), PE (X.blk s H scope (compEnvC scope cl C X.env) fp) kx tk)
    (he : ∀ (s : Shared) (H : Hp) (C : Addr) (cl : List (Str × Addr)) (fp : List Addr), PE (X.blk s H scope (compEnvC scope cl C X.env) fp) vx tv) (hs : ∀ x, foldedSetIterable iter X.env x = pure x := by intro _; rfl) :
    PS X (.Assign [.Name y py] (.DictComp kx vx [⟨tg, iter, ifs, 0⟩] scope pos) spos) (tAsg (tDc wi g tt tk tv (own.map (·.2))) (gName i)) := by
  refine ⟨fun pins s σ H D I h => ?_⟩
  rw [exec_Assign_Name_used _ _ _ _ hsw]
  refine wpAny_bind (wpAny_standAt (wpAny_bind ?_))
  show wpAny _ X.A (do let _ ← comprehension (.DictComp kx vx [⟨tg, iter, ifs, 0⟩] scope pos) scope X.env (firstIterPos [⟨tg, iter, ifs, 0⟩] pos) newDict false (eval iter X.env) (some (assign (.Name y py) X.env))) _ _ s
  have h : tDc wi g tt tk tv (own.map (·.2)) σ H (fun x H1 => gName i x σ H1 D.nx) := h
  refine wpAny_bind (thn (dc_core (Qf := fun _ s' => SP X pins D .next s') hc hN I hi ok hg ht hk he hs h fun L C s' m H' I' q hn f => ?_) fun _ s' hq => wpAny_pure (wpAny_pure hq))
  show wpAny _ _ (assign (.Name y py) X.env (.ref L)) _ _ _
  refine wpAny_assign_Name (store_ok2 (v := V.ref L) I' hN hy (.inl hyl) rfl (fun s2 I2 ⟨a, sb, ha⟩ => ?_) (.inr hyl))
  obtain ⟨f0, f1, f2, f3, f4, f5⟩ := f
  have haC : C ≠ a := by
    rcases ha with z | z
    · rw [z]; exact f1
    · exact fun e => f4 y a z e.symm
  refine ⟨m, hn.sameBut sb haC, fun h3 sb3 => ?_⟩
  exact ⟨_, H', I2.turned (t' := s2.toks) (fun b o hb e => (sb3.2 b hb).trans e) f0 f1 f3 f4 f5, q⟩
theorem swD_true {kx vx : Expr} {gs : List Comprehension} {scope : Scope} {pos py : Pos} {y : Str} {l : Nat} {env : Env} (hk : env.scope.kind = .function) (hy : env.scope.names.lookup y = some .local) (hl : (py.line == pos.line) = true)
    (ha : (scope.names.any fun (n, k) => n == y && (k == .local || k == .cell)) = false) : swapsWith (.DictComp kx vx gs scope pos) (some (.Name y py)) l env = pure true := by
  have ky : env.kindOf y = some .local := hy
  have hb : env.blockKind = .function := by unfold Env.blockKind; rw [hk]; rfl
  unfold swapsWith
  simp only [hb, ky, ha, Expr.pos, hl]
  rfl
end
end Sf
namespace Sf
open PySem PySem.Spec PyProof.Rows L2 TL
/-! ### the readings, step by step -/
theorem pe_gS {X : Cx} {x z : Str} {t : Tok} {pos : Pos} (hg : Gl X x) (hm : X.mg x = some (.str z t)) (hd : (x == ("__debug__" : Str)) = false := by decide) : PE X (.Name x pos) (tC (.str z)) := pe_glob (v := .str z) hg hm ⟨t, rfl⟩ hd
theorem pe_gI {X : Cx} {x : Str} {z : Int} {t : Tok} {pos : Pos} (hg : Gl X x) (hm : X.mg x = some (.int z t)) (hd : (x == ("__debug__" : Str)) = false := by decide) : PE X (.Name x pos) (tC (.int z)) := pe_glob (v := .int z) hg hm ⟨t, rfl⟩ hd
/-- a new object at p -/
structure Nw (p : Addr) (H H1 : Hp) : Prop where
  nn : H p = none
  off : ∀ a, a ≠ p → H1 a = H a
/-- all but what stands at p is as it was -/
def Of (p : Addr) (H H1 : Hp) : Prop := ∀ a, a ≠ p → H1 a = H a
theorem Nw.at {p a : Addr} {H H1 : Hp} {o : HO} (n : Nw p H H1) (h : H a = some o) : H1 a = some o := by
  rw [n.off a (ne_of_none h n.nn)]
  exact h
theorem Nw.same {p : Addr} {H H1 : Hp} (n : Nw p H H1) : Same H H1 := fun _ _ h => n.at h
theorem Nw.ne {p a : Addr} {H H1 : Hp} {o : HO} (n : Nw p H H1) (h : H a = some o) : a ≠ p := ne_of_none h n.nn
theorem _root_.L2.Same.at {a : Addr} {H H1 : Hp} {o : HO} (n : Same H H1) (h : H a = some o) : H1 a = some o := n _ _ h
theorem Of.at {p a : Addr} {H H1 : Hp} {o : HO} (n : Of p H H1) (ne : a ≠ p) (h : H a = some o) : H1 a = some o := by
  rw [n a ne]
  exact h
theorem Fx.at {b a : Addr} {H H1 : Hp} {o : HO} (n : Fx b H H1) (ne : a ≠ b) (h : H a = some o) : H1 a = some o := n _ _ h ne
theorem Nw.mk' {p : Addr} {H : Hp} {o : HO} (h : H p = none) : Nw p H (upd H p o) := ⟨h, fun _ n => upd_ne n⟩
theorem _root_.L2.Same.off {p : Addr} {H H1 H2 : Hp} (s : Same H H1) (o : Of p H1 H2) (n : H p = none) : Same H H2 := fun a u h => o.at (ne_of_none h n) (s _ _ h)
theorem _root_.L2.Same.nw {p : Addr} {H H1 H2 : Hp} (s : Same H H1) (o : Nw p H1 H2) : Same H H2 := s.trans o.same
theorem Of.mk' {p : Addr} {H : Hp} {o : HO} : Of p H (upd H p o) := fun _ n => upd_ne n
theorem Bag.nw {H H1 : Hp} {b l p : Addr} (h : Bag H b l) (n : Nw p H H1) : Bag H1 b l := h.same n.same
theorem Bag.off {H H1 : Hp} {b l p : Addr} (h : Bag H b l) (n1 : p ≠ b) (n2 : p ≠ l) (o : Of p H H1) : Bag H1 b l := by
  obtain ⟨ns, k, z, r, h⟩ := h
  exact ⟨ns, k, z, r, o.at n1.symm h.hb, o.at n2.symm h.hl, h.k0, h.z0, h.r0, h.r1⟩
theorem Fx.nw {b p : Addr} {H H1 H2 : Hp} (f : Fx b H H1) (n : Nw p H1 H2) : Fx b H H2 := f.same n.same
theorem Fx.off {b p : Addr} {H H1 H2 : Hp} (f : Fx b H H1) (o : Of p H1 H2) (n : H p = none) : Fx b H H2 := fun a u e hb => o.at (ne_of_none e n) (f a u e hb)
section
variable {σ : L2.St} {H : Hp} {Q : VK} {D : Ends} {K : PySem.W.Frag}
theorem w_var {i : Nat} {v : V} (h : σ[i]? = some (some v)) (q : Q v H) : tVar i σ H Q := ⟨v, h, q⟩
theorem w_c {v : V} (q : Q v H) : tC v σ H Q := q
theorem w_op {r : R2} {ta tb : TE} (q : ta σ H fun x H1 => tb σ H1 fun y H2 => r x y H2 Q) : tOp r ta tb σ H Q := q
theorem w_un {r : V → Hp → VK → Prop} {ta : TE} (q : ta σ H fun x H1 => r x H1 Q) : tUn r ta σ H Q := q
theorem w_i0 {g : Int → Int → V} {i j : Int} (q : Q (g i j) H) : rI0 g (.int i) (.int j) H Q := ⟨i, j, rfl, rfl, q⟩
theorem w_i {C : Int → Int → Prop} {g : Int → Int → V} {i j : Int} (c : C i j) (q : Q (g i j) H) : rI C g (.int i) (.int j) H Q := ⟨i, j, rfl, rfl, c, q⟩
theorem w_u {g : Int → V} {i : Int} (q : Q (g i) H) : rU g (.int i) H Q := ⟨i, rfl, q⟩
theorem dec_int (i j : Int) : decide (V.int i = V.int j) = decide (i = j) := by
  by_cases h : i = j
  · subst h; simp
  · rw [decide_eq_false h, decide_eq_false (fun e => h (V.int.inj e))]
theorem dec_str (i j : Str) : decide (V.str i = V.str j) = decide (i = j) := by
  by_cases h : i = j
  · subst h; simp
  · rw [decide_eq_false h, decide_eq_false (fun e => h (V.str.inj e))]
theorem dec_bl (i j : Bool) : decide (V.bl i = V.bl j) = decide (i = j) := by
  by_cases h : i = j
  · subst h; simp
  · rw [decide_eq_false h, decide_eq_false (fun e => h (V.bl.inj e))]
theorem w_eqI {i j : Int} (q : Q (.bl (decide (i = j))) H) : rEq (.int i) (.int j) H Q := ⟨rfl, by rw [dec_int]; exact q⟩
theorem w_neI {i j : Int} (q : Q (.bl (!decide (i = j))) H) : rNe (.int i) (.int j) H Q := ⟨rfl, by rw [dec_int]; exact q⟩
theorem w_eqS {i j : Str} (q : Q (.bl (decide (i = j))) H) : rEq (.str i) (.str j) H Q := ⟨rfl, by rw [dec_str]; exact q⟩
theorem w_neS {i j : Str} (q : Q (.bl (!decide (i = j))) H) : rNe (.str i) (.str j) H Q := ⟨rfl, by rw [dec_str]; exact q⟩
theorem w_eqB {i j : Bool} (q : Q (.bl (decide (i = j))) H) : rEq (.bl i) (.bl j) H Q := ⟨rfl, by rw [dec_bl]; exact q⟩
theorem w_neB {i j : Bool} (q : Q (.bl (!decide (i = j))) H) : rNe (.bl i) (.bl j) H Q := ⟨rfl, by rw [dec_bl]; exact q⟩
/-! texts -/
def rAddStr : R2 := fun x y H Q => ∃ i j, x = .str i ∧ y = .str j ∧ i.length + j.length ≤ sizeLine ∧ Q (.str (i ++ j)) H
theorem op_addS {X : Cx} : OpR X (binaryOp .Add) rAddStr := op_add_str
theorem w_addS {i j : Str} (h : i.length + j.length ≤ sizeLine) (q : Q (.str (i ++ j)) H) : rAddStr (.str i) (.str j) H Q := ⟨i, j, rfl, rfl, h, q⟩
def rInSign : R2 := fun x y H Q => ∃ (c : Nat) (z : Str), x = .str ⟨#[c]⟩ ∧ y = .str z ∧ Q (.bl (decide (c ∈ z.cps.toList))) H
theorem op_inSg {X : Cx} : OpR X (compareOp .In) rInSign := op_in_sign
theorem w_inSg {c : Nat} {z : Str} (q : Q (.bl (decide (c ∈ z.cps.toList))) H) : rInSign (.str (one c)) (.str z) H Q := ⟨c, z, rfl, rfl, q⟩
def rNotInSign : R2 := fun x y H Q => ∃ (c : Nat) (z : Str), x = .str ⟨#[c]⟩ ∧ y = .str z ∧ Q (.bl (!decide (c ∈ z.cps.toList))) H
theorem op_notInSg {X : Cx} : OpR X (compareOp .NotIn) rNotInSign := op_notIn_sign
theorem w_notInSg {c : Nat} {z : Str} (q : Q (.bl (!decide (c ∈ z.cps.toList))) H) : rNotInSign (.str (one c)) (.str z) H Q := ⟨c, z, rfl, rfl, q⟩
def rIsNone : R2 := fun x y H Q => y = .non ∧ Q (.bl (decide (x = .non))) H
theorem op_isNn {X : Cx} : OpR X (compareOp .Is) rIsNone := op_isN
theorem w_isN {x : V} (q : Q (.bl (decide (x = .non))) H) : rIsNone x .non H Q := ⟨rfl, q⟩
theorem w_isNI {i : Int} (q : Q (.bl false) H) : rIsNone (.int i) .non H Q := ⟨rfl, by rw [decide_eq_false (fun z => nomatch z)]; exact q⟩
theorem w_isNN (q : Q (.bl true) H) : rIsNone .non .non H Q := ⟨rfl, by rw [decide_eq_true rfl]; exact q⟩
def rNotNone : R2 := fun x y H Q => y = .non ∧ Q (.bl (!decide (x = .non))) H
theorem op_notNn {X : Cx} : OpR X (compareOp .IsNot) rNotNone := op_notN
theorem w_notN {x : V} (q : Q (.bl (!decide (x = .non))) H) : rNotNone x .non H Q := ⟨rfl, q⟩
theorem w_notNI {i : Int} (q : Q (.bl true) H) : rNotNone (.int i) .non H Q := ⟨rfl, by rw [decide_eq_false (fun z => nomatch z)]; exact q⟩
theorem w_notNN (q : Q (.bl false) H) : rNotNone .non .non H Q := ⟨rfl, by rw [decide_eq_true rfl]; exact q⟩
theorem w_slS {z : Str} {lo hi : Option Int} (h : z.length ≤ sizeLine) (q : Q (.str (cutS z lo hi)) H) : rSlS (.str z) lo hi H Q := ⟨z, rfl, h, q⟩
theorem w_sl {r : V → Option Int → Option Int → Hp → VK → Prop} {te : TE} {tl th : TO} (q : te σ H fun x H1 => tl σ H1 fun l H2 => th σ H2 fun u H3 => r x l u H3 Q) : tSl r te tl th σ H Q := q
theorem w_nopart {Q : Option Int → Hp → Prop} (q : Q none H) : tNoPart σ H Q := q
def kPart (Q : Option Int → Hp → Prop) : VK := fun x H1 => ∃ i, x = .int i ∧ Q (some i) H1
theorem w_part {t : TE} {Q : Option Int → Hp → Prop} (q : t σ H (kPart Q)) : tPart t σ H Q := q
theorem w_kpart {i : Int} {Q : Option Int → Hp → Prop} (q : Q (some i) H) : kPart Q (.int i) H := ⟨i, rfl, q⟩
theorem w_ixS {z : Str} {i : Int} {c : Nat} (hl : z.length ≤ sizeLine) (h : atI z.cps.toList i = some c) (q : Q (.str (one c)) H) : rIxS (.str z) (.int i) H Q := ⟨z, i, c, rfl, rfl, hl, h, q⟩
theorem w_ixL {p : Addr} {xs : List V} {i : Int} {v : V} (h : H p = some (.lst xs)) (e : atI xs i = some v) (q : Q v H) : rIxL K (.ref p) (.int i) H Q := ⟨p, xs, i, v, rfl, rfl, SqL.of h, e, q⟩
theorem w_ixT {p : Addr} {xs : List V} {i : Int} {v : V} (h : H p = some (.tup xs)) (e : atI xs i = some v) (q : Q v H) : rIxT K (.ref p) (.int i) H Q := ⟨p, xs, i, v, rfl, rfl, SqT.of h, e, q⟩
/-! truth -/
def kB (Q : Bool → Hp → Prop) : VK := fun x H' => ∃ k, x = .bl k ∧ Q k H'
theorem w_test {t : TE} {Q : Bool → Hp → Prop} (q : t σ H (kB Q)) : tTest t σ H Q := q
theorem w_tB {t : TE} {Q : Bool → Hp → Prop} (q : t σ H (kB Q)) : tB t σ H Q := q
theorem w_kB {c : Bool} {Q : Bool → Hp → Prop} (q : Q c H) : kB Q (.bl c) H := ⟨c, rfl, q⟩
def kAnd (u : TT) (σ : L2.St) (Q : Bool → Hp → Prop) : Bool → Hp → Prop := fun c H1 => if c = true then u σ H1 Q else Q false H1
theorem w_and {t u : TT} {Q : Bool → Hp → Prop} (q : t σ H (kAnd u σ Q)) : tAnd t u σ H Q := q
theorem w_andT {u : TT} {Q : Bool → Hp → Prop} (q : u σ H Q) : kAnd u σ Q true H := iteT q
theorem w_andF {u : TT} {Q : Bool → Hp → Prop} (q : Q false H) : kAnd u σ Q false H := iteF q
theorem w_and2 {p : Prop} [Decidable p] {u : TT} {Q : Bool → Hp → Prop} (h1 : p → u σ H Q) (h2 : ¬ p → Q false H) : kAnd u σ Q (decide p) H :=
  ite2 (fun e => h1 (of_decide_eq_true e)) fun e => h2 fun z => e (decide_eq_true z)
theorem w_andN2 {p : Prop} [Decidable p] {u : TT} {Q : Bool → Hp → Prop} (h1 : ¬ p → u σ H Q) (h2 : p → Q false H) : kAnd u σ Q (!decide p) H := by
  by_cases h : p
  · rw [decide_eq_true h]; exact iteF (h2 h)
  · rw [decide_eq_false h]; exact iteT (h1 h)
theorem w_andB {b : Bool} {u : TT} {Q : Bool → Hp → Prop} (h1 : b = true → u σ H Q) (h2 : b = false → Q false H) : kAnd u σ Q b H := by
  cases b with
  | true => exact iteT (h1 rfl)
  | false => exact iteF (h2 rfl)
def kOr (u : TT) (σ : L2.St) (Q : Bool → Hp → Prop) : Bool → Hp → Prop := fun c H1 => if c = true then Q true H1 else u σ H1 Q
theorem w_or {t u : TT} {Q : Bool → Hp → Prop} (q : t σ H (kOr u σ Q)) : tOr t u σ H Q := q
theorem w_orT {u : TT} {Q : Bool → Hp → Prop} (q : Q true H) : kOr u σ Q true H := iteT q
theorem w_orF {u : TT} {Q : Bool → Hp → Prop} (q : u σ H Q) : kOr u σ Q false H := iteF q
theorem w_or2 {p : Prop} [Decidable p] {u : TT} {Q : Bool → Hp → Prop} (h1 : p → Q true H) (h2 : ¬ p → u σ H Q) : kOr u σ Q (decide p) H :=
  ite2 (fun e => h1 (of_decide_eq_true e)) fun e => h2 fun z => e (decide_eq_true z)
theorem w_orN2 {p : Prop} [Decidable p] {u : TT} {Q : Bool → Hp → Prop} (h1 : ¬ p → Q true H) (h2 : p → u σ H Q) : kOr u σ Q (!decide p) H := by
  by_cases h : p
  · rw [decide_eq_true h]; exact iteF (h2 h)
  · rw [decide_eq_false h]; exact iteT (h1 h)
theorem w_orB {b : Bool} {u : TT} {Q : Bool → Hp → Prop} (h1 : b = true → Q true H) (h2 : b = false → u σ H Q) : kOr u σ Q b H := by
  cases b with
  | true => exact iteT (h1 rfl)
  | false => exact iteF (h2 rfl)
def kNot (Q : Bool → Hp → Prop) : Bool → Hp → Prop := fun c H1 => Q (!c) H1
theorem w_not {t : TT} {Q : Bool → Hp → Prop} (q : t σ H (kNot Q)) : tNot t σ H Q := q
theorem w_kNot {c : Bool} {Q : Bool → Hp → Prop} (q : Q (!c) H) : kNot Q c H := q
theorem w_kNotT {Q : Bool → Hp → Prop} (q : Q false H) : kNot Q true H := q
theorem w_kNotF {Q : Bool → Hp → Prop} (q : Q true H) : kNot Q false H := q
theorem w_kNotN {p : Prop} [Decidable p] {Q : Bool → Hp → Prop} (q : Q (decide p) H) : kNot Q (!decide p) H := by
  show Q (!!decide p) H
  rw [Bool.not_not]
  exact q
/-! truth as values -/
def kAndV (tb : TE) (σ : L2.St) (Q : VK) : VK := fun x H1 => ∃ c, x = .bl c ∧ if c = true then tb σ H1 Q else Q (.bl false) H1
theorem w_andV {ta tb : TE} (q : ta σ H (kAndV tb σ Q)) : tAndV ta tb σ H Q := q
theorem w_andVT {tb : TE} (q : tb σ H Q) : kAndV tb σ Q (.bl true) H := ⟨true, rfl, iteT q⟩
theorem w_andVF {tb : TE} (q : Q (.bl false) H) : kAndV tb σ Q (.bl false) H := ⟨false, rfl, iteF q⟩
theorem w_andV2 {p : Prop} [Decidable p] {tb : TE} (h1 : p → tb σ H Q) (h2 : ¬ p → Q (.bl false) H) : kAndV tb σ Q (.bl (decide p)) H :=
  ⟨_, rfl, ite2 (fun e => h1 (of_decide_eq_true e)) fun e => h2 fun z => e (decide_eq_true z)⟩
theorem w_andVB {b : Bool} {tb : TE} (h1 : b = true → tb σ H Q) (h2 : b = false → Q (.bl false) H) : kAndV tb σ Q (.bl b) H := by
  cases b with
  | true => exact w_andVT (h1 rfl)
  | false => exact w_andVF (h2 rfl)
def kOrV (tb : TE) (σ : L2.St) (Q : VK) : VK := fun x H1 => ∃ c, x = .bl c ∧ if c = true then Q (.bl true) H1 else tb σ H1 Q
theorem w_orV {ta tb : TE} (q : ta σ H (kOrV tb σ Q)) : tOrV ta tb σ H Q := q
theorem w_orVB {b : Bool} {tb : TE} (h1 : b = true → Q (.bl true) H) (h2 : b = false → tb σ H Q) : kOrV tb σ Q (.bl b) H := by
  cases b with
  | true => exact ⟨true, rfl, iteT (h1 rfl)⟩
  | false => exact ⟨false, rfl, iteF (h2 rfl)⟩
def kNotV (Q : VK) : VK := fun x H1 => ∃ c, x = .bl c ∧ Q (.bl (!c)) H1
theorem w_notV {ta : TE} (q : ta σ H (kNotV Q)) : tNotV ta σ H Q := q
theorem w_kNotV {c : Bool} (q : Q (.bl (!c)) H) : kNotV Q (.bl c) H := ⟨c, rfl, q⟩
theorem w_kNotVF (q : Q (.bl true) H) : kNotV Q (.bl false) H := ⟨false, rfl, q⟩
theorem w_kNotVT (q : Q (.bl false) H) : kNotV Q (.bl true) H := ⟨true, rfl, q⟩
def kIfE (ta tb : TE) (σ : L2.St) (Q : VK) : Bool → Hp → Prop := fun c H1 => if c = true then ta σ H1 Q else tb σ H1 Q
theorem w_ifE {t : TT} {ta tb : TE} (q : t σ H (kIfE ta tb σ Q)) : tIf t ta tb σ H Q := q
theorem w_ifET {ta tb : TE} (q : ta σ H Q) : kIfE ta tb σ Q true H := iteT q
theorem w_ifEF {ta tb : TE} (q : tb σ H Q) : kIfE ta tb σ Q false H := iteF q
theorem w_ifE2 {p : Prop} [Decidable p] {ta tb : TE} (h1 : p → ta σ H Q) (h2 : ¬ p → tb σ H Q) : kIfE ta tb σ Q (decide p) H :=
  ite2 (fun e => h1 (of_decide_eq_true e)) fun e => h2 fun z => e (decide_eq_true z)
theorem w_ifEN2 {p : Prop} [Decidable p] {ta tb : TE} (h1 : ¬ p → ta σ H Q) (h2 : p → tb σ H Q) : kIfE ta tb σ Q (!decide p) H := by
  by_cases h : p
  · rw [decide_eq_true h]; exact iteF (h2 h)
  · rw [decide_eq_false h]; exact iteT (h1 h)
theorem w_ifEB {b : Bool} {ta tb : TE} (h1 : b = true → ta σ H Q) (h2 : b = false → tb σ H Q) : kIfE ta tb σ Q b H := by
  cases b with
  | true => exact iteT (h1 rfl)
  | false => exact iteF (h2 rfl)
def kChain (r' : R2) (tc : TE) (y : V) (σ : L2.St) (Q : VK) : VK := fun z H3 => ∃ k, z = .bl k ∧ (if k = true then tc σ H3 fun w' H4 => r' y w' H4 Q else Q (.bl false) H3)
theorem w_chain {r r' : R2} {ta tb tc : TE} (q : ta σ H fun x H1 => tb σ H1 fun y H2 => r x y H2 (kChain r' tc y σ Q)) : tChain r r' ta tb tc σ H Q := q
theorem w_chain2 {p : Prop} [Decidable p] {r' : R2} {tc : TE} {y : V} (h1 : p → tc σ H fun w' H4 => r' y w' H4 Q) (h2 : ¬ p → Q (.bl false) H) : kChain r' tc y σ Q (.bl (decide p)) H :=
  ⟨_, rfl, ite2 (fun e => h1 (of_decide_eq_true e)) fun e => h2 fun z => e (decide_eq_true z)⟩
/-! arguments, displays -/
theorem w_nil {Q : List V → Hp → Prop} (q : Q [] H) : tNil σ H Q := q
theorem w_cons {ta : TE} {tr : TA} {Q : List V → Hp → Prop} (q : ta σ H fun x H1 => tr σ H1 fun xs H2 => Q (x :: xs) H2) : tCons ta tr σ H Q := q
def kNewL (Q : VK) : List V → Hp → Prop := fun xs H1 => xs.length ≤ sizeLine ∧ ∀ p, H1 p = none → Q (.ref p) (upd H1 p (.lst xs))
def kNewT (Q : VK) : List V → Hp → Prop := fun xs H1 => xs.length ≤ sizeLine ∧ ∀ p, H1 p = none → Q (.ref p) (upd H1 p (.tup xs))
theorem w_lst {t : TA} (q : t σ H (kNewL Q)) : tLst t σ H Q := q
theorem w_tup {t : TA} (q : t σ H (kNewT Q)) : tTup t σ H Q := q
theorem w_newL {xs : List V} (hl : xs.length ≤ sizeLine) (k : ∀ p H1, H1 p = some (.lst xs) → Nw p H H1 → Q (.ref p) H1) : kNewL Q xs H := ⟨hl, fun _ n => k _ _ upd_same (.mk' n)⟩
theorem w_newT {xs : List V} (hl : xs.length ≤ sizeLine) (k : ∀ p H1, H1 p = some (.tup xs) → Nw p H H1 → Q (.ref p) H1) : kNewT Q xs H := ⟨hl, fun _ n => k _ _ upd_same (.mk' n)⟩
theorem w_slL {p : Addr} {xs : List V} {lo hi : Option Int} (h : H p = some (.lst xs)) (k : ∀ q H1, H1 q = some (.lst (cutV xs lo hi)) → Nw q H H1 → Q (.ref q) H1) : rSlL K (.ref p) lo hi H Q :=
  ⟨p, xs, rfl, SqL.of h, fun _ n => k _ _ upd_same (.mk' n)⟩
theorem w_cat {l b : Addr} {xs zs : List V} (h1 : H l = some (.lst xs)) (h2 : H b = some (.lst zs)) (hl : xs.length + zs.length ≤ sizeLine) (k : ∀ q H1, H1 q = some (.lst (xs ++ zs)) → Nw q H H1 → Q (.ref q) H1) : rCat (.ref l) (.ref b) H Q :=
  ⟨l, b, xs, zs, rfl, rfl, h1, h2, hl, fun _ n => k _ _ upd_same (.mk' n)⟩
/-! calls -/
theorem w_cb {r : List V → Hp → VK → Prop} {t : TA} (q : t σ H fun vs H1 => r vs H1 Q) : tCB r t σ H Q := q
theorem w_call {sp : Sp} {dvs : List V} {E : XK} {t : TA} (q : t σ H fun vs H1 => sp (vs ++ dvs) H1 Q E) : tCall sp dvs E t σ H Q := q
def kMeth (C : Addr) (m : Str) (sp : Sp) (dvs : List V) (E : XK) (t : TA) (σ : L2.St) (Q : VK) : VK := fun x H1 => ∃ a dx fs, x = .ref a ∧ H1 a = some (.ins C dx fs) ∧ fs.lookup m = none ∧ t σ H1 fun vs H2 => sp (x :: (vs ++ dvs)) H2 Q E
theorem w_meth {C : Addr} {m : Str} {sp : Sp} {dvs : List V} {E : XK} {ta : TE} {t : TA} (q : ta σ H (kMeth C m sp dvs E t σ Q)) : tMeth C m sp dvs E ta t σ H Q := q
theorem w_kMeth {C a dx : Addr} {fs : List (Str × V)} {m : Str} {sp : Sp} {dvs : List V} {E : XK} {t : TA} (h : H a = some (.ins C dx fs)) (hm : fs.lookup m = none) (q : t σ H fun vs H2 => sp (.ref a :: (vs ++ dvs)) H2 Q E) : kMeth C m sp dvs E t σ Q (.ref a) H := ⟨a, dx, fs, rfl, h, hm, q⟩
def kMake (C : Addr) (sp : Sp) (dvs : List V) (E : XK) (Q : VK) : List V → Hp → Prop := fun vs H1 => ∀ x dx, H1 x = none → H1 dx = none → dx ≠ x →
  sp (.ref x :: (vs ++ dvs)) (upd (upd H1 dx (.own x)) x (.ins C dx [])) (fun v H2 => v = .non ∧ Q (.ref x) H2) E
theorem w_make {C : Addr} {sp : Sp} {dvs : List V} {E : XK} {t : TA} (q : t σ H (kMake C sp dvs E Q)) : tMake C sp dvs E t σ H Q := q
def kFld (K : PySem.W.Frag) (f : Str) (Q : VK) : VK := fun x H1 => ∃ a C dx fs v, x = .ref a ∧ H1 a = some (.ins C dx fs) ∧ Cls K C ∧ NoAttr K C f ∧ fs.lookup f = some v ∧ Q v H1
theorem w_fld {ta : TE} {f : Str} (q : ta σ H (kFld K f Q)) : tFld K ta f σ H Q := q
theorem w_kFld {a C dx : Addr} {fs : List (Str × V)} {f : Str} {v : V} (h : H a = some (.ins C dx fs)) (c : Cls K C) (n : NoAttr K C f) (e : fs.lookup f = some v) (q : Q v H) : kFld K f Q (.ref a) H := ⟨a, C, dx, fs, v, rfl, h, c, n, e, q⟩
def rLenSeq (K : PySem.W.Frag) : List V → Hp → VK → Prop := fun xs H Q => ∃ p ys, xs = [.ref p] ∧ (SqL K H p ys ∨ SqT K H p ys) ∧ Q (.int ys.length) H
theorem call_lenQ {X : Cx} : CallR X (.builtin "len") (rLenSeq X.K) := call_len_seq
theorem w_lenL {p : Addr} {ys : List V} (h : H p = some (.lst ys)) (q : Q (.int ys.length) H) : rLenSeq K [.ref p] H Q := ⟨p, ys, rfl, .inl (SqL.of h), q⟩
theorem w_lenT {p : Addr} {ys : List V} (h : H p = some (.tup ys)) (q : Q (.int ys.length) H) : rLenSeq K [.ref p] H Q := ⟨p, ys, rfl, .inr (SqT.of h), q⟩
def rLenStr : List V → Hp → VK → Prop := fun xs H Q => ∃ z, xs = [.str z] ∧ z.length ≤ sizeLine ∧ Q (.int z.length) H
theorem call_lenS {X : Cx} : CallR X (.builtin "len") rLenStr := call_len_str
theorem w_lenS {z : Str} (h : z.length ≤ sizeLine) (q : Q (.int z.length) H) : rLenStr [.str z] H Q := ⟨z, rfl, h, q⟩
def rLenDct : List V → Hp → VK → Prop := fun xs H Q => ∃ a kvs, xs = [V.ref a] ∧ H a = some (.dK kvs) ∧ Q (.int kvs.length) H
theorem call_lenDc {X : Cx} : CallR X (.builtin "len") rLenDct := call_lenD
theorem w_lenD {p : Addr} {kvs : List (Key × V)} (h : H p = some (.dK kvs)) (q : Q (.int kvs.length) H) : rLenDct [.ref p] H Q := ⟨p, kvs, rfl, h, q⟩
def rMin2 : List V → Hp → VK → Prop := fun xs H Q => ∃ i j, xs = [.int i, .int j] ∧ Q (.int (if j < i then j else i)) H
theorem call_min2N {X : Cx} (hc : X.calm = true) : CallR X (.builtin "min") rMin2 := call_min2 hc
theorem w_min2 {i j : Int} (q : Q (.int (if j < i then j else i)) H) : rMin2 [.int i, .int j] H Q := ⟨i, j, rfl, q⟩
def rMax2 : List V → Hp → VK → Prop := fun xs H Q => ∃ i j, xs = [.int i, .int j] ∧ Q (.int (if j > i then j else i)) H
theorem call_max2N {X : Cx} (hc : X.calm = true) : CallR X (.builtin "max") rMax2 := call_max2 hc
theorem w_max2 {i j : Int} (q : Q (.int (if j > i then j else i)) H) : rMax2 [.int i, .int j] H Q := ⟨i, j, rfl, q⟩
def rListOf (K : PySem.W.Frag) : List V → Hp → VK → Prop := fun xs H Q => ∃ p ys, xs = [.ref p] ∧ (SqL K H p ys ∨ SqT K H p ys) ∧ ∀ l, H l = none → Q (.ref l) (upd H l (.lst ys))
theorem call_listO {X : Cx} : CallR X (.type "list") (rListOf X.K) := call_list_of
theorem w_listL {p : Addr} {ys : List V} (h : H p = some (.lst ys)) (k : ∀ l H1, H1 l = some (.lst ys) → Nw l H H1 → Q (.ref l) H1) : rListOf K [.ref p] H Q := ⟨p, ys, rfl, .inl (SqL.of h), fun _ n => k _ _ upd_same (.mk' n)⟩
theorem w_listT {p : Addr} {ys : List V} (h : H p = some (.tup ys)) (k : ∀ l H1, H1 l = some (.lst ys) → Nw l H H1 → Q (.ref l) H1) : rListOf K [.ref p] H Q := ⟨p, ys, rfl, .inr (SqT.of h), fun _ n => k _ _ upd_same (.mk' n)⟩
def rTupOf (K : PySem.W.Frag) : List V → Hp → VK → Prop := fun xs H Q => ∃ p ys, xs = [.ref p] ∧ ((SqL K H p ys ∧ ∀ l, H l = none → Q (.ref l) (upd H l (.tup ys))) ∨ (SqT K H p ys ∧ Q (.ref p) H))
theorem call_tupO {X : Cx} : CallR X (.type "tuple") (rTupOf X.K) := call_tuple_of
theorem w_tupL {p : Addr} {ys : List V} (h : H p = some (.lst ys)) (k : ∀ l H1, H1 l = some (.tup ys) → Nw l H H1 → Q (.ref l) H1) : rTupOf K [.ref p] H Q := ⟨p, ys, rfl, .inl ⟨SqL.of h, fun _ n => k _ _ upd_same (.mk' n)⟩⟩
theorem w_all {p : Addr} {bs : List Bool} (h : H p = some (.lst (bs.map V.bl))) (q : Q (.bl (bs.all id)) H) : rAll K [.ref p] H Q := ⟨p, bs, rfl, SqL.of h, q⟩
theorem w_any {p : Addr} {bs : List Bool} (h : H p = some (.lst (bs.map V.bl))) (q : Q (.bl (bs.any id)) H) : rAny K [.ref p] H Q := ⟨p, bs, rfl, SqL.of h, q⟩
theorem w_isi_int_int {i : Int} (q : Q (.bl true) H) : rIsi K [(.int i), .ty "int"] H Q := ⟨_, _, _, _, true, rfl, .ty "int", .base (.int i), kit_ty (by decide +kernel), q⟩
theorem w_isi_int_bool {i : Int} (q : Q (.bl false) H) : rIsi K [(.int i), .ty "bool"] H Q := ⟨_, _, _, _, false, rfl, .ty "bool", .base (.int i), kit_ty (by decide +kernel), q⟩
theorem w_isi_int_str {i : Int} (q : Q (.bl false) H) : rIsi K [(.int i), .ty "str"] H Q := ⟨_, _, _, _, false, rfl, .ty "str", .base (.int i), kit_ty (by decide +kernel), q⟩
theorem w_isi_str_int {i : Str} (q : Q (.bl false) H) : rIsi K [(.str i), .ty "int"] H Q := ⟨_, _, _, _, false, rfl, .ty "int", .base (.str i), kit_ty (by decide +kernel), q⟩
theorem w_isi_str_bool {i : Str} (q : Q (.bl false) H) : rIsi K [(.str i), .ty "bool"] H Q := ⟨_, _, _, _, false, rfl, .ty "bool", .base (.str i), kit_ty (by decide +kernel), q⟩
theorem w_isi_str_str {i : Str} (q : Q (.bl true) H) : rIsi K [(.str i), .ty "str"] H Q := ⟨_, _, _, _, true, rfl, .ty "str", .base (.str i), kit_ty (by decide +kernel), q⟩
theorem w_isi_bool_int {i : Bool} (q : Q (.bl true) H) : rIsi K [(.bl i), .ty "int"] H Q := ⟨_, _, _, _, true, rfl, .ty "int", .base (.bl i), kit_ty (by decide +kernel), q⟩
theorem w_isi_bool_bool {i : Bool} (q : Q (.bl true) H) : rIsi K [(.bl i), .ty "bool"] H Q := ⟨_, _, _, _, true, rfl, .ty "bool", .base (.bl i), kit_ty (by decide +kernel), q⟩
theorem w_isi_bool_str {i : Bool} (q : Q (.bl false) H) : rIsi K [(.bl i), .ty "str"] H Q := ⟨_, _, _, _, false, rfl, .ty "str", .base (.bl i), kit_ty (by decide +kernel), q⟩
theorem w_isi_NoneType_int  (q : Q (.bl false) H) : rIsi K [.non, .ty "int"] H Q := ⟨_, _, _, _, false, rfl, .ty "int", .base .non, kit_ty (by decide +kernel), q⟩
theorem w_isi_NoneType_str  (q : Q (.bl false) H) : rIsi K [.non, .ty "str"] H Q := ⟨_, _, _, _, false, rfl, .ty "str", .base .non, kit_ty (by decide +kernel), q⟩
theorem w_isi_NoneType_bool  (q : Q (.bl false) H) : rIsi K [.non, .ty "bool"] H Q := ⟨_, _, _, _, false, rfl, .ty "bool", .base .non, kit_ty (by decide +kernel), q⟩
/-! methods of lists, texts -/
def kBM (K : PySem.W.Frag) (T : String) (r : V → List V → Hp → VK → Prop) (t : TA) (σ : L2.St) (Q : VK) : VK := fun x H1 => tyV K T x H1 ∧ t σ H1 fun xs H2 => r x xs H2 Q
theorem w_bm {T : String} {r : V → List V → Hp → VK → Prop} {to : TE} {t : TA} (q : to σ H (kBM K T r t σ Q)) : tBM K T r to t σ H Q := q
theorem w_bm0 {T : String} {r : V → List V → Hp → VK → Prop} {to : TE} (q : to σ H (kBM K T r tNil σ Q)) : tBM0 K T r to σ H Q := q
theorem w_kbmL {p : Addr} {xs : List V} {r : V → List V → Hp → VK → Prop} {t : TA} (h : H p = some (.lst xs)) (q : t σ H fun xs H2 => r (.ref p) xs H2 Q) : kBM K "list" r t σ Q (.ref p) H := ⟨.inl ⟨rfl, _, SqL.of h⟩, q⟩
theorem w_append {p : Addr} {xs : List V} {v : V} (h : H p = some (.lst xs)) (hl : xs.length < sizeLine) (k : ∀ H1, H1 p = some (.lst (xs ++ [v])) → Of p H H1 → Q .non H1) : rAppend (.ref p) [v] H Q := ⟨p, xs, v, rfl, rfl, h, hl, k _ upd_same .mk'⟩
theorem perm_erase {α : Type} : ∀ (l : List α) (i : Nat) (h : i < l.length), l.Perm (l[i] :: l.eraseIdx i)
  | x :: r, 0, _ => by exact .refl _
  | x :: r, i + 1, h => by
    have ih := perm_erase r i (by simpa using h)
    exact (ih.cons x).trans (.swap _ _ _)
theorem w_popV {p : Addr} {xs : List V} {i : Int} (h : H p = some (.lst xs)) (h0 : 0 ≤ i) (h1 : i < xs.length) (hz : xs.length ≤ 100000) (k : ∀ x ys H1, xs.Perm (x :: ys) → H1 p = some (.lst ys) → Of p H H1 → Q x H1) : rPopAt (.ref p) [.int i] H Q := by
  have hi : i.toNat < xs.length := by omega
  refine ⟨p, xs, i, i.toNat, xs[i.toNat], rfl, rfl, h, by omega, by omega, ?_, List.getElem?_eq_getElem hi, k _ (xs.eraseIdx i.toNat) _ (perm_erase xs _ hi) upd_same .mk'⟩
  unfold seqIndex?
  simp only [if_neg (show ¬ i < 0 by omega), Bool.and_eq_true, decide_eq_true_eq]
  rw [if_pos ⟨h0, h1⟩]
theorem erase_map {α β : Type} (f : α → β) : ∀ (l : List α) (i : Nat), (l.map f).eraseIdx i = (l.eraseIdx i).map f
  | [], _ => rfl
  | x :: r, 0 => rfl
  | x :: r, i + 1 => by
    show f x :: (r.map f).eraseIdx i = f x :: (r.eraseIdx i).map f
    rw [erase_map f r i]
theorem w_popI {p : Addr} {ns : List Int} {i : Int} (h : H p = some (.lst (ns.map V.int))) (h0 : 0 ≤ i) (h1 : i < ns.length) (hz : ns.length ≤ 100000) (k : ∀ x ms H1, ns.Perm (x :: ms) → H1 p = some (.lst (ms.map V.int)) → Of p H H1 → Q (.int x) H1) : rPopAt (.ref p) [.int i] H Q := by
  have hi : i.toNat < ns.length := by omega
  have e : (ns.map V.int)[i.toNat]? = some (.int ns[i.toNat]) := by rw [List.getElem?_map, List.getElem?_eq_getElem hi]; rfl
  refine ⟨p, _, i, i.toNat, .int ns[i.toNat], rfl, rfl, h, by omega, by omega, ?_, e, k _ (ns.eraseIdx i.toNat) _ (perm_erase ns _ hi) ?_ .mk'⟩
  · unfold seqIndex?
    simp only [if_neg (show ¬ i < 0 by omega), Bool.and_eq_true, decide_eq_true_eq, List.length_map]
    rw [if_pos ⟨h0, h1⟩]
  · rw [upd_same, erase_map]
theorem w_clear {p : Addr} {xs : List V} (h : H p = some (.lst xs)) (k : ∀ H1, H1 p = some (.lst []) → Of p H H1 → Q .non H1) : rClear (.ref p) [] H Q := ⟨p, xs, rfl, rfl, h, k _ upd_same .mk'⟩
def kM0 (r : V → List V → Hp → VK → Prop) (Q : VK) : VK := fun x H1 => (∃ a, x = .str a) ∧ r x [] H1 Q
theorem w_m0 {r : V → List V → Hp → VK → Prop} {to : TE} (q : to σ H (kM0 r Q)) : tM0 r to σ H Q := q
theorem w_kM0 {r : V → List V → Hp → VK → Prop} {x : Str} (q : r (.str x) [] H Q) : kM0 r Q (.str x) H := ⟨⟨x, rfl⟩, q⟩
def kM1 (r : V → List V → Hp → VK → Prop) (te : TE) (σ : L2.St) (Q : VK) : VK := fun x H1 => (∃ a, x = .str a) ∧ te σ H1 fun y H2 => r x [y] H2 Q
theorem w_m1 {r : V → List V → Hp → VK → Prop} {to te : TE} (q : to σ H (kM1 r te σ Q)) : tM1 r to te σ H Q := q
theorem w_kM1 {r : V → List V → Hp → VK → Prop} {te : TE} {x : Str} (q : te σ H fun y H2 => r (.str x) [y] H2 Q) : kM1 r te σ Q (.str x) H := ⟨⟨x, rfl⟩, q⟩
/-! methods of texts, by name -/
def rUpper : V → List V → Hp → VK → Prop := fun x xs H Q => ∃ a, x = .str a ∧ xs = [] ∧ a.length ≤ 5592405 ∧ Q (.str (Txt.upper a)) H
theorem mt_upN {X : Cx} : MtR X "str.upper" rUpper := mt_upper
theorem w_upper {a : Str} (h : a.length ≤ 5592405) (q : Q (.str (Txt.upper a)) H) : rUpper (.str a) [] H Q := ⟨a, rfl, rfl, h, q⟩
theorem w_up1 {c : Nat} (h : 97 ≤ c ∧ c ≤ 104) (q : Q (.str (one (c - 32))) H) : rUpper (.str (one c)) [] H Q := ⟨_, rfl, rfl, by rw [len_one]; decide, by rw [upper_one h]; exact q⟩
def rLower : V → List V → Hp → VK → Prop := fun x xs H Q => ∃ a, x = .str a ∧ xs = [] ∧ a.length ≤ 5592405 ∧ Q (.str (Txt.lower a)) H
theorem mt_loN {X : Cx} : MtR X "str.lower" rLower := mt_lower
theorem w_lower {a : Str} (h : a.length ≤ 5592405) (q : Q (.str (Txt.lower a)) H) : rLower (.str a) [] H Q := ⟨a, rfl, rfl, h, q⟩
theorem w_lo1 {c : Nat} (h : 65 ≤ c ∧ c ≤ 72) (q : Q (.str (one (c + 32))) H) : rLower (.str (one c)) [] H Q := ⟨_, rfl, rfl, by rw [len_one]; decide, by rw [lower_one h]; exact q⟩
def rSwap : V → List V → Hp → VK → Prop := fun x xs H Q => ∃ a, x = .str a ∧ xs = [] ∧ a.length ≤ 5592405 ∧ Q (.str (Txt.swapcase a)) H
theorem pe_swapN {X : Cx} {o : Expr} {to : TE} {apos pos : Pos} (ho : PE X o to) (hbase : attributeBase o "swapcase" X.env (eval o X.env) = eval o X.env := by rfl) (hline : (apos.endLine == pos.line) = true := by rfl) : PE X (.Call (.Attribute o "swapcase" apos) [] [] pos) (tM0 rSwap to) := pe_swapcase ho hbase hline
theorem w_swap {a : Str} (hw : Wd a) (h : a.length ≤ 5592405) (q : Q (.str (flipS a)) H) : rSwap (.str a) [] H Q := ⟨a, rfl, rfl, h, by rw [swap_wd hw]; exact q⟩
theorem w_swap1 {c : Nat} (hc : sgn c = true) (q : Q (.str (one (flipC c))) H) : rSwap (.str (one c)) [] H Q := w_swap (wd_one hc) (by rw [len_one]; decide) q
theorem w_revS {te : TE} (q : te σ H fun x H1 => ∃ z, x = .str z ∧ z.length ≤ sizeLine ∧ Q (.str (revS z)) H1) : tRevS te σ H Q := q
def rJoin (K : PySem.W.Frag) : V → List V → Hp → VK → Prop := fun x xs H Q => ∃ a p, ∃ ys : List Str, x = .str a ∧ xs = [.ref p] ∧ (SqL K H p (ys.map V.str) ∨ SqT K H p (ys.map V.str)) ∧ (ys.map (·.length)).sum + ys.length * a.length ≤ 16777216 ∧ Q (.str (Txt.join a ys)) H
theorem mt_joinN {X : Cx} : MtR X "str.join" (rJoin X.K) := mt_join
theorem w_join {a : Str} {p : Addr} {ys : List Str} (h : H p = some (.lst (ys.map V.str))) (hl : (ys.map (·.length)).sum + ys.length * a.length ≤ 16777216) (q : Q (.str (Txt.join a ys)) H) : rJoin K (.str a) [.ref p] H Q := ⟨a, p, ys, rfl, rfl, .inl (SqL.of h), hl, q⟩
def rStarts : V → List V → Hp → VK → Prop := fun x xs H Q => ∃ a b, x = .str a ∧ xs = [.str b] ∧ Q (.bl (Txt.startswith a b)) H
theorem mt_startN {X : Cx} : MtR X "str.startswith" rStarts := mt_startswith
theorem w_starts {a b : Str} (q : Q (.bl (Txt.startswith a b)) H) : rStarts (.str a) [.str b] H Q := ⟨a, b, rfl, rfl, q⟩
def rEnds : V → List V → Hp → VK → Prop := fun x xs H Q => ∃ a b, x = .str a ∧ xs = [.str b] ∧ Q (.bl (Txt.endswith a b)) H
theorem mt_endN {X : Cx} : MtR X "str.endswith" rEnds := mt_endswith
theorem w_ends {a b : Str} (q : Q (.bl (Txt.endswith a b)) H) : rEnds (.str a) [.str b] H Q := ⟨a, b, rfl, rfl, q⟩
def rMulStr : R2 := fun x y H Q => ∃ (a : Str) (n : Int), x = .str a ∧ y = .int n ∧ 0 ≤ n ∧ n ≤ 1000 ∧ a.length ≤ 1000 ∧ Q (.str (Txt.mul a n)) H
theorem op_mulS {X : Cx} : OpR X (binaryOp .Mult) rMulStr := op_mul_str
theorem w_mulS {a : Str} {n : Int} (h0 : 0 ≤ n) (h1 : n ≤ 1000) (h2 : a.length ≤ 1000) (q : Q (.str (Txt.mul a n)) H) : rMulStr (.str a) (.int n) H Q := ⟨a, n, rfl, rfl, h0, h1, h2, q⟩
/-! dicts -/
def kDGet (x y : V) (Q : VK) : Hp → Prop := fun H2 => ∃ a v, x = .ref a ∧ DGet H2 a y (some v) ∧ Q v H2
theorem w_dget {td ty : TE} (q : td σ H fun x H1 => ty σ H1 fun y H2 => kDGet x y Q H2) : tDGet td ty σ H Q := q
theorem w_kDGetI {a : Addr} {kvs : List (Key × V)} {i : Int} {v : V} (h : H a = some (.dK kvs)) (e : valV kvs (Sum.inl i) = some v) (q : Q v H) : kDGet (.ref a) (.int i) Q H := ⟨a, v, rfl, by rw [← e]; exact DGet.k (k := Sum.inl i) h, q⟩
theorem w_kDGetS {a : Addr} {kvs : List (Key × V)} {i : Str} {v : V} (h : H a = some (.dK kvs)) (e : valV kvs (Sum.inr i) = some v) (q : Q v H) : kDGet (.ref a) (.str i) Q H := ⟨a, v, rfl, by rw [← e]; exact DGet.k (k := Sum.inr i) h, q⟩
def kDIn (y x : V) (Q : VK) : Hp → Prop := fun H2 => ∃ a o, x = .ref a ∧ DGet H2 a y o ∧ Q (.bl o.isSome) H2
theorem w_din {ty td : TE} (q : ty σ H fun y H1 => td σ H1 fun x H2 => kDIn y x Q H2) : tDIn ty td σ H Q := q
theorem w_kDInI {a : Addr} {kvs : List (Key × V)} {i : Int} (h : H a = some (.dK kvs)) (q : Q (.bl (valV kvs (Sum.inl i)).isSome) H) : kDIn (.int i) (.ref a) Q H := ⟨a, _, rfl, DGet.k (k := Sum.inl i) h, q⟩
theorem w_kDInS {a : Addr} {kvs : List (Key × V)} {i : Str} (h : H a = some (.dK kvs)) (q : Q (.bl (valV kvs (Sum.inr i)).isSome) H) : kDIn (.str i) (.ref a) Q H := ⟨a, _, rfl, DGet.k (k := Sum.inr i) h, q⟩
def kDNotIn (y x : V) (Q : VK) : Hp → Prop := fun H2 => ∃ a o, x = .ref a ∧ DGet H2 a y o ∧ Q (.bl (!o.isSome)) H2
theorem w_dnotin {ty td : TE} (q : ty σ H fun y H1 => td σ H1 fun x H2 => kDNotIn y x Q H2) : tDNotIn ty td σ H Q := q
theorem w_kDNotInI {a : Addr} {kvs : List (Key × V)} {i : Int} (h : H a = some (.dK kvs)) (q : Q (.bl (!(valV kvs (Sum.inl i)).isSome)) H) : kDNotIn (.int i) (.ref a) Q H := ⟨a, _, rfl, DGet.k (k := Sum.inl i) h, q⟩
theorem w_kDNotInS {a : Addr} {kvs : List (Key × V)} {i : Str} (h : H a = some (.dK kvs)) (q : Q (.bl (!(valV kvs (Sum.inr i)).isSome)) H) : kDNotIn (.str i) (.ref a) Q H := ⟨a, _, rfl, DGet.k (k := Sum.inr i) h, q⟩
def kDGet1 (ty : TE) (σ : L2.St) (Q : VK) : VK := fun x H1 => ∃ a, x = .ref a ∧ IsD H1 a ∧ ty σ H1 fun y H2 => ∃ o, DGet H2 a y o ∧ Q (o.getD .non) H2
def kDGet1b (a : Addr) (Q : VK) : VK := fun y H2 => ∃ o, DGet H2 a y o ∧ Q (o.getD .non) H2
theorem w_dget1 {td ty : TE} (q : td σ H (kDGet1 ty σ Q)) : tDGet1 td ty σ H Q := q
theorem w_kDGet1 {a : Addr} {kvs : List (Key × V)} {ty : TE} (h : H a = some (.dK kvs)) (q : ty σ H (kDGet1b a Q)) : kDGet1 ty σ Q (.ref a) H := ⟨a, rfl, .inl ⟨kvs, .of h⟩, q⟩
theorem w_kDGet1I {a : Addr} {kvs : List (Key × V)} {i : Int} (h : H a = some (.dK kvs)) (q : Q ((valV kvs (Sum.inl i)).getD .non) H) : kDGet1b a Q (.int i) H := ⟨_, DGet.k (k := Sum.inl i) h, q⟩
theorem w_kDGet1S {a : Addr} {kvs : List (Key × V)} {i : Str} (h : H a = some (.dK kvs)) (q : Q ((valV kvs (Sum.inr i)).getD .non) H) : kDGet1b a Q (.str i) H := ⟨_, DGet.k (k := Sum.inr i) h, q⟩
theorem w_dnewK (k : ∀ p H1, H1 p = some (.dK []) → Nw p H H1 → Q (.ref p) H1) : tDNewK σ H Q := fun _ n => k _ _ upd_same (.mk' n)
def kDPut (n : L2.St → Hp → Prop) (σ : L2.St) (x y v : V) : Hp → Prop := fun H3 => ∃ a H4, x = .ref a ∧ DPut H3 a y v H4 ∧ n σ H4
theorem w_sdput {td ty tv : TE} {n : L2.St → Hp → Prop} {rt : VK} {bk ct : L2.St → Hp → Prop} (q : tv σ H fun v H1 => td σ H1 fun x H2 => ty σ H2 fun y H3 => kDPut n σ x y v H3) : sDPut td ty tv ⟨n, rt, bk, ct⟩ σ H := q
theorem w_kDPutI {a : Addr} {kvs : List (Key × V)} {i : Int} {v : V} {n : L2.St → Hp → Prop} (h : H a = some (.dK kvs)) (hl : kvs.length < sizeLine) (k : ∀ H1, H1 a = some (.dK (putK kvs (Sum.inl i) v)) → Of a H H1 → n σ H1) : kDPut n σ (.ref a) (.int i) v H := ⟨a, _, rfl, DPut.k (k := Sum.inl i) h hl, k _ upd_same .mk'⟩
theorem w_kDPutS {a : Addr} {kvs : List (Key × V)} {i : Str} {v : V} {n : L2.St → Hp → Prop} (h : H a = some (.dK kvs)) (hl : kvs.length < sizeLine) (k : ∀ H1, H1 a = some (.dK (putK kvs (Sum.inr i) v)) → Of a H H1 → n σ H1) : kDPut n σ (.ref a) (.str i) v H := ⟨a, _, rfl, DPut.k (k := Sum.inr i) h hl, k _ upd_same .mk'⟩
/-! a dict made by a comprehension -/
def kDc (g : TG) (tt : TT) (tk tv : TE) (vs : List Nat) (σ : L2.St) (Q : VK) : It → Hp → Prop := fun J H1 => ∀ D, H1 D = none → ∃ W : Nat → Nat → Hp → Prop, (∃ m, W 0 m (upd H1 D (.dK []))) ∧ ∀ i m H, W i m H →
  (J.stop i H ∧ Q (.ref D) H) ∨ (J.go i H ∧ ∃ Nx : Hp → Prop, (∀ H', Nx H' → ∃ m', m' < m ∧ W (i + 1) m' H') ∧ ∀ x H', J.yld i H x H' → g x (wipe σ vs) H' fun σ2 H2 => wipe σ2 vs = wipe σ vs ∧ tt σ2 H2 fun b H3 =>
    if b = true then tk σ2 H3 fun y H4 => tv σ2 H4 fun z H5 => ∃ kvs k, y = kV k ∧ H5 D = some (.dK kvs) ∧ kvs.length < sizeLine ∧ Nx (upd H5 D (.dK (putK kvs k z))) else Nx H3)
theorem w_dc {wi : TI} {g : TG} {tt : TT} {tk tv : TE} {vs : List Nat} (q : wi σ H (kDc g tt tk tv vs σ Q)) : tDc wi g tt tk tv vs σ H Q := q
def kItD (D : Addr) (N : Hp → Prop) (y z : V) : Hp → Prop := fun H5 => ∃ kvs k, y = kV k ∧ H5 D = some (.dK kvs) ∧ kvs.length < sizeLine ∧ N (upd H5 D (.dK (putK kvs k z)))
theorem w_kItDS {p : Addr} {N : Hp → Prop} {kvs : List (Key × V)} {y : Str} {z : V} (h : H p = some (.dK kvs)) (hl : kvs.length < sizeLine) (k : ∀ H5, H5 p = some (.dK (putK kvs (Sum.inr y) z)) → Of p H H5 → N H5) : kItD p N (.str y) z H := ⟨kvs, Sum.inr y, rfl, h, hl, k _ upd_same .mk'⟩
theorem w_kItDI {p : Addr} {N : Hp → Prop} {kvs : List (Key × V)} {y : Int} {z : V} (h : H p = some (.dK kvs)) (hl : kvs.length < sizeLine) (k : ∀ H5, H5 p = some (.dK (putK kvs (Sum.inl y) z)) → Of p H H5 → N H5) : kItD p N (.int y) z H := ⟨kvs, Sum.inl y, rfl, h, hl, k _ upd_same .mk'⟩
def kTstD (tk tv : TE) (σ : L2.St) (D : Addr) (N : Hp → Prop) : Bool → Hp → Prop := fun b H3 => if b = true then tk σ H3 fun y H4 => tv σ H4 fun z H5 => kItD D N y z H5 else N H3
theorem w_tstDT {tk tv : TE} {p : Addr} {N : Hp → Prop} (q : tk σ H fun y H4 => tv σ H4 fun z H5 => kItD p N y z H5) : kTstD tk tv σ p N true H := iteT q
theorem w_tstDB {b : Bool} {tk tv : TE} {p : Addr} {N : Hp → Prop} (h1 : b = true → tk σ H fun y H4 => tv σ H4 fun z H5 => kItD p N y z H5) (h2 : b = false → N H) : kTstD tk tv σ p N b H := by
  cases b with
  | true => exact iteT (h1 rfl)
  | false => exact iteF (h2 rfl)
def kEachD (tt : TT) (tk tv : TE) (vs : List Nat) (σ : L2.St) (D : Addr) (N : Hp → Prop) : L2.St → Hp → Prop := fun σ2 H2 => wipe σ2 vs = wipe σ vs ∧ tt σ2 H2 (kTstD tk tv σ2 D N)
theorem w_eachD {tt : TT} {tk tv : TE} {vs : List Nat} {σ σ2 : L2.St} {p : Addr} {N : Hp → Prop} (e : wipe σ2 vs = wipe σ vs) (q : tt σ2 H (kTstD tk tv σ2 p N)) : kEachD tt tk tv vs σ p N σ2 H := ⟨e, q⟩
theorem w_dcG {J : It} {n : Nat} {g : TG} {tt : TT} {tk tv : TE} {vs : List Nat} (Pv : Addr → Nat → Hp → Prop) (h0 : ∀ p H1, H1 p = some (.dK []) → Nw p H H1 → Pv p 0 H1)
    (hgo : ∀ p i H, i < n → Pv p i H → J.go i H) (hst : ∀ p H, Pv p n H → J.stop n H)
    (hs : ∀ p i x H H', i < n → Pv p i H → J.yld i H x H' → g x (wipe σ vs) H' (kEachD tt tk tv vs σ p (Pv p (i + 1)))) (hd : ∀ p H, Pv p n H → Q (.ref p) H) : kDc g tt tk tv vs σ Q J H := fun p np => by
  refine ⟨fun i m H => m = n - i ∧ i ≤ n ∧ Pv p i H, ⟨n, rfl, Nat.zero_le _, h0 p _ upd_same (.mk' np)⟩, ?_⟩
  rintro i m H ⟨rfl, hi, h⟩
  by_cases hlt : i < n
  · exact .inr ⟨hgo p i H hlt h, Pv p (i + 1), fun H' p' => ⟨n - (i + 1), by omega, rfl, hlt, p'⟩, fun x H' y => hs p i x H H' hlt h y⟩
  · have e : i = n := by omega
    subst e
    exact .inl ⟨hst p H h, hd p H h⟩
theorem w_dcS {x : Str} {g : TG} {tt : TT} {tk tv : TE} {vs : List Nat} (Pv : Addr → Nat → Hp → Prop) (h0 : ∀ p H1, H1 p = some (.dK []) → Nw p H H1 → Pv p 0 H1)
    (hs : ∀ p i c H, (tl x)[i]? = some c → Pv p i H → g (.str (one c)) (wipe σ vs) H (kEachD tt tk tv vs σ p (Pv p (i + 1)))) (hd : ∀ p H, Pv p (tl x).length H → Q (.ref p) H) : kDc g tt tk tv vs σ Q (Its x) H := by
  have hz : x.cps.size = (tl x).length := len_tl x
  refine w_dcG (n := x.cps.size) Pv h0 (fun p i H hi h => hi) (fun p H h => Nat.le_refl _) ?_ (fun p H h => hd p H (by rw [← hz]; exact h))
  rintro p i v H H' hi h ⟨rfl, c, hc, rfl⟩
  exact hs p i c H' (getElem?_of_cps hc) h
/-! list(range(n)) -/
def kRg1 (Q : Int → Int → Hp → Prop) : VK := fun x H1 => ∃ n, x = .int n ∧ Q 0 n H1
theorem w_rg1 {ta : TE} {Q : Int → Int → Hp → Prop} (q : ta σ H (kRg1 Q)) : tRg1 ta σ H Q := q
theorem w_kRg1 {n : Int} {Q : Int → Int → Hp → Prop} (q : Q 0 n H) : kRg1 Q (.int n) H := ⟨n, rfl, q⟩
def kRgL (Q : VK) (a b : Int) : Hp → Prop := fun H1 => RgOk a b ∧ ∀ q, H1 q = none → Q (.ref q) (upd H1 q (.lst (rgV a b)))
theorem w_lstRg {te : L2.St → Hp → (Int → Int → Hp → Prop) → Prop} (q : te σ H fun a b H1 => kRgL Q a b H1) : tLstRg te σ H Q := q
theorem w_kRgL {a b : Int} (h : RgOk a b) (k : ∀ p H1, H1 p = some (.lst (rgV a b)) → Nw p H H1 → Q (.ref p) H1) : kRgL Q a b H := ⟨h, fun _ n => k _ _ upd_same (.mk' n)⟩
/-! statements -/
theorem w_seq {t u : TS} {n : L2.St → Hp → Prop} {rt : VK} {bk ct : L2.St → Hp → Prop} (q : t ⟨u ⟨n, rt, bk, ct⟩, rt, bk, ct⟩ σ H) : tSeq t u ⟨n, rt, bk, ct⟩ σ H := q
/-- a statement, and what holds behind it -/
theorem w_seqJ {t u : TS} {n : L2.St → Hp → Prop} {rt : VK} {bk ct : L2.St → Hp → Prop} (J : L2.St → Hp → Prop) (q : ∀ N : L2.St → Hp → Prop, (∀ σ' H', J σ' H' → N σ' H') → t ⟨N, rt, bk, ct⟩ σ H) (hr : ∀ σ' H', J σ' H' → u ⟨n, rt, bk, ct⟩ σ' H') : tSeq t u ⟨n, rt, bk, ct⟩ σ H := q _ hr
theorem w_next {n : L2.St → Hp → Prop} {rt : VK} {bk ct : L2.St → Hp → Prop} (q : n σ H) : tNext ⟨n, rt, bk, ct⟩ σ H := q
theorem w_break {n : L2.St → Hp → Prop} {rt : VK} {bk ct : L2.St → Hp → Prop} (q : bk σ H) : tBreak ⟨n, rt, bk, ct⟩ σ H := q
theorem w_cont {n : L2.St → Hp → Prop} {rt : VK} {bk ct : L2.St → Hp → Prop} (q : ct σ H) : tCont ⟨n, rt, bk, ct⟩ σ H := q
theorem w_drop {te : TE} {n : L2.St → Hp → Prop} {rt : VK} {bk ct : L2.St → Hp → Prop} (q : te σ H fun _ H1 => n σ H1) : tDrop te ⟨n, rt, bk, ct⟩ σ H := q
theorem w_ret {te : TE} {n : L2.St → Hp → Prop} {rt : VK} {bk ct : L2.St → Hp → Prop} (q : te σ H rt) : tRet te ⟨n, rt, bk, ct⟩ σ H := q
theorem w_retN {n : L2.St → Hp → Prop} {rt : VK} {bk ct : L2.St → Hp → Prop} (q : rt .non H) : tRetN ⟨n, rt, bk, ct⟩ σ H := q
def kIf (t u : TS) (D : Ends) (σ : L2.St) : Bool → Hp → Prop := fun b H1 => if b = true then t D σ H1 else u D σ H1
theorem w_if {c : TT} {t u : TS} (q : c σ H (kIf t u D σ)) : tIfS c t u D σ H := q
theorem w_ifT {t u : TS} (q : t D σ H) : kIf t u D σ true H := iteT q
theorem w_ifF {t u : TS} (q : u D σ H) : kIf t u D σ false H := iteF q
theorem w_if2 {p : Prop} [Decidable p] {t u : TS} (h1 : p → t D σ H) (h2 : ¬ p → u D σ H) : kIf t u D σ (decide p) H :=
  ite2 (fun e => h1 (of_decide_eq_true e)) fun e => h2 fun z => e (decide_eq_true z)
theorem w_ifN2 {p : Prop} [Decidable p] {t u : TS} (h1 : ¬ p → t D σ H) (h2 : p → u D σ H) : kIf t u D σ (!decide p) H := by
  by_cases h : p
  · rw [decide_eq_true h]; exact iteF (h2 h)
  · rw [decide_eq_false h]; exact iteT (h1 h)
theorem w_ifB {b : Bool} {t u : TS} (h1 : b = true → t D σ H) (h2 : b = false → u D σ H) : kIf t u D σ b H := by
  cases b with
  | true => exact iteT (h1 rfl)
  | false => exact iteF (h2 rfl)
theorem w_asg {te : TE} {g : TG} {n : L2.St → Hp → Prop} {rt : VK} {bk ct : L2.St → Hp → Prop} (q : te σ H fun x H1 => g x σ H1 n) : tAsg te g ⟨n, rt, bk, ct⟩ σ H := q
theorem w_gn {i : Nat} {v : V} {Q : L2.St → Hp → Prop} (q : Q (σ.set i (some v)) H) : gName i v σ H Q := q
def kPar (i j : Nat) (σ : L2.St) (n : L2.St → Hp → Prop) : List V → Hp → Prop := fun vs H1 => ∃ v w, vs = [v, w] ∧ n ((σ.set i (some v)).set j (some w)) H1
theorem w_par {i j : Nat} {ta : TA} {n : L2.St → Hp → Prop} {rt : VK} {bk ct : L2.St → Hp → Prop} (q : ta σ H (kPar i j σ n)) : tPar i j ta ⟨n, rt, bk, ct⟩ σ H := q
theorem w_kPar {i j : Nat} {v w : V} {n : L2.St → Hp → Prop} (q : n ((σ.set i (some v)).set j (some w)) H) : kPar i j σ n [v, w] H := ⟨v, w, rfl, q⟩
theorem w_gtup {a : Addr} {xs : List V} {n : Nat} {t : TGs} {Q : L2.St → Hp → Prop} (h : H a = some (.tup xs)) (hl : xs.length = n) (q : t xs σ H Q) : gTup K n t (.ref a) σ H Q := ⟨a, xs, rfl, SqT.of h, hl, q⟩
theorem w_gcons {t : TG} {u : TGs} {v : V} {r : List V} {Q : L2.St → Hp → Prop} (q : t v σ H fun σ' H' => u r σ' H' Q) : gCons t u (v :: r) σ H Q := ⟨v, r, rfl, q⟩
theorem w_gnil {Q : L2.St → Hp → Prop} (q : Q σ H) : gNil [] σ H Q := ⟨rfl, q⟩
theorem w_gsub {to ti : TE} {t : TSet} {v : V} {Q : L2.St → Hp → Prop} (q : to σ H fun o H1 => ti σ H1 fun i H2 => t o i v H2 fun H3 => Q σ H3) : gSub to ti t v σ H Q := q
theorem w_setL {p : Addr} {xs : List V} {k : Int} {j : Nat} {v : V} {Q : Hp → Prop} (h : H p = some (.lst xs)) (e : ixN xs.length k = some j) (q : ∀ H1, H1 p = some (.lst (xs.set j v)) → Of p H H1 → Q H1) : rSetL (.ref p) (.int k) v H Q := ⟨p, xs, k, j, rfl, rfl, h, e, q _ upd_same .mk'⟩
def kSFld (K : PySem.W.Frag) (f : Str) (y : V) (n : L2.St → Hp → Prop) (σ : L2.St) : VK := fun x H2 => ∃ a C dx fs, x = .ref a ∧ H2 a = some (.ins C dx fs) ∧ Cls K C ∧ NoAttr K C f ∧ fs.length < 1000 ∧ n σ (upd H2 a (.ins C dx (putF f y fs)))
theorem w_sfld {ta tv : TE} {f : Str} {n : L2.St → Hp → Prop} {rt : VK} {bk ct : L2.St → Hp → Prop} (q : tv σ H fun y H1 => ta σ H1 (kSFld K f y n σ)) : sFld K ta tv f ⟨n, rt, bk, ct⟩ σ H := q
theorem w_kSFld {a C dx : Addr} {fs : List (Str × V)} {f : Str} {y : V} {n : L2.St → Hp → Prop} (h : H a = some (.ins C dx fs)) (c : Cls K C) (na : NoAttr K C f) (hl : fs.length < 1000) (k : ∀ H1, H1 a = some (.ins C dx (putF f y fs)) → Of a H H1 → n σ H1) : kSFld K f y n σ (.ref a) H :=
  ⟨a, C, dx, fs, rfl, h, c, na, hl, k _ upd_same .mk'⟩
theorem w_aug {i : Nat} {x : V} {te : TE} {ti : TIp} {n : L2.St → Hp → Prop} {rt : VK} {bk ct : L2.St → Hp → Prop} (h : σ[i]? = some (some x)) (q : te σ H fun y H1 => ti x y H1 fun z H2 => n (σ.set i (some z)) H2) : tAug i te ti ⟨n, rt, bk, ct⟩ σ H := ⟨x, h, q⟩
theorem w_ipI {f : Int → Int → Int} {i j : Int} (q : Q (.int (f i j)) H) : ipI f (.int i) (.int j) H Q := ⟨i, j, rfl, rfl, q⟩
/-! loops -/
def kFor (g : TG) (tb : TS) (D : Ends) (σ : L2.St) : It → Hp → Prop := fun J H1 => ∃ W : Nat → Nat → L2.St → Hp → Prop, (∃ m, W 0 m σ H1) ∧ ∀ i m σ H, W i m σ H →
  (J.stop i H ∧ D.nx σ H) ∨ (J.go i H ∧ ∃ N : L2.St → Hp → Prop, (∀ σ' H', N σ' H' → ∃ m', m' < m ∧ W (i + 1) m' σ' H') ∧ ∀ x H', J.yld i H x H' → g x σ H' fun σ2 H2 => tb { D with nx := N, ct := N, bk := D.nx } σ2 H2)
theorem w_for {wi : TI} {g : TG} {tb : TS} (q : wi σ H (kFor g tb D σ)) : tFor wi g tb D σ H := q
def kRng1 (R : It → Hp → Prop) : List V → Hp → Prop := fun vs H1 => ∃ j : Int, vs = [.int j] ∧ -(2 ^ 62) ≤ j ∧ j < 2 ^ 62 ∧ R (Itr 0 j.toNat) H1
theorem w_rng1 {ta : TA} {R : It → Hp → Prop} (q : ta σ H (kRng1 R)) : iRng1 ta σ H R := q
theorem w_kRng1 {j : Int} {R : It → Hp → Prop} (h0 : -(2 ^ 62) ≤ j) (h1 : j < 2 ^ 62) (q : R (Itr 0 j.toNat) H) : kRng1 R [.int j] H := ⟨j, rfl, h0, h1, q⟩
def kList (K : PySem.W.Frag) (R : It → Hp → Prop) : VK := fun x H1 => ∃ a, x = .ref a ∧ (∃ xs, SqL K H1 a xs) ∧ R (Itl K a) H1
theorem w_ilist {tl : TE} {R : It → Hp → Prop} (q : tl σ H (kList K R)) : iList K tl σ H R := q
theorem w_kList {a : Addr} {xs : List V} {R : It → Hp → Prop} (h : H a = some (.lst xs)) (q : R (Itl K a) H) : kList K R (.ref a) H := ⟨a, rfl, ⟨xs, SqL.of h⟩, q⟩
def kTupI (K : PySem.W.Frag) (R : It → Hp → Prop) : VK := fun x H1 => ∃ a, x = .ref a ∧ (∃ xs, SqT K H1 a xs) ∧ R (Itt K a) H1
theorem w_itup {tl : TE} {R : It → Hp → Prop} (q : tl σ H (kTupI K R)) : iTup K tl σ H R := q
theorem w_kTupI {a : Addr} {xs : List V} {R : It → Hp → Prop} (h : H a = some (.tup xs)) (q : R (Itt K a) H) : kTupI K R (.ref a) H := ⟨a, rfl, ⟨xs, SqT.of h⟩, q⟩
def kStr (R : It → Hp → Prop) : VK := fun v H1 => ∃ x, v = .str x ∧ R (Its x) H1
theorem w_istr {te : TE} {R : It → Hp → Prop} (q : te σ H (kStr R)) : iStr te σ H R := q
theorem w_kStr {x : Str} {R : It → Hp → Prop} (q : R (Its x) H) : kStr R (.str x) H := ⟨x, rfl, q⟩
def kEnum (K : PySem.W.Frag) (R : It → Hp → Prop) : List V → Hp → Prop := fun vs H1 => ∃ a xs, vs = [.ref a] ∧ SqL K H1 a xs ∧ R (Ite K a) H1
theorem w_ienum {ta : TA} {R : It → Hp → Prop} (q : ta σ H (kEnum K R)) : iEnum K ta σ H R := q
theorem w_kEnum {a : Addr} {xs : List V} {R : It → Hp → Prop} (h : H a = some (.lst xs)) (q : R (Ite K a) H) : kEnum K R [.ref a] H := ⟨a, xs, rfl, SqL.of h, q⟩
/-- a loop: what holds ahead of turn i -/
theorem w_range {lo : Int} {n : Nat} {g : TG} {tb : TS} {nx : L2.St → Hp → Prop} {rt : VK} {bk ct : L2.St → Hp → Prop} (Pv : Nat → L2.St → Hp → Prop) (h0 : Pv 0 σ H)
    (hs : ∀ i σ H, i < n → Pv i σ H → g (.int (lo + i)) σ H fun σ2 H2 => tb ⟨Pv (i + 1), rt, nx, Pv (i + 1)⟩ σ2 H2) (hd : ∀ σ H, Pv n σ H → nx σ H) : kFor g tb ⟨nx, rt, bk, ct⟩ σ (Itr lo n) H :=
  for_range (lo := lo) (n := n) Pv h0 hs hd
theorem w_list {a : Addr} {xs : List V} {g : TG} {tb : TS} {nx : L2.St → Hp → Prop} {rt : VK} {bk ct : L2.St → Hp → Prop} (Pv : Nat → L2.St → Hp → Prop) (h0 : Pv 0 σ H) (hl : ∀ i σ H, i ≤ xs.length → Pv i σ H → H a = some (.lst xs))
    (hs : ∀ i x σ H, xs[i]? = some x → Pv i σ H → g x σ H fun σ2 H2 => tb ⟨Pv (i + 1), rt, nx, Pv (i + 1)⟩ σ2 H2) (hd : ∀ σ H, Pv xs.length σ H → nx σ H) : kFor g tb ⟨nx, rt, bk, ct⟩ σ (Itl K a) H :=
  for_list (K := K) (a := a) (xs := xs) Pv h0 (fun i σ H hi p => SqL.of (hl i σ H hi p)) hs hd
theorem w_tupF {a : Addr} {xs : List V} {g : TG} {tb : TS} {nx : L2.St → Hp → Prop} {rt : VK} {bk ct : L2.St → Hp → Prop} (Pv : Nat → L2.St → Hp → Prop) (h0 : Pv 0 σ H) (hl : ∀ i σ H, i ≤ xs.length → Pv i σ H → H a = some (.tup xs))
    (hs : ∀ i x σ H, xs[i]? = some x → Pv i σ H → g x σ H fun σ2 H2 => tb ⟨Pv (i + 1), rt, nx, Pv (i + 1)⟩ σ2 H2) (hd : ∀ σ H, Pv xs.length σ H → nx σ H) : kFor g tb ⟨nx, rt, bk, ct⟩ σ (Itt K a) H := by
  refine for_gen (n := xs.length) Pv h0 (fun i σ H hi p => ⟨xs, xs[i], SqT.of (hl i σ H (Nat.le_of_lt hi) p), List.getElem?_eq_getElem hi⟩) (fun σ H p => ⟨xs, SqT.of (hl _ σ H (Nat.le_refl _) p), Nat.le_refl _⟩) ?_ hd
  rintro i v σ H H' hi p ⟨rfl, hx⟩
  exact hs i v σ H' (hx xs (SqT.of (hl i σ H' (Nat.le_of_lt hi) p))) p
theorem w_str {x : Str} {g : TG} {tb : TS} {nx : L2.St → Hp → Prop} {rt : VK} {bk ct : L2.St → Hp → Prop} (Pv : Nat → L2.St → Hp → Prop) (h0 : Pv 0 σ H)
    (hs : ∀ i c σ H, (tl x)[i]? = some c → Pv i σ H → g (.str (one c)) σ H fun σ2 H2 => tb ⟨Pv (i + 1), rt, nx, Pv (i + 1)⟩ σ2 H2) (hd : ∀ σ H, Pv (tl x).length σ H → nx σ H) : kFor g tb ⟨nx, rt, bk, ct⟩ σ (Its x) H := by
  have hz : x.cps.size = (tl x).length := len_tl x
  refine for_gen (n := x.cps.size) Pv h0 (fun i σ H hi _ => hi) (fun σ H _ => Nat.le_refl _) ?_ (fun σ H p => hd σ H (by rw [← hz]; exact p))
  rintro i v σ H H' hi p ⟨rfl, c, hc, rfl⟩
  exact hs i c σ H' (getElem?_of_cps hc) p
theorem w_enum {a : Addr} {xs : List V} {g : TG} {tb : TS} {nx : L2.St → Hp → Prop} {rt : VK} {bk ct : L2.St → Hp → Prop} (Pv : Nat → L2.St → Hp → Prop) (h0 : Pv 0 σ H) (hl : ∀ i σ H, i ≤ xs.length → Pv i σ H → H a = some (.lst xs))
    (hs : ∀ i x t σ H H1, xs[i]? = some x → Pv i σ H → H1 t = some (.tup [.int (i : Nat), x]) → Nw t H H1 → g (.ref t) σ H1 fun σ2 H2 => tb ⟨Pv (i + 1), rt, nx, Pv (i + 1)⟩ σ2 H2) (hd : ∀ σ H, Pv xs.length σ H → nx σ H) : kFor g tb ⟨nx, rt, bk, ct⟩ σ (Ite K a) H := by
  refine for_gen (n := xs.length) Pv h0 (fun i σ H hi p => ⟨xs, xs[i], SqL.of (hl i σ H (Nat.le_of_lt hi) p), List.getElem?_eq_getElem hi⟩) (fun σ H p => ⟨xs, SqL.of (hl _ σ H (Nat.le_refl _) p), Nat.le_refl _⟩) ?_ hd
  rintro i v σ H H' hi p ⟨t, x, rfl, nt, rfl, hx⟩
  exact hs i x t σ H _ (hx xs (SqL.of (hl i σ H (Nat.le_of_lt hi) p))) p upd_same (.mk' nt)
/-! comprehensions -/
def kLc (g : TG) (tt : TT) (te : TE) (vs : List Nat) (σ : L2.St) (Q : VK) : It → Hp → Prop := fun J H1 => ∀ D, H1 D = none → ∃ W : Nat → Nat → Hp → Prop, (∃ m, W 0 m (upd H1 D (.lst []))) ∧ ∀ i m H, W i m H →
  (J.stop i H ∧ Q (.ref D) H) ∨ (J.go i H ∧ ∃ Nx : Hp → Prop, (∀ H', Nx H' → ∃ m', m' < m ∧ W (i + 1) m' H') ∧ ∀ x H', J.yld i H x H' → g x (wipe σ vs) H' fun σ2 H2 => wipe σ2 vs = wipe σ vs ∧ tt σ2 H2 fun b H3 =>
    if b = true then te σ2 H3 fun y H4 => ∃ acc, H4 D = some (.lst acc) ∧ acc.length < sizeLine ∧ Nx (upd H4 D (.lst (acc ++ [y]))) else Nx H3)
theorem w_lc {wi : TI} {g : TG} {tt : TT} {te : TE} {vs : List Nat} (q : wi σ H (kLc g tt te vs σ Q)) : tLc wi g tt te vs σ H Q := q
/-- what an item of the list does: the item, then the list -/
def kIt (D : Addr) (N : Hp → Prop) : VK := fun y H4 => ∃ acc, H4 D = some (.lst acc) ∧ acc.length < sizeLine ∧ N (upd H4 D (.lst (acc ++ [y])))
theorem w_kIt {p : Addr} {N : Hp → Prop} {acc : List V} {y : V} (h : H p = some (.lst acc)) (hl : acc.length < sizeLine) (k : ∀ H5, H5 p = some (.lst (acc ++ [y])) → Of p H H5 → N H5) : kIt p N y H := ⟨acc, h, hl, k _ upd_same .mk'⟩
def kTst (te : TE) (σ : L2.St) (D : Addr) (N : Hp → Prop) : Bool → Hp → Prop := fun b H3 => if b = true then te σ H3 (kIt D N) else N H3
theorem w_yes {Q : Bool → Hp → Prop} (q : Q true H) : tYes σ H Q := q
theorem w_tstT {te : TE} {p : Addr} {N : Hp → Prop} (q : te σ H (kIt p N)) : kTst te σ p N true H := iteT q
theorem w_tstF {te : TE} {p : Addr} {N : Hp → Prop} (q : N H) : kTst te σ p N false H := iteF q
theorem w_tst2 {c : Prop} [Decidable c] {te : TE} {p : Addr} {N : Hp → Prop} (h1 : c → te σ H (kIt p N)) (h2 : ¬ c → N H) : kTst te σ p N (decide c) H :=
  ite2 (fun e => h1 (of_decide_eq_true e)) fun e => h2 fun z => e (decide_eq_true z)
theorem w_tstB {b : Bool} {te : TE} {p : Addr} {N : Hp → Prop} (h1 : b = true → te σ H (kIt p N)) (h2 : b = false → N H) : kTst te σ p N b H := by
  cases b with
  | true => exact iteT (h1 rfl)
  | false => exact iteF (h2 rfl)
def kEach (tt : TT) (te : TE) (vs : List Nat) (σ : L2.St) (D : Addr) (N : Hp → Prop) : L2.St → Hp → Prop := fun σ2 H2 => wipe σ2 vs = wipe σ vs ∧ tt σ2 H2 (kTst te σ2 D N)
theorem w_each {tt : TT} {te : TE} {vs : List Nat} {σ σ2 : L2.St} {p : Addr} {N : Hp → Prop} (e : wipe σ2 vs = wipe σ vs) (q : tt σ2 H (kTst te σ2 p N)) : kEach tt te vs σ p N σ2 H := ⟨e, q⟩
/-- a comprehension by what holds ahead of item i; p: where the made list stands -/
theorem w_lcG {J : It} {n : Nat} {g : TG} {tt : TT} {te : TE} {vs : List Nat} (Pv : Addr → Nat → Hp → Prop) (h0 : ∀ p H1, H1 p = some (.lst []) → Nw p H H1 → Pv p 0 H1)
    (hgo : ∀ p i H, i < n → Pv p i H → J.go i H) (hst : ∀ p H, Pv p n H → J.stop n H)
    (hs : ∀ p i x H H', i < n → Pv p i H → J.yld i H x H' → g x (wipe σ vs) H' (kEach tt te vs σ p (Pv p (i + 1)))) (hd : ∀ p H, Pv p n H → Q (.ref p) H) : kLc g tt te vs σ Q J H := fun p np =>
  lc_gen (n := n) (Pv p) (h0 p _ upd_same (.mk' np)) (hgo p) (hst p) (hs p) (hd p)
theorem w_lcL {a : Addr} {xs : List V} {g : TG} {tt : TT} {te : TE} {vs : List Nat} (Pv : Addr → Nat → Hp → Prop) (h0 : ∀ p H1, H1 p = some (.lst []) → Nw p H H1 → Pv p 0 H1)
    (hl : ∀ p i H, i ≤ xs.length → Pv p i H → H a = some (.lst xs)) (hs : ∀ p i x H, xs[i]? = some x → Pv p i H → g x (wipe σ vs) H (kEach tt te vs σ p (Pv p (i + 1)))) (hd : ∀ p H, Pv p xs.length H → Q (.ref p) H) : kLc g tt te vs σ Q (Itl K a) H := by
  refine w_lcG (n := xs.length) Pv h0 (fun p i H hi h => ⟨xs, xs[i], SqL.of (hl p i H (Nat.le_of_lt hi) h), List.getElem?_eq_getElem hi⟩) (fun p H h => ⟨xs, SqL.of (hl p _ H (Nat.le_refl _) h), Nat.le_refl _⟩) ?_ hd
  rintro p i x H H' hi h ⟨rfl, hx⟩
  exact hs p i x H' (hx xs (SqL.of (hl p i H' (Nat.le_of_lt hi) h))) h
theorem w_lcR {lo : Int} {n : Nat} {g : TG} {tt : TT} {te : TE} {vs : List Nat} (Pv : Addr → Nat → Hp → Prop) (h0 : ∀ p H1, H1 p = some (.lst []) → Nw p H H1 → Pv p 0 H1)
    (hs : ∀ p i H, i < n → Pv p i H → g (.int (lo + i)) (wipe σ vs) H (kEach tt te vs σ p (Pv p (i + 1)))) (hd : ∀ p H, Pv p n H → Q (.ref p) H) : kLc g tt te vs σ Q (Itr lo n) H := by
  refine w_lcG (n := n) Pv h0 (fun p i H hi h => hi) (fun p H h => Nat.le_refl _) ?_ hd
  rintro p i x H H' hi h ⟨rfl, rfl⟩
  exact hs p i H' hi h
theorem w_lcS {x : Str} {g : TG} {tt : TT} {te : TE} {vs : List Nat} (Pv : Addr → Nat → Hp → Prop) (h0 : ∀ p H1, H1 p = some (.lst []) → Nw p H H1 → Pv p 0 H1)
    (hs : ∀ p i c H, (tl x)[i]? = some c → Pv p i H → g (.str (one c)) (wipe σ vs) H (kEach tt te vs σ p (Pv p (i + 1)))) (hd : ∀ p H, Pv p (tl x).length H → Q (.ref p) H) : kLc g tt te vs σ Q (Its x) H := by
  have hz : x.cps.size = (tl x).length := len_tl x
  refine w_lcG (n := x.cps.size) Pv h0 (fun p i H hi h => hi) (fun p H h => Nat.le_refl _) ?_ (fun p H h => hd p H (by rw [← hz]; exact h))
  rintro p i v H H' hi h ⟨rfl, c, hc, rfl⟩
  exact hs p i c H' (getElem?_of_cps hc) h
end
end Sf
namespace Sf
open PySem PySem.Spec PyProof.Rows L2 TL
/-! ### data: lists, tuples compared -/
section
variable {K : PySem.W.Frag} {H : Hp}
theorem lay_all {α : Type} {f : α → PyData} : ∀ {l : List α}, (∀ x ∈ l, PyData.canLay0 (f x) = true) → PyData.canLayAll0 (l.map f) = true
  | [], _ => rfl
  | x :: l, h => by
    rw [List.map_cons, PyData.canLayAll0, h x List.mem_cons_self, lay_all fun y hy => h y (List.mem_cons_of_mem _ hy)]
    rfl
theorem depth_all {α : Type} {f : α → PyData} {k : Nat} : ∀ {l : List α}, (∀ x ∈ l, (f x).depth ≤ k) → PyData.depthAll (l.map f) ≤ k
  | [], _ => Nat.zero_le _
  | x :: l, h => by
    rw [List.map_cons, PyData.depthAll]
    exact Nat.max_le.mpr ⟨h x List.mem_cons_self, depth_all fun y hy => h y (List.mem_cons_of_mem _ hy)⟩
theorem dp_map {α : Type} {f : α → PyData} {vs : List V} {l : List α} (h : Paired (fun v x => Dp K H v (f x)) vs l) : DpAll K H vs (l.map f) := by
  induction h with
  | nil => exact .nil
  | cons r _ ih => exact .cons r ih
theorem shaped_list {α : Type} {f : α → PyData} {l : List α} (h1 : ∀ x ∈ l, PyData.canLay0 (f x) = true) (h2 : ∀ x ∈ l, (f x).depth ≤ 60) : SeqAt.shaped (.list (l.map f)) = true := by
  unfold SeqAt.shaped
  rw [PyData.canLay0, lay_all h1, Bool.true_and, PyData.depth]
  have := depth_all h2
  exact decide_eq_true (by omega)
theorem strOk_wd {x : Str} (h : Wd x) : PyData.canLay0 (.str x) = true := by
  rw [PyData.canLay0]
  unfold PyData.strOk
  rw [Array.all_eq_true']
  intro c hc
  have := sgn_lt (h c (Array.mem_def.mp hc))
  exact decide_eq_true (by omega)
theorem eqv_nil {ds : List PyData} : PyData.eqv (.list ds) (.list []) = ds.isEmpty := by
  cases ds <;> simp [PyData.eqv, PyData.eqvAll]
/-- l != [] -/
theorem w_neNil {Q : VK} {p q : Addr} {ds : List PyData} {vs : List V} (h : H p = some (.lst vs)) (hd : DpAll K H vs ds) (hs : SeqAt.shaped (.list ds) = true) (hq : H q = some (.lst [])) (k : Q (.bl (!ds.isEmpty)) H) : rNeD K (.ref p) (.ref q) H Q :=
  ⟨_, _, .lst (SqL.of h) hd, .lst (SqL.of hq) .nil, hs, by decide +kernel, by rw [eqv_nil]; exact k⟩
theorem dpI : ∀ l : List Int, DpAll K H (l.map V.int) (l.map .int)
  | [] => .nil
  | _ :: l => .cons (.int _) (dpI l)
theorem shapedI (l : List Int) : SeqAt.shaped (.list (l.map .int)) = true := shaped_list (fun x _ => by rw [PyData.canLay0]) (fun x _ => by rw [PyData.depth]; omega)
theorem w_neNilI {Q : VK} {p q : Addr} {ns : List Int} (h : H p = some (.lst (ns.map V.int))) (hq : H q = some (.lst [])) (k : Q (.bl (!ns.isEmpty)) H) : rNeD K (.ref p) (.ref q) H Q :=
  w_neNil h (dpI ns) (shapedI ns) hq (by rw [List.isEmpty_map]; exact k)
/-- two lists of the same data -/
theorem w_neSame {Q : VK} {x y : V} {d : PyData} (h1 : Dp K H x d) (h2 : Dp K H y d) (hs : SeqAt.shaped d = true) (k : Q (.bl false) H) : rNeD K x y H Q :=
  ⟨d, d, h1, h2, hs, hs, by rw [SeqAt.eqv_refl d (SeqAt.canLay_of_shaped hs)]; exact k⟩
theorem w_eqSame {Q : VK} {x y : V} {d : PyData} (h1 : Dp K H x d) (h2 : Dp K H y d) (hs : SeqAt.shaped d = true) (k : Q (.bl true) H) : rEqD K x y H Q :=
  ⟨d, d, h1, h2, hs, hs, by rw [SeqAt.eqv_refl d (SeqAt.canLay_of_shaped hs)]; exact k⟩
end
end Sf
namespace Sf
open PySem PySem.Spec PyProof.Rows L2 TL
theorem passes_len {X : Cx} {W : WX} (n : Nat) (hn : X.N.length = n) (tk : Takes X W) : Passes (L2.CX X.prog X.w) X (fun cls d H => ∀ σ : L2.St, σ.length = n → W cls d σ H) := fun _ σ _ _ e s' I c => tk e s' (XE.of_call I (fun _ _ _ h => h σ (I.len.trans hn)) c)
section
variable {X : Cx} {CX : CXT} {k : Nat} {f C : Addr} {fd : FuncData} {ps : List Str} {sp : Sp} {E : XK} {x m : Str} {p pos apos : Pos} {e o : Expr} {es : List Expr} {te ta : TE} {t : TA} {mc : Value}
/-! ### C(), C an own exception whose __init__ is walked -/
theorem pmk_oex0 {fI : Addr} (T : OexC X.K C) (iC : PySem.W.findIn X.K (.ref C) "__init__" = some (some (.ref fI))) (tI : PySem.W.typeIn X.K (.ref fI) = some (.type "function"))
    (F1 : FnOk X.prog X.w X.K X.mg X.base CX k fI fd ps sp) (hr : Room (k + 1) X.A) (hb : Binds X.K fd ps []) (hx : Passes CX X (fun _ _ _ => False)) (hg : Gl X x) (hm : X.mg x = some (.ref C))
    (hdb : (x == ("__debug__" : Str)) = false := by decide) : PMk X (.Call (.Name x p) [] [] pos) (tMkO C sp [] tNil) := by
  intro pins s σ H Q I h
  obtain ⟨nm, q, N, bs, bm, sn, sub, ab, col, dd, k0, k1, k2, k3, k5, hC, hbm⟩ := T.cls
  refine wpAny_Call_Name_kw (ld_glob I hg hm ?_ hdb)
  refine PySem.W.callWith_K0 I.kIn T.kC ?_
  show wpAny _ _ (call (.ref C) []) _ _ _
  obtain ⟨hz, q1⟩ := h
  obtain ⟨hp, g, dr, tk, os⟩ := s
  have hsz : hp.objs.size ≤ hp.objs.size + 1 := Nat.le_succ _
  have hn : H (hp.objs.size + 1) = none := I.hok.fresh hsz
  have hq := q1 (hp.objs.size + 1) hn
  have kk : ∀ b o, hp.get? b = some o → ((hp.push (PySem.W.kdv_tup [])).push (PySem.HandSPX.excO C hp.objs.size)).get? b = some o := fun b o e => Heap.get?_push_of_some _ (Heap.get?_push_of_some _ e)
  have hget : ((hp.push (PySem.W.kdv_tup [])).push (PySem.HandSPX.excO C hp.objs.size)).get? (hp.objs.size + 1) = some (PySem.HandSPX.excO C hp.objs.size) := by heap_get
  have I2 : Inv X pins σ (upd H (hp.objs.size + 1) (exo (hp.objs.size + 1) C none)) ⟨(hp.push (PySem.W.kdv_tup [])).push (PySem.HandSPX.excO C hp.objs.size), g, dr, tk, os⟩ :=
    I.laid (t' := tk) (a := hp.objs.size + 1) (o := exo (hp.objs.size + 1) C none) (h' := (hp.push (PySem.W.kdv_tup [])).push (PySem.HandSPX.excO C hp.objs.size)) kk hsz (exo_ok hget)
  have r2 : Vals [V.ref (hp.objs.size + 1)] [Value.ref (hp.objs.size + 1)] := .cons rfl .nil
  have hl : [Value.ref (hp.objs.size + 1)].length = ps.length := by
    have e : [V.ref (hp.objs.size + 1)].length = ps.length := F1.len _ _ _ _ hq
    exact e
  refine wpAny_call (PySem.HandSPX.call_own F.excBase_ValueError (fun Y => PySem.HandSPX.refsVE_contains Y bm hbm) (I.kIn _ _ hC) (PySem.W.looks_findIn I.kIn iC) (fun self => PySem.W.bind_fn I.kIn self tI) (by decide)
    (codeAny_mono (F1.run _ X.stack _ _ ⟨[Value.ref (hp.objs.size + 1)], []⟩ [Value.ref (hp.objs.size + 1)] _ _ (fun _ _ _ => False) (hr.make C [] []) (I2.env0.make C [] []) (hb _ [Value.ref (hp.objs.size + 1)] I2.kIn hl) r2 hq) fun r s' hq' => ?_))
  cases r with
  | error er => exact hx pins σ _ _ er s' I2 hq'
  | ok fl =>
    cases fl with
    | ret u =>
      obtain ⟨v, H2, os2, bare2, un2, hok2, rv, ev, d, fs, ea, ed, hd1, q2⟩ := hq'
      subst ev
      obtain ⟨h2, g2, d2, t2, os'⟩ := s'
      exact ⟨rv, mk_end (raises_own T.exC T.tyC) I hsz kk un2 hok2 os2 bare2 ea ed hd1 q2⟩
    | next => exact False.elim hq'
    | brk => exact False.elim hq'
    | cont => exact False.elim hq'
/-! ### C.m(..), C an own class, m a def of it -/
def tClsFn (C : Addr) (sp : Sp) (E : XK) (ta : TE) (t : TA) : TE := fun σ H Q => ta σ H fun x H1 => x = .ref C ∧ t σ H1 fun vs H2 => sp vs H2 Q E
theorem pe_clsFn {pl : Sem Bool} (he : PE X o ta) (rd : PySem.W.readsIn X.K C mc = true) (ga : PySem.W.specialIn X.K (.ref C) "__getattribute__" = some (some (.builtin "type.__getattribute__"))) (at_ : PySem.W.findCls X.K (.ref C) mc m = some (.val (.ref f)))
    (F : FnOk X.prog X.w X.K X.mg X.base CX k f fd ps sp) (hr : Room k X.A) (kp : PySem.W.keepIn X.K (.ref f) = true) (hb : Binds X.K fd ps []) (hx : Passes CX X E) (ha : PA X (e :: es) t)
    (hst : starEach (e :: es) X.env = (false, eval e X.env) :: starEach es X.env := by rfl) (hpl : (backTo pos (starEach es X.env)).any (·.1) = false := by rfl)
    (ht : eval (.Call (.Attribute o m apos) (e :: es) [] pos) X.env = (do
      let ov ← eval o X.env
      standAt apos.atName
      let (f, first) ← holding [ov] (getMethod ov m pl)
      callWith pos f first (backTo pos (starEach (e :: es) X.env)) (backToKw pos (keywordEach [] X.env))) := by rfl) :
    PE X (.Call (.Attribute o m apos) (e :: es) [] pos) (tClsFn C sp E ta t) := by
  refine ⟨fun pins s σ H Q I h => ?_⟩
  refine PySem.W.methodCall_KW (pl := pl) (thn (he.run pins s σ H _ I h) fun u s1 ⟨x, H1, I1, rx, ex, q⟩ => ?_) ht
  subst ex
  obtain rfl : u = Value.ref C := rx
  refine PySem.W.method_cls I1.kIn ga (PySem.W.cls_value I1.kIn rd at_ rfl ?_)
  refine PySem.W.callWith_K (h₀ := X.base) I1.ok.mod.kin kp (thn (ha.run pos pins _ σ H1 _ (I1.tok _) q) fun us s3 ⟨vs, H2, I3, rv, q2⟩ => ⟨I3.kIn, ?_⟩) hst hpl
  exact run_fn F hr hb (dvs := []) .nil hx I3 rv (by rw [List.append_nil]; exact q2)
end
end Sf
namespace Sf
open PySem PySem.Spec PyProof.Rows L2 TL
/-! ### a def with defaults -/
structure FunD (K : PySem.W.Frag) (x qual : Str) (st : Stmt) (f : Addr) (fd : FuncData) : Prop where
  ex : ∃ (oc : Value) (od : Option Addr) (dV kV doc pm : Value) (an : Option Addr) (cdv ct : Value) (osl : Array (Option Value)),
    fd = PySem.W.fnOf x qual (defArgs st) (defBody st) (defScope st) dV kV doc pm an cdv ct ∧ K.lookup f = some ⟨oc, od, .func fd, osl⟩ ∧ PySem.W.codeIn K cdv qual = true
  kp : PySem.W.keepIn K (.ref f) = true
theorem FunD.ok {P : Program} {w : World} {K : PySem.W.Frag} {mg : Str → Option Value} {base : Heap} {x qual : Str} {st : Stmt} {f : Addr} {fd : FuncData} {N ps : List Str} {k : Nat} {sp : Sp} (F : FunD K x qual st f fd) (S : FnScope N ps (defScope st)) (len : ∀ vs H Q E, sp vs H Q E → vs.length = ps.length)
    (hbody : ∀ (cdv : Value) (A : Around) (outer : List Env) (s : Shared) (H : Hp) (vs : List V) (Q : VK) (E : XK), Room k (A.deeper (envOfC qual (defScope st) s.heap.objs.size f cdv)) → sp vs H Q E →
      ∃ t, PSs (cxOf CX0 P w K mg base N qual (defScope st) f cdv A outer s H E).nox (defBody st) t ∧ t { nx := fun _ H' => Q .non H', rt := Q } (start N vs) H) : FnOk P w K mg base CX0 (k + 1) f fd ps sp := by
  obtain ⟨oc, od, dV, kV, doc, pm, an, cdv, ct, osl, rfl, lk, hcd⟩ := F.ex
  refine fn_of lk hcd S len fun A outer s H vs Q E hr hsp => ?_
  obtain ⟨t, h, q⟩ := hbody cdv A outer s H vs Q E hr hsp
  exact ⟨t, h.nox, q⟩
def FbD (K : PySem.W.Frag) (x qual : Str) (st : Stmt) (f : Addr) (ps : List Str) : Prop := ∃ fd, FunD K x qual st f fd ∧ Binds K fd ps []
def Fb (K : PySem.W.Frag) (x qual : Str) (st : Stmt) (f : Addr) (ps : List Str) : Prop := ∃ fd, Fun K x qual st f fd ∧ Binds K fd ps []
theorem fbD_mk {K : PySem.W.Frag} {x qual : Str} {st : Stmt} {f T : Addr} {ps : List Str} {oc : Value} {od an : Option Addr} {osl : Array (Option Value)} {kV doc pm cdv ct : Value} (l : K.lookup f = some ⟨oc, od, .func (PySem.W.fnOf x qual (defArgs st) (defBody st) (defScope st) (.ref T) kV doc pm an cdv ct), osl⟩)
    (c : PySem.W.codeIn K cdv qual = true) (k : PySem.W.keepIn K (.ref f) = true)
    (b : ∀ (kV doc pm : Value) (an : Option Addr) (cdv ct : Value) (s : Shared) (us : List Value), K.In s.heap → us.length = ps.length → BindsTo s (PySem.W.fnOf x qual (defArgs st) (defBody st) (defScope st) (.ref T) kV doc pm an cdv ct) ⟨us, []⟩ (ps.zip us)) : FbD K x qual st f ps :=
  ⟨_, ⟨⟨oc, od, .ref T, kV, doc, pm, an, cdv, ct, osl, rfl, l, c⟩, k⟩, fun s us X hl => by
    rw [List.append_nil] at hl ⊢
    exact b kV doc pm an cdv ct s us X hl⟩
theorem se_binds {K : PySem.W.Frag} {T : Addr} {o : Obj} {v1 v2 : Value} {n : Nat} (ho : K.lookup T = some o) (hs : o.data = .seq #[v1, v2] n) (kV doc pm : Value) (an : Option Addr) (cdv ct : Value) (s : Shared) (us : List Value) (X : K.In s.heap) (hl : us.length = 3) :
    BindsTo s (PySem.W.fnOf "__init__" "SpoorError.__init__" (defArgs s_SpoorError___init__) (defBody s_SpoorError___init__) (defScope s_SpoorError___init__) (.ref T) kV doc pm an cdv ct) ⟨us, []⟩ ((["self", "word", "message"] : List Str).zip us) := by
  match us, hl with
  | [_, _, _], _ => exact PySem.W.binds_K X rfl ho hs rfl rfl
theorem fb_mk {K : PySem.W.Frag} {x qual : Str} {st : Stmt} {f : Addr} {ps : List Str} {oc : Value} {od an : Option Addr} {osl : Array (Option Value)} {kV doc pm cdv ct : Value} (l : K.lookup f = some ⟨oc, od, .func (PySem.W.fnOf x qual (defArgs st) (defBody st) (defScope st) .none kV doc pm an cdv ct), osl⟩)
    (c : PySem.W.codeIn K cdv qual = true) (k : PySem.W.keepIn K (.ref f) = true) (b : ∀ (kV doc pm : Value) (an : Option Addr) (cdv ct : Value) (us : List Value), us.length = ps.length → bindArgs (PySem.W.fnOf x qual (defArgs st) (defBody st) (defScope st) .none kV doc pm an cdv ct) ⟨us, []⟩ = pure (ps.zip us)) : Fb K x qual st f ps :=
  ⟨_, fun_mk l c k, (fun_mk l c k).binds b⟩
theorem exm_self {K : PySem.W.Frag} {C : Addr} (h0 : PySem.W.subIn K (.ref C) (.type "BaseException") = some true) (h1 : PySem.W.isClsIn K C = true) (h2 : PySem.W.typeIn K (.ref C) = some (.type "type")) (h3 : PySem.W.subIn K (.ref C) (.ref C) = some true) : PySem.W.exmOne K (.ref C) (.ref C) = some true := by
  unfold PySem.W.exmOne
  rw [if_pos (by rw [h0]; rfl)]
  unfold PySem.W.isClsIn at h1
  unfold PySem.W.kitCls
  dsimp only
  rw [h1, h2, if_pos (by simp), h3]
/-! ### the refusals -/
/-- an own refusal, the class at C, its __init__ at f -/
structure EC (K : PySem.W.Frag) (mg : Str → Option Value) (nm : Str) (C f : Addr) : Prop where
  ox : OexC K C
  iC : PySem.W.findIn K (.ref C) "__init__" = some (some (.ref f))
  tI : PySem.W.typeIn K (.ref f) = some (.type "function")
  gC : mg nm = some (.ref C)
  xf : XfC K C
  nw : PySem.W.findIn K (.ref C) "word" = some none
  te : PySem.W.exmOne K (.ref C) (.ref C) = some true
theorem oex_mk {K : PySem.W.Frag} {C : Addr} {nm q : Str} {N : Addr} {bs bm : List Value} {sn : List Str} {sub : List Value} {ab : Bool} {col : Option Bool} {dd : Option Addr} {k0 k1 k2 k3 k5 : Option Value}
    (lk : K.lookup C = some (excClassObj nm q C N bs bm true sn sub ab col dd k0 k1 k2 k3 k5 "ValueError.__new__")) (rv : PySem.HandSPX.refsVE bm = true) (sa : PySem.W.findIn K (.ref C) "__setattr__" = some (some (.builtin "object.__setattr__"))) (ex : PySem.W.subIn K (.ref C) (.type "BaseException") = some true)
    (ty : PySem.W.typeIn K (.ref C) = some (.type "type")) (kC : PySem.W.keepIn K (.ref C) = true) : OexC K C := ⟨⟨nm, q, N, bs, bm, sn, sub, ab, col, dd, k0, k1, k2, k3, k5, lk, rv⟩, sa, ex, ty, kC⟩
/-- SpoorError itself -/
structure SE (K : PySem.W.Frag) (mg : Str → Option Value) (C f : Addr) : Prop where
  gC : mg "SpoorError" = some (.ref C)
  rd : PySem.W.readsIn K C (.type "type") = true
  ga : PySem.W.specialIn K (.ref C) "__getattribute__" = some (some (.builtin "type.__getattribute__"))
  at_ : PySem.W.findCls K (.ref C) (.type "type") "__init__" = some (.val (.ref f))
  vV : PySem.W.findCls K (.type "ValueError") (.type "type") "__init__" = some (.val (.builtin "ValueError.__init__"))
  mV : mg "ValueError" = none
section
variable {P : Program} {w : World} {K : PySem.W.Frag} {mg : Str → Option Value} {base : Heap} {C CS fS : Addr}
def spSE (K : PySem.W.Frag) : Sp := fun vs H Q _ => ∃ (a C : Addr) (z m : Str), vs = [.ref a, .str z, .str m] ∧ OexC K C ∧ PySem.W.findIn K (.ref C) "word" = some none ∧ H a = some (exo a C none) ∧
  ∀ dx, H dx = none → dx ≠ a → Q .non (upd (upd H dx (exd dx [(("word" : Str), .str z)])) a (exo a C (some dx)))
theorem sc_se : FnScope ["self", "word", "message"] ["self", "word", "message"] (defScope s_SpoorError___init__) := ⟨rfl, rfl, rfl, by decide +kernel, rfl, by decide +kernel, by decide +kernel⟩
theorem ok_se {f : Addr} {fd : FuncData} {j : Nat} (F : FunD K "__init__" "SpoorError.__init__" s_SpoorError___init__ f fd) (S : SE K mg CS fS) : FnOk P w K mg base CX0 (j + 1) f fd ["self", "word", "message"] (spSE K) := by
  refine F.ok sc_se (fun vs H Q E h => ?_) (fun cdv A outer s H vs Q E hr h => ?_)
  · obtain ⟨a, C, z, m, rfl, _⟩ := h
    rfl
  · obtain ⟨a, C, z, m, rfl, ox, nw, ha, q⟩ := h
    refine ⟨_, pss_cons (ps_expr (pe_veinit (by rfl) S.mV S.vV (pa_cons (pv 0) (pa_cons (pv 2) pa_nil)))) (pss_one (ps_ost (pv 0) (pv 1))), ?_⟩
    refine ⟨_, rfl, _, rfl, a, C, _, rfl, (by show 1 ≤ 1000; decide), ox, ha, ?_⟩
    exact ⟨_, rfl, _, rfl, a, C, rfl, ox, nw, .inl ⟨ha, fun dx n ne => q dx n ne⟩⟩
/-- X.__init__(self): the word of X -/
def spEx (K : PySem.W.Frag) (z : Str) : Sp := fun vs H Q _ => ∃ (a C : Addr), vs = [.ref a] ∧ OexC K C ∧ PySem.W.findIn K (.ref C) "word" = some none ∧ H a = some (exo a C none) ∧
  ∀ dx, H dx = none → dx ≠ a → Q .non (upd (upd H dx (exd dx [(("word" : Str), .str z)])) a (exo a C (some dx)))
theorem w_mkO {H : Hp} {σ : L2.St} {W : XK} {z nm : Str} {f : Addr} (T : EC K mg nm C f) (k : ∀ (d : Addr) (H' : Hp), H d = none → H' d = some (.xd [(("word" : Str), .str z)]) → Same H H' → W (.ref C) (some d) H') : tMkO C (spEx K z) [] tNil σ H W := by
  refine ⟨by show 0 ≤ 1000; decide, fun a na => ⟨a, C, rfl, T.ox, T.nw, upd_same, fun dx n ne => ⟨rfl, dx, _, upd_same, ?_, ?_, k dx _ ?_ upd_same fun b o e => ?_⟩⟩⟩
  · rw [upd_ne ne, upd_same]
  · rw [upd_ne ne] at n
    exact n
  · rw [upd_ne ne] at n
    exact n
  · rw [upd_ne ne] at n
    rw [upd_ne (ne_of_none e n), del_ne (ne_of_none e na), upd_ne (ne_of_none e na), upd_ne (ne_of_none e n), upd_ne (ne_of_none e na)]
    exact e
end
end Sf
set_option hygiene false
/-! heap look-ups: hp; unlike addresses: ne; steps: st, go -/
local macro_rules | `(tactic| walk_at "hp") => `(tactic| first
  | assumption
  | (refine Sf.Nw.at (by assumption) ?_; walk_at "hp")
  | (refine L2.Same.at (by assumption) ?_; walk_at "hp")
  | (refine Sf.Of.at (by assumption) ?_ ?_; (case refine_1 => walk_at "ne"); (case refine_2 => walk_at "hp"))
  | (refine Sf.Fx.at (by assumption) ?_ ?_; (case refine_1 => walk_at "ne"); (case refine_2 => walk_at "hp")))
local macro_rules | `(tactic| walk_at "ne") => `(tactic| first
  | assumption
  | exact Ne.symm (by assumption)
  | exact Sf.Nw.ne (by assumption) (by walk_at "hp")
  | exact (Sf.Nw.ne (by assumption) (by walk_at "hp")).symm)
local macro_rules | `(tactic| walk_at "sm") => `(tactic| first
  | assumption
  | exact L2.Same.refl _
  | (refine L2.Same.nw ?_ (by assumption); walk_at "sm")
  | (refine L2.Same.trans ?_ (by assumption); walk_at "sm"))
local macro_rules | `(tactic| walk_at "bg") => `(tactic| first
  | assumption
  | (refine Sf.Bag.nw ?_ (by assumption); walk_at "bg")
  | (refine Sf.Bag.same (by assumption) ?_; walk_at "bg"))
local macro_rules | `(tactic| walk_at "fx") => `(tactic| first
  | assumption
  | exact Sf.Fx.refl
  | (refine Sf.Fx.nw ?_ (by assumption); walk_at "fx")
  | (refine Sf.Fx.same ?_ (by assumption); walk_at "fx")
  | (refine Sf.Fx.trans ?_ (by assumption); walk_at "fx"))
local macro_rules | `(tactic| walk_at "sz") => `(tactic| first
  | decide
  | (simp only [List.length_cons, List.length_nil, Nat.zero_add]; decide))
local macro_rules | `(tactic| walk_at "s0") => `(tactic| first
  | with_reducible refine Sf.w_var rfl ?_
  | with_reducible refine Sf.w_c ?_
  | with_reducible refine Sf.w_cons ?_
  | with_reducible refine Sf.w_nil ?_
  | with_reducible refine Sf.w_op ?_
  | with_reducible refine Sf.w_asg ?_
  | with_reducible refine Sf.w_gn ?_
  | with_reducible refine Sf.w_call ?_
  | with_reducible refine Sf.w_cb ?_
  | with_reducible refine Sf.w_if ?_
  | with_reducible refine Sf.w_test ?_
  | with_reducible refine Sf.w_tB ?_
  | with_reducible refine Sf.w_kB ?_
  | with_reducible refine Sf.w_i0 ?_
  | with_reducible refine Sf.w_eqI ?_
  | with_reducible refine Sf.w_neI ?_
  | with_reducible refine Sf.w_eqS ?_
  | with_reducible refine Sf.w_neS ?_
  | with_reducible refine Sf.w_eqB ?_
  | with_reducible refine Sf.w_neB ?_
  | with_reducible refine Sf.w_inSg ?_
  | with_reducible refine Sf.w_notInSg ?_
  | with_reducible refine Sf.w_isNI ?_
  | with_reducible refine Sf.w_isNN ?_
  | with_reducible refine Sf.w_isN ?_
  | with_reducible refine Sf.w_notNI ?_
  | with_reducible refine Sf.w_notNN ?_
  | with_reducible refine Sf.w_notN ?_
  | with_reducible refine Sf.w_un ?_
  | with_reducible refine Sf.w_u ?_
  | with_reducible refine Sf.w_sl ?_
  | with_reducible refine Sf.w_nopart ?_
  | with_reducible refine Sf.w_part ?_
  | with_reducible refine Sf.w_kpart ?_
  | with_reducible refine Sf.w_and ?_
  | with_reducible refine Sf.w_or ?_
  | with_reducible refine Sf.w_not ?_
  | with_reducible refine Sf.w_kNotT ?_
  | with_reducible refine Sf.w_kNotF ?_
  | with_reducible refine Sf.w_kNotN ?_
  | with_reducible refine Sf.w_kNot ?_
  | with_reducible refine Sf.w_andT ?_
  | with_reducible refine Sf.w_andF ?_
  | with_reducible refine Sf.w_orT ?_
  | with_reducible refine Sf.w_orF ?_
  | with_reducible refine Sf.w_andV ?_
  | with_reducible refine Sf.w_andVT ?_
  | with_reducible refine Sf.w_andVF ?_
  | with_reducible refine Sf.w_orV ?_
  | with_reducible refine Sf.w_notV ?_
  | with_reducible refine Sf.w_kNotVT ?_
  | with_reducible refine Sf.w_kNotVF ?_
  | with_reducible refine Sf.w_kNotV ?_
  | with_reducible refine Sf.w_ifE ?_
  | with_reducible refine Sf.w_ifET ?_
  | with_reducible refine Sf.w_ifEF ?_
  | with_reducible refine Sf.w_ifT ?_
  | with_reducible refine Sf.w_ifF ?_
  | with_reducible refine Sf.w_chain ?_
  | with_reducible refine Sf.w_lst ?_
  | with_reducible refine Sf.w_tup ?_
  | with_reducible refine Sf.w_drop ?_
  | with_reducible refine Sf.w_ret ?_
  | with_reducible refine Sf.w_retN ?_
  | with_reducible refine Sf.w_next ?_
  | with_reducible refine Sf.w_break ?_
  | with_reducible refine Sf.w_cont ?_
  | with_reducible refine Sf.w_meth ?_
  | with_reducible refine Sf.w_make ?_
  | with_reducible refine Sf.w_fld ?_
  | with_reducible refine Sf.w_sfld ?_
  | with_reducible refine Sf.w_bm ?_
  | with_reducible refine Sf.w_bm0 ?_
  | ((with_reducible refine' Sf.w_kbmL ?hp_ ?_); (case hp_ => walk_at "hp"))
  | with_reducible refine Sf.w_m0 ?_
  | with_reducible refine Sf.w_kM0 ?_
  | with_reducible refine Sf.w_m1 ?_
  | with_reducible refine Sf.w_kM1 ?_
  | with_reducible refine Sf.w_par ?_
  | with_reducible refine Sf.w_kPar ?_
  | with_reducible refine Sf.w_gcons ?_
  | with_reducible refine Sf.w_gnil ?_
  | with_reducible refine Sf.w_gsub ?_
  | with_reducible refine Sf.w_for ?_
  | with_reducible refine Sf.w_rng1 ?_
  | with_reducible refine Sf.w_ilist ?_
  | with_reducible refine Sf.w_itup ?_
  | with_reducible refine Sf.w_istr ?_
  | with_reducible refine Sf.w_kStr ?_
  | with_reducible refine Sf.w_ienum ?_
  | with_reducible refine Sf.w_lc ?_
  | with_reducible refine Sf.w_yes ?_
  | with_reducible refine Sf.w_tstT ?_
  | with_reducible refine Sf.w_tstF ?_
  | with_reducible refine Sf.w_each rfl ?_
  | with_reducible refine Sf.w_dget ?_
  | with_reducible refine Sf.w_din ?_
  | with_reducible refine Sf.w_dnotin ?_
  | ((with_reducible refine' Sf.w_kDInI ?hp_ ?_); (case hp_ => walk_at "hp"))
  | ((with_reducible refine' Sf.w_kDInS ?hp_ ?_); (case hp_ => walk_at "hp"))
  | ((with_reducible refine' Sf.w_kDNotInI ?hp_ ?_); (case hp_ => walk_at "hp"))
  | ((with_reducible refine' Sf.w_kDNotInS ?hp_ ?_); (case hp_ => walk_at "hp"))
  | with_reducible refine Sf.w_dget1 ?_
  | ((with_reducible refine' Sf.w_kDGet1 ?hp_ ?_); (case hp_ => walk_at "hp"))
  | ((with_reducible refine' Sf.w_kDGet1I ?hp_ ?_); (case hp_ => walk_at "hp"))
  | ((with_reducible refine' Sf.w_kDGet1S ?hp_ ?_); (case hp_ => walk_at "hp"))
  | with_reducible refine Sf.w_sdput ?_
  | with_reducible refine Sf.w_dc ?_
  | with_reducible refine Sf.w_tstDT ?_
  | with_reducible refine Sf.w_eachD rfl ?_
  | with_reducible refine Sf.w_lstRg ?_
  | with_reducible refine Sf.w_min2 ?_
  | with_reducible refine Sf.w_max2 ?_
  | with_reducible refine Sf.w_starts ?_
  | with_reducible refine Sf.w_ends ?_
  | with_reducible refine Sf.w_rg1 ?_
  | with_reducible refine Sf.w_kRg1 ?_
  | with_reducible refine Sf.w_aug rfl ?_
  | with_reducible refine Sf.w_ipI ?_
  | with_reducible refine Sf.w_isi_int_int ?_
  | with_reducible refine Sf.w_isi_int_bool ?_
  | with_reducible refine Sf.w_isi_int_str ?_
  | with_reducible refine Sf.w_isi_str_int ?_
  | with_reducible refine Sf.w_isi_str_bool ?_
  | with_reducible refine Sf.w_isi_str_str ?_
  | with_reducible refine Sf.w_isi_bool_int ?_
  | with_reducible refine Sf.w_isi_bool_bool ?_
  | with_reducible refine Sf.w_isi_bool_str ?_
  | with_reducible refine Sf.w_isi_NoneType_int ?_
  | with_reducible refine Sf.w_isi_NoneType_str ?_
  | with_reducible refine Sf.w_isi_NoneType_bool ?_
  | ((with_reducible refine' Sf.w_lenL ?hp_ ?_); (case hp_ => walk_at "hp"))
  | ((with_reducible refine' Sf.w_lenT ?hp_ ?_); (case hp_ => walk_at "hp"))
  | ((with_reducible refine' Sf.w_lenD ?hp_ ?_); (case hp_ => walk_at "hp"))
  | ((with_reducible refine' Sf.w_kList ?hp_ ?_); (case hp_ => walk_at "hp"))
  | ((with_reducible refine' Sf.w_kTupI ?hp_ ?_); (case hp_ => walk_at "hp"))
  | ((with_reducible refine' Sf.w_kEnum ?hp_ ?_); (case hp_ => walk_at "hp"))
  | ((with_reducible refine' Sf.w_ixT ?hp_ ?rf_ ?_); (case hp_ => walk_at "hp"); (case rf_ => exact rfl))
  | ((with_reducible refine' Sf.w_ixL ?hp_ ?rf_ ?_); (case hp_ => walk_at "hp"); (case rf_ => exact rfl))
  | ((with_reducible refine' Sf.w_gtup ?hp_ ?rf_ ?_); (case hp_ => walk_at "hp"); (case rf_ => exact rfl)))
local macro_rules | `(tactic| walk_at "gs") => `(tactic| repeat walk_at "s0")
local macro_rules | `(tactic| walk_at "go") => `(tactic| repeat (first | walk_at "s0" | with_reducible refine Sf.w_seq ?_))
namespace Sf
open PySem PySem.Spec PyProof.Rows L2 TL
section
variable {P : Program} {w : World} {K : PySem.W.Frag} {mg : Str → Option Value} {base : Heap}
/-! ### is_upto -/
def upB : V → Int → Bool
  | .int i, m => decide (0 ≤ i) && decide (i ≤ m)
  | _, _ => false
def flat3 : V → Prop
  | .bl _ => True
  | .int _ => True
  | .str _ => True
  | _ => False
def spUp : Sp := fun vs H Q _ => ∃ (v : V) (m : Int), vs = [v, .int m] ∧ flat3 v ∧ Q (.bl (upB v m)) H
abbrev HasUp (P : Program) (w : World) (K : PySem.W.Frag) (mg : Str → Option Value) (base : Heap) : Prop := Has P w K mg base 1 "is_upto" ["thing", "most"] spUp
theorem sc_up : FnScope ["thing", "most"] ["thing", "most"] (defScope s_is_upto) := ⟨rfl, rfl, rfl, by decide +kernel, rfl, by decide +kernel, by decide +kernel⟩
theorem has_up (F : FnAt K mg "is_upto" s_is_upto ["thing", "most"]) (B : Blt mg) : HasUp P w K mg base := F.has fun F => by
  refine F.ok sc_up (fun vs H Q E h => ?_) (fun cdv A outer s H vs Q E hr h => ?_)
  · obtain ⟨v, m, rfl, _⟩ := h
    rfl
  · obtain ⟨v, m, rfl, hv, q⟩ := h
    refine ⟨_, (pss_one (ps_ret (pe_and (pe_callB call_isi (by rfl) B.isinstance (by decide +kernel) (pa_cons (pv 0) (pa_cons (pe_bltn (v := .ty "int") (by rfl) B.int (by decide +kernel) rfl) pa_nil))) (pe_and (pe_not (pe_callB call_isi (by rfl) B.isinstance (by decide +kernel) (pa_cons (pv 0) (pa_cons (pe_bltn (v := .ty "bool") (by rfl) B.bool (by decide +kernel) rfl) pa_nil)))) (pe_one (pe_chain op_le op_le pe_int (pv 0) (pv 1))))))), ?_⟩
    cases v with
    | int i =>
      walk_at "go"
      refine w_chain2 (fun h0 => ?_) (fun h0 => ?_)
      · walk_at "go"
        rw [upB, decide_eq_true h0, Bool.true_and] at q
        exact q
      · walk_at "go"
        rw [upB, decide_eq_false h0, Bool.false_and] at q
        exact q
    | bl b =>
      walk_at "go"
      exact q
    | str x =>
      walk_at "go"
      exact q
    | non => exact hv.elim
    | byt b => exact hv.elim
    | flt b => exact hv.elim
    | ref b => exact hv.elim
    | ty b => exact hv.elim
end
end Sf
namespace Sf
open PySem PySem.Spec PyProof.Rows L2 TL
theorem cut3s (z : Str) {a b : Int} (h0 : 0 ≤ a) (h1 : a ≤ b) (h2 : b ≤ z.length) : z = cutS z none (some a) ++ cutS z (some a) (some b) ++ cutS z (some b) none ∧ cutS z none (some b) = cutS z none (some a) ++ cutS z (some a) (some b) := by
  have hz : z.length = (tl z).length := len_tl z
  have ix : ∀ c : Int, 0 ≤ c → c ≤ z.length → HT.sIx z.length 0 (some c) = c.toNat ∧ HT.sIx z.length z.length (some c) = c.toNat := fun c c0 c1 => by
    have e : (if c < 0 then (c + (z.length : Int)).toNat else min c.toNat z.length) = c.toNat := by
      rw [if_neg (by omega)]
      omega
    exact ⟨e, e⟩
  have e0 : HT.sIx z.length 0 none = 0 := rfl
  have en : HT.sIx z.length z.length none = z.length := rfl
  obtain ⟨a1, a2⟩ := ix a h0 (by omega)
  obtain ⟨b1, b2⟩ := ix b (by omega) h2
  have t1 : tl (cutS z none (some a)) = (tl z).take a.toNat := by rw [tl_cut, e0, a2, Nat.sub_zero, List.drop_zero]
  have t2 : tl (cutS z (some a) (some b)) = ((tl z).drop a.toNat).take (b.toNat - a.toNat) := by rw [tl_cut, a1, b2]
  have t3 : tl (cutS z (some b) none) = (tl z).drop b.toNat := by
    rw [tl_cut, b1, en, List.take_of_length_le]
    rw [List.length_drop]
    omega
  have t4 : tl (cutS z none (some b)) = (tl z).take b.toNat := by rw [tl_cut, e0, b2, Nat.sub_zero, List.drop_zero]
  have hab : (tl z).take a.toNat ++ ((tl z).drop a.toNat).take (b.toNat - a.toNat) = (tl z).take b.toNat := by
    rw [← List.take_add]
    congr 1
    omega
  constructor
  · refine ext_tl ?_
    rw [tl_append, tl_append, t1, t2, t3, hab, List.take_append_drop]
  · refine ext_tl ?_
    rw [tl_append, t1, t2, t4, hab]
theorem sIx_lo {n : Nat} {c : Int} {d : Nat} (h0 : 0 ≤ c) (h1 : c ≤ n) : HT.sIx n d (some c) = c.toNat := by
  have e : (if c < 0 then (c + (n : Int)).toNat else min c.toNat n) = c.toNat := by
    rw [if_neg (by omega)]
    omega
  exact e
theorem cut_parts (u v r : Str) : cutS (u ++ v ++ r) none (some u.length) = u ∧ cutS (u ++ v ++ r) (some u.length) (some (u.length + v.length)) = v ∧ cutS (u ++ v ++ r) (some (u.length + v.length)) none = r := by
  have hz : (u ++ v ++ r).length = u.length + v.length + r.length := by rw [len_app, len_app]
  have lu := len_tl u
  have lv := len_tl v
  have lr := len_tl r
  have e0 : HT.sIx (u ++ v ++ r).length 0 none = 0 := rfl
  have en : HT.sIx (u ++ v ++ r).length (u ++ v ++ r).length none = (u ++ v ++ r).length := rfl
  have a1 : ∀ d, HT.sIx (u ++ v ++ r).length d (some (u.length : Int)) = u.length := fun d => by rw [sIx_lo (by omega) (by omega)]; omega
  have b1 : ∀ d, HT.sIx (u ++ v ++ r).length d (some ((u.length : Int) + v.length)) = u.length + v.length := fun d => by rw [sIx_lo (by omega) (by omega)]; omega
  refine ⟨ext_tl ?_, ext_tl ?_, ext_tl ?_⟩
  · rw [tl_cut, e0, a1, tl_append, tl_append, Nat.sub_zero, List.drop_zero, List.append_assoc, lu, List.take_left]
  · rw [tl_cut, a1, b1, tl_append, tl_append, List.append_assoc, lu, List.drop_left, show (tl u).length + v.length - (tl u).length = (tl v).length by omega, List.take_left]
  · rw [tl_cut, b1, en, tl_append, tl_append, show u.length + v.length = (tl u ++ tl v).length by rw [List.length_append]; omega, List.drop_left, List.take_of_length_le]
    rw [List.length_append]
    omega
end Sf
namespace Sf
open PySem PySem.Spec PyProof.Rows L2 TL
/-! ### d.get(k), d a written dict -/
def tKGet (K : PySem.W.Frag) (w : World) (ta tb : TE) : TE := fun σ H Q => ta σ H fun x H1 => ∃ p, x = .ref p ∧ (∃ es n, K.lookup p = some ⟨.type "dict", none, .dict es n, #[]⟩) ∧ (p == sysModules) = false ∧
  tb σ H1 fun y H2 => ∃ z, y = .str z ∧ ((∃ v, KDct K w p z v ∧ Q v H2) ∨ (KMiss K w p z ∧ Q .non H2))
section
variable {X : Cx} {o e : Expr} {apos cpos : Pos} {td ty : TE}
theorem pe_kget1 (ho : PE X o td) (he : PE X e ty) (m : M1 X o "get" apos e cpos) : PE X (.Call (.Attribute o "get" apos) [e] [] cpos) (tKGet X.K X.w td ty) := by
  refine ⟨fun pins s σ H Q I h => ?_⟩
  refine wpAny_Call_method m.base m.few m.line PySem.F.plainAttrs_dict PySem.F.slot_dict_get PySem.F.type_dict_get (thn (ho.run pins s σ H _ I h) fun u s1 ⟨x, H1, I1, rx, p, ex, ⟨es, n, hl⟩, low, q1⟩ => ?_)
  subst ex
  obtain rfl : u = Value.ref p := rx
  refine ⟨⟨_, I1.kIn p _ hl, rfl⟩, fun a e => by cases e; exact ⟨_, I1.kIn p _ hl, rfl⟩, ?_⟩
  rw [m.trees]
  refine Calls.callWith_builtin rfl (Calls.evalArgs_plain (Calls.spliced_cons (thn (he.run pins s1 σ H1 _ I1 q1) fun iv s2 ⟨y, H2, I2, ry, z, ez, q2⟩ => Calls.spliced_nil ?_)))
  subst ez
  obtain ⟨t, rfl⟩ := (show ∃ t, iv = Value.str z t from ry)
  rcases q2 with ⟨v, ⟨es, n, u, hl, hk, e, ru⟩, q⟩ | ⟨⟨es, n, hl, hk, _, e⟩, q⟩
  · have hm := PySem.W.mapOf_K (prog := X.prog) (w := X.w) I2.kIn hl hk
    exact call_meetsIn PySem.F.slot_dict_get hm.typeIs PySem.F.entry_dict_get (PySem.F.args_dict_get_2 _ _) (meets_dict_get (strKind X.prog X.w) p (strKind_is X.prog X.w z t) low) ⟨_, hm, ⟨v, H2, I2.tok _, by rw [PySem.W.find_K hl e]; exact ru, q⟩⟩
  · have hm := PySem.W.mapOf_K (prog := X.prog) (w := X.w) I2.kIn hl hk
    exact call_meetsIn PySem.F.slot_dict_get hm.typeIs PySem.F.entry_dict_get (PySem.F.args_dict_get_2 _ _) (meets_dict_get (strKind X.prog X.w) p (strKind_is X.prog X.w z t) low) ⟨_, hm, ⟨.non, H2, I2.tok _, by rw [PySem.W.find_K hl e]; rfl, q⟩⟩
end
/-! ### steps -/
inductive Sp3 where
  | there (i : Int) (x : Str)
  | back (i : Int) (x : Str)
  | swap (i : Int) (x y : Str)
def Sp3.vs : Sp3 → List V
  | .there i x => [.str (Str.ofString "there"), .int i, .str x]
  | .back i x => [.str (Str.ofString "back"), .int i, .str x]
  | .swap i x y => [.str (Str.ofString "swap"), .int i, .str x, .str y]
def Sp3.at : Sp3 → Int
  | .there i _ => i
  | .back i _ => i
  | .swap i _ _ => i
def rnd (x : Str) : Str := x ++ backT x
def Sp3.old : Sp3 → Str
  | .there _ x => x
  | .back _ x => rnd x ++ x
  | .swap _ x y => rnd x ++ rnd y
def Sp3.new : Sp3 → Str
  | .there _ x => rnd x ++ x
  | .back _ x => x
  | .swap _ x y => rnd y ++ rnd x
def WdN (x : Str) : Prop := Wd x ∧ 1 ≤ x.length ∧ x.length ≤ 60
def Sp3.Ok : Sp3 → Prop
  | .there _ x => WdN x
  | .back _ x => WdN x
  | .swap _ x y => WdN x ∧ WdN y
theorem tk_snoc {α : Type} {l : List α} {i : Nat} {x : α} (h : l[i]? = some x) : l.take (i + 1) = l.take i ++ [x] := by
  rw [List.take_add_one, h]
  rfl
theorem rnd_len (x : Str) : (rnd x).length = x.length + x.length := by unfold rnd; rw [len_app, backT_len]
theorem rnd_wd {x : Str} (h : Wd x) : Wd (rnd x) := h.app (backT_wd h)
/-- the written dict THINGS -/
structure TH (K : PySem.W.Frag) (mg : Str → Option Value) (w : World) (p : Addr) : Prop where
  gT : mg "THINGS" = some (.ref p)
  lk : ∃ es n, K.lookup p = some ⟨.type "dict", none, .dict es n, #[]⟩
  low : (p == sysModules) = false
  th : KDct K w p "there" (.int 3)
  ba : KDct K w p "back" (.int 3)
  sw : KDct K w p "swap" (.int 4)
theorem th_mk {K : PySem.W.Frag} {h : Heap} {mg : Str → Option Value} {w : World} {p : Addr} {es : Array DictEntry} {n : Nat} {t1 t2 t3 : Tok} (X : K.In h) (G : h.Ns mainGlobals mg) (a : PySem.W.nsIn K mainGlobals "THINGS" = some (some (.ref p)))
    (l : K.lookup p = some ⟨.type "dict", none, .dict es n, #[]⟩) (k : PySem.W.KeysLit w.params es.toList) (low : (p == sysModules) = false) (e1 : PySem.W.nsIn K p "there" = some (some (.int 3 t1))) (e2 : PySem.W.nsIn K p "back" = some (some (.int 3 t2))) (e3 : PySem.W.nsIn K p "swap" = some (some (.int 4 t3))) : TH K mg w p :=
  ⟨PySem.W.mg_of X G a, ⟨es, n, l⟩, low, ⟨es, n, _, l, k, e1, _, rfl⟩, ⟨es, n, _, l, k, e2, _, rfl⟩, ⟨es, n, _, l, k, e3, _, rfl⟩⟩
section
variable {σ : L2.St} {H : Hp} {Q : VK} {K : PySem.W.Frag} {w : World} {mg : Str → Option Value}
def kKG (K : PySem.W.Frag) (w : World) (tb : TE) (σ : L2.St) (Q : VK) : VK := fun x H1 => ∃ p, x = .ref p ∧ (∃ es n, K.lookup p = some ⟨.type "dict", none, .dict es n, #[]⟩) ∧ (p == sysModules) = false ∧
  tb σ H1 fun y H2 => ∃ z, y = .str z ∧ ((∃ v, KDct K w p z v ∧ Q v H2) ∨ (KMiss K w p z ∧ Q .non H2))
def kKG2 (K : PySem.W.Frag) (w : World) (p : Addr) (Q : VK) : VK := fun y H2 => ∃ z, y = .str z ∧ ((∃ v, KDct K w p z v ∧ Q v H2) ∨ (KMiss K w p z ∧ Q .non H2))
theorem w_kget {ta tb : TE} (q : ta σ H (kKG K w tb σ Q)) : tKGet K w ta tb σ H Q := q
theorem w_kkg {tb : TE} {p : Addr} (T : TH K mg w p) (q : tb σ H (kKG2 K w p Q)) : kKG K w tb σ Q (.ref p) H := ⟨p, rfl, T.lk, T.low, q⟩
theorem w_kkg2 {p : Addr} {z : Str} {v : V} (h : KDct K w p z v) (q : Q v H) : kKG2 K w p Q (.str z) H := ⟨z, rfl, .inl ⟨v, h, q⟩⟩
theorem dp_strs : ∀ ws : List Str, DpAll K H (ws.map V.str) (ws.map .str)
  | [] => .nil
  | x :: r => .cons (.str x) (dp_strs r)
theorem step_shaped {z : Str} {i : Int} {ws : List Str} (hz : PyData.canLay0 (.str z) = true) (hw : ∀ x ∈ ws, Wd x) : SeqAt.shaped (.tuple (.str z :: .int i :: ws.map .str)) = true := by
  unfold SeqAt.shaped
  rw [PyData.canLay0, PyData.canLayAll0, hz, PyData.canLayAll0, PyData.canLay0, lay_all (fun x hx => strOk_wd (hw x hx)), PyData.depth, PyData.depthAll, PyData.depthAll, PyData.depth, PyData.depth]
  have := depth_all (f := PyData.str) (l := ws) (k := 60) (fun x _ => by rw [PyData.depth]; omega)
  simp
  omega
/-- t == (), t a tuple with things -/
theorem w_eqT {p q : Addr} {v : V} {vs : List V} {d : PyData} {ds : List PyData} (h : H p = some (.tup (v :: vs))) (hq : H q = some (.tup [])) (hd : DpAll K H (v :: vs) (d :: ds)) (hs : SeqAt.shaped (.tuple (d :: ds)) = true) (k : Q (.bl false) H) : rEqD K (.ref p) (.ref q) H Q :=
  ⟨_, _, .tup (SqT.of h) hd, .tup (SqT.of hq) .nil, hs, by decide +kernel, by
    rw [show PyData.eqv (.tuple (d :: ds)) (.tuple []) = false by simp [PyData.eqv, PyData.eqvAll]]
    exact k⟩
/-- a comprehension over a tuple -/
theorem w_lcT {a : Addr} {xs : List V} {g : TG} {tt : TT} {te : TE} {vs : List Nat} (Pv : Addr → Nat → Hp → Prop) (h0 : ∀ p H1, H1 p = some (.lst []) → Nw p H H1 → Pv p 0 H1)
    (hl : ∀ p i H, i ≤ xs.length → Pv p i H → H a = some (.tup xs)) (hs : ∀ p i x H, xs[i]? = some x → Pv p i H → g x (wipe σ vs) H (kEach tt te vs σ p (Pv p (i + 1)))) (hd : ∀ p H, Pv p xs.length H → Q (.ref p) H) : kLc g tt te vs σ Q (Itt K a) H := by
  refine w_lcG (n := xs.length) Pv h0 (fun p i H hi h => ⟨xs, xs[i], SqT.of (hl p i H (Nat.le_of_lt hi) h), List.getElem?_eq_getElem hi⟩) (fun p H h => ⟨xs, SqT.of (hl p _ H (Nat.le_refl _) h), Nat.le_refl _⟩) ?_ hd
  rintro p i x H H' hi h ⟨rfl, hx⟩
  exact hs p i x H' (hx xs (SqT.of (hl p i H' (Nat.le_of_lt hi) h))) h
theorem cut2 (a b : V) (l : List V) : cutV (a :: b :: l) (some 2) none = l := by
  unfold cutV
  have e : HT.sIx (a :: b :: l).length 0 (some 2) = 2 := by
    unfold HT.sIx
    simp
  rw [e]
  show (List.take ((a :: b :: l).length - 2) l) = l
  simp
theorem w_slT2 {p : Addr} {a b : V} {l : List V} (h : H p = some (.tup (a :: b :: l))) (k : ∀ q H1, H1 q = some (.tup l) → Nw q H H1 → Q (.ref q) H1) : rSlA K (.ref p) (some 2) none H Q := by
  refine ⟨p, _, rfl, SqT.of h, fun z => ?_, fun _ q n => ?_⟩
  · exfalso
    have e := z.1
    unfold HT.sIx at e
    simp at e
  · rw [cut2]
    exact k q _ upd_same (.mk' n)
end
section
variable {P : Program} {w : World} {K : PySem.W.Frag} {mg : Str → Option Value} {base : Heap} {pT : Addr}
def spLo : Sp := fun vs H Q _ => ∃ x : Str, vs = [.str x] ∧ Wd x ∧ x.length ≤ 1000 ∧ Q (.str (rnd x)) H
abbrev HasLo (P : Program) (w : World) (K : PySem.W.Frag) (mg : Str → Option Value) (base : Heap) : Prop := Has P w K mg base 2 "loop" ["way"] spLo
theorem sc_lo : FnScope ["way"] ["way"] (defScope s_loop) := ⟨rfl, rfl, rfl, by decide +kernel, rfl, by decide +kernel, by decide +kernel⟩
theorem has_lo (F : FnAt K mg "loop" s_loop ["way"]) (h_Tu : HasTurned P w K mg base) : HasLo P w K mg base := F.has fun F => by
  obtain ⟨f_Tu, fd_Tu, g_Tu, k_Tu, b_Tu, G_Tu⟩ := h_Tu
  refine F.ok sc_lo (fun vs H Q E h => ?_) (fun cdv A outer s H vs Q E hr h => ?_)
  · obtain ⟨x, rfl, _⟩ := h
    rfl
  · obtain ⟨x, rfl, hx, hl, q⟩ := h
    refine ⟨_, (pss_one (ps_ret (pe_op op_addS (pv 0) (pe_call G_Tu (hr.mono (by decide)) (by rfl) g_Tu k_Tu b_Tu .nil pass0 (pa_cons (pv 0) pa_nil))))), ?_⟩
    walk_at "go"
    refine ⟨x, rfl, hx, by omega, ?_⟩
    refine w_addS (line_of (by rw [backT_len]; omega)) ?_
    exact q
def spIy : Sp := fun vs H Q _ => ∃ x : Str, vs = [.str x] ∧ WdN x ∧ ∀ H', Same H H' → Q (.bl true) H'
abbrev HasIy (P : Program) (w : World) (K : PySem.W.Frag) (mg : Str → Option Value) (base : Heap) : Prop := Has P w K mg base 2 "is_way" ["thing"] spIy
theorem sc_iy : FnScope ["thing"] ["thing"] (defScope s_is_way) := ⟨rfl, rfl, rfl, by decide +kernel, rfl, by decide +kernel, by decide +kernel⟩
theorem has_iy (F : FnAt K mg "is_way" s_is_way ["thing"]) (B : Blt mg) (h_Iw : HasIsWord P w K mg base) : HasIy P w K mg base := F.has fun F => by
  obtain ⟨f_Iw, fd_Iw, g_Iw, k_Iw, b_Iw, G_Iw⟩ := h_Iw
  refine F.ok sc_iy (fun vs H Q E h => ?_) (fun cdv A outer s H vs Q E hr h => ?_)
  · obtain ⟨x, rfl, _⟩ := h
    rfl
  · obtain ⟨x, rfl, ⟨hx, h1, h2⟩, q⟩ := h
    refine ⟨_, (pss_one (ps_ret (pe_and (pe_callB call_isi (by rfl) B.isinstance (by decide +kernel) (pa_cons (pv 0) (pa_cons (pe_bltn (v := .ty "str") (by rfl) B.str (by decide +kernel) rfl) pa_nil))) (pe_and (pe_cmpR op_ne (pv 0) pe_str (nomark _)) (pe_one (pe_call G_Iw (hr.mono (by decide)) (by rfl) g_Iw k_Iw b_Iw .nil pass0 (pa_cons (pv 0) pa_nil))))))), ?_⟩
    walk_at "go"
    refine w_andVB (fun _ => ?_) (fun z => ?_)
    · walk_at "go"
      refine ⟨x, rfl, by omega, fun H' s' => ?_⟩
      rw [isW_true hx h2]
      exact q H' s'
    · exfalso
      have : x = Str.ofString "" := of_decide_eq_true (by simpa using z)
      rw [this] at h1
      revert h1
      decide
/-! ### is_step -/
def spIs (K : PySem.W.Frag) (w : World) (p : Addr) : Sp := fun vs H Q _ => ∃ (t : Addr) (n i : Int) (z : Str) (ws : List Str), vs = [.ref t, .int n] ∧ H t = some (.tup (.str z :: .int i :: ws.map V.str)) ∧ KDct K w p z (.int (2 + ws.length)) ∧ PyData.canLay0 (.str z) = true ∧ (∀ x ∈ ws, WdN x) ∧ ws.length ≤ 2 ∧ 0 ≤ i ∧ i ≤ n ∧
  ∀ H', Same H H' → Q (.bl true) H'
abbrev HasIs (P : Program) (w : World) (K : PySem.W.Frag) (mg : Str → Option Value) (base : Heap) (p : Addr) : Prop := Has P w K mg base 3 "is_step" ["step", "most"] (spIs K w p)
theorem sc_is : FnScope ["step", "most", "thing"] ["step", "most"] (defScope s_is_step) := ⟨rfl, rfl, rfl, by decide +kernel, rfl, by decide +kernel, by decide +kernel⟩
theorem has_is (F : FnAt K mg "is_step" s_is_step ["step", "most"]) (B : Blt mg) (T_TH : TH K mg w pT) (h_Up : HasUp P w K mg base) (h_Iy : HasIy P w K mg base) : HasIs P w K mg base pT := F.has fun F => by
  obtain ⟨f_Up, fd_Up, g_Up, k_Up, b_Up, G_Up⟩ := h_Up
  obtain ⟨f_Iy, fd_Iy, g_Iy, k_Iy, b_Iy, G_Iy⟩ := h_Iy
  refine F.ok sc_is (fun vs H Q E h => ?_) (fun cdv A outer s H vs Q E hr h => ?_)
  · obtain ⟨t, n, i, z, ws, rfl, _⟩ := h
    rfl
  · obtain ⟨t, n, i, z, ws, rfl, ht, hk, hz, hw, hwl, i0, i1, q⟩ := h
    refine ⟨_, (pss_cons (ps_if (PW.pt (pw_or (pt_cmpR (op_eqD hr.units) (pv 0) (pe_tup pa_nil) (nomark _)) (pw_or1 (pt_cmpR op_ne (pe_kget1 (pe_glob (v := .ref pT) (by rfl) T_TH.gT rfl) (pe_ix ix_tup (pv 0) pe_int (fun _ _ => rfl)) ⟨rfl, rfl, rfl, rfl⟩) (pe_callB call_lenQ (by rfl) B.len PySem.boot_len (pa_cons (pv 0) pa_nil)) (nomark _))))) (pss_one (ps_ret pe_bl)) pss_nil) (pss_one (ps_ret (pe_and (pe_call G_Up (hr.mono (by decide)) (by rfl) g_Up k_Up b_Up .nil pass0 (pa_cons (pe_ix ix_tup (pv 0) pe_int (fun _ _ => rfl)) (pa_cons (pv 1) pa_nil))) (pe_one (pe_callB (cr_all rfl) (by rfl) B.all (by decide +kernel) (pa_cons (pe_lc (own := [("thing", 2)]) (g := gName 2) (tt := tYes) (by rfl) sc_is.nd (pi_tup (pe_slice sl_tupA (pv 0) (po_some pe_int) po_none)) (blkOk_by (own := [("thing", 2)]) (N := ["step", "most", "thing"]) (sc := defScope s_is_step) (by decide +kernel)) (fun _ _ _ _ _ => pg_name (i := 2) sc_is.nd rfl (.inl rfl)) (fun _ _ _ _ _ => pts_nil) (fun _ _ _ _ _ => (pe_call G_Iy (hr.mono (by decide)) (by rfl) g_Iy k_Iy b_Iy .nil pass0 (pa_cons (pv 2) pa_nil)))) pa_nil))))))), ?_⟩
    walk_at "go"
    refine w_newT (by walk_at "sz") (fun u H1 hu nu => ?_)
    have ht1 := nu.at ht
    refine w_eqT ht1 hu (.cons (.str z) (.cons (.int i) (dp_strs ws))) (step_shaped hz fun x hx => (hw x hx).1) ?_
    walk_at "go"
    refine w_kget ?_
    walk_at "go"
    refine w_kkg T_TH ?_
    walk_at "go"
    refine w_ixT ht1 (at_of (j := 0) rfl rfl) ?_
    refine w_kkg2 hk ?_
    walk_at "go"
    refine w_ifN2 (fun z => absurd (by simp; omega) z) fun _ => ?_
    walk_at "go"
    refine w_ixT ht1 (at_of (j := 1) rfl rfl) ?_
    walk_at "go"
    refine ⟨_, _, rfl, trivial, ?_⟩
    rw [show upB (.int i) n = true by show (decide (0 ≤ i) && decide (i ≤ n)) = true; rw [decide_eq_true i0, decide_eq_true i1]; rfl]
    walk_at "go"
    refine w_slT2 ht1 (fun u2 H2 hu2 nu2 => ?_)
    refine w_kTupI hu2 ?_
    refine w_lcT (xs := ws.map V.str) (fun r j H' => Same H2 H' ∧ H2 r = none ∧ H' r = some (.lst ((ws.take j).map fun _ => V.bl true))) (fun r H' hr nr => ⟨nr.same, nr.nn, hr⟩) (fun r j H' _ h => h.1.at hu2) ?_ ?_
    · rintro r j v H3 hv ⟨s3, nr, hr3⟩
      obtain ⟨x, hx, rfl⟩ : ∃ x, ws[j]? = some x ∧ V.str x = v := by
        rw [List.getElem?_map, Option.map_eq_some_iff] at hv
        exact hv
      walk_at "go"
      refine ⟨x, rfl, hw x (List.mem_of_getElem? hx), fun H4 s4 => ?_⟩
      refine w_kIt (s4.at hr3) ?_ (fun H5 h5 o5 => ⟨(s3.trans s4).off o5 nr, nr, ?_⟩)
      · rw [List.length_map, List.length_take]
        exact lineLt_of (by omega)
      · rw [h5, tk_snoc hx, List.map_append]
        rfl
    · rintro r H3 ⟨s3, nr, hr3⟩
      rw [List.length_map, List.take_length] at hr3
      walk_at "go"
      refine w_all (bs := ws.map fun _ => true) (by rw [List.map_map]; exact hr3) ?_
      rw [show (ws.map fun _ => true).all id = true by simp]
      exact q _ ((nu.same.nw nu2).trans s3)
/-! ### sides -/
def spSds : Sp := fun vs H Q _ => ∃ (t : Addr) (s : Sp3), vs = [.ref t] ∧ H t = some (.tup s.vs) ∧ s.Ok ∧ ∀ (u : Addr) (H' : Hp), Same H H' → H' u = some (.tup [.str s.old, .str s.new]) → Q (.ref u) H'
abbrev HasSds (P : Program) (w : World) (K : PySem.W.Frag) (mg : Str → Option Value) (base : Heap) : Prop := Has P w K mg base 3 "sides" ["step"] spSds
theorem sc_sds : FnScope ["step", "way", "other"] ["step"] (defScope s_sides) := ⟨rfl, rfl, rfl, by decide +kernel, rfl, by decide +kernel, by decide +kernel⟩
theorem has_sds (F : FnAt K mg "sides" s_sides ["step"]) (h_Lo : HasLo P w K mg base) : HasSds P w K mg base := F.has fun F => by
  obtain ⟨f_Lo, fd_Lo, g_Lo, k_Lo, b_Lo, G_Lo⟩ := h_Lo
  refine F.ok sc_sds (fun vs H Q E h => ?_) (fun cdv A outer s H vs Q E hr h => ?_)
  · obtain ⟨t, s, rfl, _⟩ := h
    rfl
  · obtain ⟨t, s3, rfl, ht, hs, q⟩ := h
    refine ⟨_, (pss_cons (ps_set (i := 1) sc_sds.nd rfl (.inl rfl) (pe_ix ix_tup (pv 0) pe_int (fun _ _ => rfl))) (pss_cons (ps_if (pt_cmpR op_eq (pe_ix ix_tup (pv 0) pe_int (fun _ _ => rfl)) pe_str (nomark _)) (pss_cons (ps_set (i := 2) sc_sds.nd rfl (.inl rfl) (pe_ix ix_tup (pv 0) pe_int (fun _ _ => rfl))) (pss_one (ps_ret (pe_tup (pa_cons (pe_op op_addS (pe_call G_Lo (hr.mono (by decide)) (by rfl) g_Lo k_Lo b_Lo .nil pass0 (pa_cons (pv 1) pa_nil)) (pe_call G_Lo (hr.mono (by decide)) (by rfl) g_Lo k_Lo b_Lo .nil pass0 (pa_cons (pv 2) pa_nil))) (pa_cons (pe_op op_addS (pe_call G_Lo (hr.mono (by decide)) (by rfl) g_Lo k_Lo b_Lo .nil pass0 (pa_cons (pv 2) pa_nil)) (pe_call G_Lo (hr.mono (by decide)) (by rfl) g_Lo k_Lo b_Lo .nil pass0 (pa_cons (pv 1) pa_nil))) pa_nil)))))) pss_nil) (pss_cons (ps_if (pt_cmpR op_eq (pe_ix ix_tup (pv 0) pe_int (fun _ _ => rfl)) pe_str (nomark _)) (pss_one (ps_ret (pe_tup (pa_cons (pv 1) (pa_cons (pe_op op_addS (pe_call G_Lo (hr.mono (by decide)) (by rfl) g_Lo k_Lo b_Lo .nil pass0 (pa_cons (pv 1) pa_nil)) (pv 1)) pa_nil))))) pss_nil) (pss_one (ps_ret (pe_tup (pa_cons (pe_op op_addS (pe_call G_Lo (hr.mono (by decide)) (by rfl) g_Lo k_Lo b_Lo .nil pass0 (pa_cons (pv 1) pa_nil)) (pv 1)) (pa_cons (pv 1) pa_nil)))))))), ?_⟩
    have ln : ∀ {n : Nat}, n ≤ 1000 → n ≤ sizeLine := fun h => line_of (by omega)
    cases s3 with
    | there i x =>
      obtain ⟨hx, _, hl⟩ := hs
      have ht : H t = some (.tup [.str (Str.ofString "there"), .int i, .str x]) := ht
      walk_at "go"
      refine w_if2 (fun z => absurd z (by decide)) fun _ => ?_
      walk_at "go"
      refine w_if2 (fun _ => ?_) (fun z => absurd rfl z)
      walk_at "go"
      refine ⟨x, rfl, hx, by omega, ?_⟩
      walk_at "go"
      refine w_addS (ln (by rw [rnd_len]; omega)) ?_
      walk_at "go"
      refine w_newT (by walk_at "sz") (fun u H1 hu nu => ?_)
      exact q u H1 nu.same hu
    | back i x =>
      obtain ⟨hx, _, hl⟩ := hs
      have ht : H t = some (.tup [.str (Str.ofString "back"), .int i, .str x]) := ht
      walk_at "go"
      refine w_if2 (fun z => absurd z (by decide)) fun _ => ?_
      walk_at "go"
      refine w_if2 (fun z => absurd z (by decide)) fun _ => ?_
      walk_at "go"
      refine ⟨x, rfl, hx, by omega, ?_⟩
      walk_at "go"
      refine w_addS (ln (by rw [rnd_len]; omega)) ?_
      walk_at "go"
      refine w_newT (by walk_at "sz") (fun u H1 hu nu => ?_)
      exact q u H1 nu.same hu
    | swap i x y =>
      obtain ⟨⟨hx, _, hl⟩, hy, _, hl'⟩ := hs
      have ht : H t = some (.tup [.str (Str.ofString "swap"), .int i, .str x, .str y]) := ht
      walk_at "go"
      refine w_if2 (fun _ => ?_) (fun z => absurd rfl z)
      walk_at "go"
      refine ⟨x, rfl, hx, by omega, ?_⟩
      walk_at "go"
      refine ⟨y, rfl, hy, by omega, ?_⟩
      refine w_addS (ln (by rw [rnd_len, rnd_len]; omega)) ?_
      walk_at "go"
      refine ⟨y, rfl, hy, by omega, ?_⟩
      walk_at "go"
      refine ⟨x, rfl, hx, by omega, ?_⟩
      refine w_addS (ln (by rw [rnd_len, rnd_len]; omega)) ?_
      walk_at "go"
      refine w_newT (by walk_at "sz") (fun u H1 hu nu => ?_)
      exact q u H1 nu.same hu
/-! ### replaced, stepped -/
theorem Sp3.len_old {s : Sp3} (h : s.Ok) : s.old.length ≤ 240 ∧ s.new.length ≤ 240 := by
  cases s with
  | there i x => obtain ⟨_, _, hl⟩ := h; show x.length ≤ 240 ∧ (rnd x ++ x).length ≤ 240; rw [len_app, rnd_len]; omega
  | back i x => obtain ⟨_, _, hl⟩ := h; show (rnd x ++ x).length ≤ 240 ∧ x.length ≤ 240; rw [len_app, rnd_len]; omega
  | swap i x y => obtain ⟨⟨_, _, hl⟩, _, _, hl'⟩ := h; unfold Sp3.old Sp3.new; rw [len_app, len_app, rnd_len, rnd_len]; omega
def Sp3.does (s : Sp3) (z : Str) : Str := cutS z none (some s.at) ++ s.new ++ cutS z (some (s.at + s.old.length)) none
structure Sp3.Fits (s : Sp3) (z : Str) : Prop where
  ok : s.Ok
  lo : 0 ≤ s.at
  hi : s.at ≤ z.length
  eq : cutS z (some s.at) (some (s.at + s.old.length)) = s.old
def spRp : Sp := fun vs H Q _ => ∃ (t : Addr) (s : Sp3) (z : Str) (k : Int), vs = [.str z, .ref t, .int k] ∧ H t = some (.tup s.vs) ∧ s.Fits z ∧ z.length ≤ 1000 ∧ ∀ H', Same H H' → Q (.str (s.does z)) H'
abbrev HasRp (P : Program) (w : World) (K : PySem.W.Frag) (mg : Str → Option Value) (base : Heap) : Prop := Has P w K mg base 4 "replaced" ["word", "step", "number"] spRp
theorem Sp3.vs_at (s : Sp3) : ∃ (z : Str) (ws : List Str), s.vs = .str z :: .int s.at :: ws.map V.str := by
  cases s with
  | there i x => exact ⟨_, [x], rfl⟩
  | back i x => exact ⟨_, [x], rfl⟩
  | swap i x y => exact ⟨_, [x, y], rfl⟩
theorem cut_le (z : Str) (a b : Option Int) : (cutS z a b).length ≤ z.length := by
  rw [len_tl, len_tl, tl_cut, List.length_take, List.length_drop]
  omega
theorem sc_rp : FnScope ["word", "step", "number", "old", "new", "at", "behind"] ["word", "step", "number"] (defScope s_replaced) := ⟨rfl, rfl, rfl, by decide +kernel, rfl, by decide +kernel, by decide +kernel⟩
theorem has_rp (F : FnAt K mg "replaced" s_replaced ["word", "step", "number"]) (B : Blt mg) (T_TH : TH K mg w pT) (h_Is : HasIs P w K mg base pT) (h_Sds : HasSds P w K mg base) : HasRp P w K mg base := F.has fun F => by
  obtain ⟨f_Is, fd_Is, g_Is, k_Is, b_Is, G_Is⟩ := h_Is
  obtain ⟨f_Sds, fd_Sds, g_Sds, k_Sds, b_Sds, G_Sds⟩ := h_Sds
  refine F.ok sc_rp (fun vs H Q E h => ?_) (fun cdv A outer s H vs Q E hr h => ?_)
  · obtain ⟨t, s, z, k, rfl, _⟩ := h
    rfl
  · obtain ⟨t, s3, z, k, rfl, ht, ⟨ok, lo, hi, eq⟩, hz, q⟩ := h
    refine ⟨_, (pss_cons (ps_if (pt_not (pt_val (pe_call G_Is (hr.mono (by decide)) (by rfl) g_Is k_Is b_Is .nil pass0 (pa_cons (pv 1) (pa_cons (pe_callB call_lenS (by rfl) B.len PySem.boot_len (pa_cons (pv 0) pa_nil)) pa_nil))))) (pss_one (ps_never)) pss_nil) (pss_cons (ps_asg (pe_call G_Sds (hr.mono (by decide)) (by rfl) g_Sds k_Sds b_Sds .nil pass0 (pa_cons (pv 1) pa_nil)) (pg_tup rfl (pgs_cons (pg_name (i := 3) sc_rp.nd rfl (.inl rfl)) (pgs_cons (pg_name (i := 4) sc_rp.nd rfl (.inl rfl)) pgs_nil)))) (pss_cons (ps_set (i := 5) sc_rp.nd rfl (.inl rfl) (pe_ix ix_tup (pv 1) pe_int (fun _ _ => rfl))) (pss_cons (ps_set (i := 6) sc_rp.nd rfl (.inl rfl) (pe_op op_add (pv 5) (pe_callB call_lenS (by rfl) B.len PySem.boot_len (pa_cons (pv 3) pa_nil)))) (pss_cons (ps_if (pt_cmpR op_ne (pe_slice sl_str (pv 0) (po_some (pv 5)) (po_some (pv 6))) (pv 3) (nomark _)) (pss_one (ps_never)) pss_nil) (pss_one (ps_ret (pe_op op_addS (pe_op op_addS (pe_slice sl_str (pv 0) po_none (po_some (pv 5))) (pv 4)) (pe_slice sl_str (pv 0) (po_some (pv 6)) po_none))))))))), ?_⟩
    have ln : ∀ {n : Nat}, n ≤ 10000 → n ≤ sizeLine := fun h => line_of (by omega)
    obtain ⟨lo1, lo2⟩ := Sp3.len_old ok
    walk_at "go"
    refine w_lenS (ln (by omega)) ?_
    walk_at "go"
    have isSp : ∀ {Q' : VK}, (∀ H', Same H H' → Q' (.bl true) H') → spIs K w pT [.ref t, .int z.length] H Q' E0 := fun {Q'} q' => by
      cases s3 with
      | there i x => exact ⟨t, _, i, _, [x], rfl, ht, T_TH.th, by decide +kernel, fun y hy => by rw [List.mem_singleton.mp hy]; exact ok, (by show 1 ≤ 2; decide), lo, hi, q'⟩
      | back i x => exact ⟨t, _, i, _, [x], rfl, ht, T_TH.ba, by decide +kernel, fun y hy => by rw [List.mem_singleton.mp hy]; exact ok, (by show 1 ≤ 2; decide), lo, hi, q'⟩
      | swap i x y =>
        refine ⟨t, _, i, _, [x, y], rfl, ht, T_TH.sw, by decide +kernel, fun u hu => ?_, (by show 2 ≤ 2; decide), lo, hi, q'⟩
        rcases List.mem_cons.mp hu with rfl | hu
        · exact ok.1
        · rw [List.mem_singleton.mp hu]; exact ok.2
    refine isSp fun H1 s1 => ?_
    walk_at "go"
    refine ⟨t, s3, rfl, s1.at ht, ok, fun u H2 s2 hu => ?_⟩
    obtain ⟨zz, ws, ev⟩ := Sp3.vs_at s3
    have ht2 := s2.at (s1.at ht)
    rw [ev] at ht2
    walk_at "go"
    refine w_ixT ht2 (at_of (j := 1) rfl rfl) ?_
    walk_at "go"
    refine w_lenS (ln (by omega)) ?_
    walk_at "go"
    refine w_slS (ln (by omega)) ?_
    rw [eq]
    walk_at "go"
    refine w_ifN2 (fun z => absurd rfl z) fun _ => ?_
    walk_at "go"
    refine w_slS (ln (by omega)) ?_
    walk_at "go"
    have c1 := cut_le z none (some s3.at)
    have c2 := cut_le z (some (s3.at + s3.old.length)) none
    refine w_addS (ln (by omega)) ?_
    walk_at "go"
    refine w_slS (ln (by omega)) ?_
    refine w_addS (ln (by rw [len_app]; omega)) ?_
    exact q H2 (s1.trans s2)
end
end Sf
namespace Sf
open PySem PySem.Spec PyProof.Rows L2 TL
/-! ### {**a, **b} -/
section
variable {prog : Program} {w : World} {A : Around} {E : Value → Shared → Prop} {s : Shared}
theorem put_pairs {d : Addr} {kvs : List (Key × Value)} {k : Key} {key v : Value} {Q : Unit → Shared → Prop} (hkey : (mixKind prog w).is k key = true) (hm : s.heap.DictOf (mixKind prog w) d kvs)
    (hQ : ∀ h', h'.DictOf (mixKind prog w) d (stored kvs k v) → Heap.SameBut d s.heap h' → Q () { s with heap := h' })
    (hsz : kvs.length ≤ sizeLine) : wpAny (model prog w) A (dictPut d ((mixKind prog w).hash k) key v) Q E s := by
  obtain ⟨o, es, ep, ho, hc, hd, hk, hp, hn⟩ := hm
  have hes : es.size ≤ sizeLine := by
    have e1 := hp.length
    have e2 : es.toList.length = es.size := by simp
    omega
  unfold dictPut
  refine wpAny_bind (wpAny_dictFind_of hkey ho hd hk ?_)
  have hidx : (es.findIdx? fun e => (mixKind prog w).is k e.key) = kvs.findIdx? fun kv => decide (kv.1 = k) := by
    rw [← hp.findIdx k]
    obtain ⟨l⟩ := es
    simp
  cases hi : es.findIdx? fun e => (mixKind prog w).is k e.key with
  | some i =>
    refine wpAny_updateDict ho hd (hQ _ ⟨_, _, ep, Heap.get?_update_self _ ho (Obj.isFreed_of_dict (Obj.data_mapDict hd _)), hc.mapDict _, Obj.data_mapDict hd _, hk.modify _ _, ?_, ?_⟩ (Heap.SameBut.update ..))
    · rw [stored, if_pos (any_of_findIdx_some (hidx ▸ hi))]
      have hl : (es.toList.findIdx? fun e => (mixKind prog w).is k e.key) = some i := by
        rw [← hi]
        obtain ⟨l⟩ := es
        simp
      have := hp.modify hn hl v
      obtain ⟨l⟩ := es
      simpa using this
    · rw [stored, if_pos (any_of_findIdx_some (hidx ▸ hi)), keys_map_store]
      exact hn
  | none =>
    have hnot : k ∉ kvs.map (·.1) := not_mem_of_findIdx_none (hidx ▸ hi)
    have hany : ¬ (kvs.any fun kv => decide (kv.1 = k)) = true := by
      rw [List.any_eq_true]
      rintro ⟨kv, hkv, he⟩
      exact hnot (List.mem_map.mpr ⟨kv, hkv, of_decide_eq_true he⟩)
    refine wpAny_updateDictKeys (hz := hes) ho hd (hQ _ ⟨_, _, ep + 1, Heap.get?_update_self _ ho (Obj.isFreed_of_dict (Obj.data_mapDictKeys hd _)), hc.mapDictKeys _, Obj.data_mapDictKeys hd _, hk.push hkey _, ?_, ?_⟩ (Heap.SameBut.update ..))
    · rw [stored, if_neg hany]
      have := hp.append hkey ((mixKind prog w).hash k) v
      obtain ⟨l⟩ := es
      simpa using this
    · rw [stored, if_neg hany, List.map_append, List.nodup_append]
      refine ⟨hn, by simp, ?_⟩
      intro a ha b hb
      simp only [List.map_cons, List.map_nil, List.mem_singleton] at hb
      subst hb
      exact fun e => hnot (e ▸ ha)
theorem merge_pairs {d o : Addr} {kvs more : List (Key × Value)} {Q : Unit → Shared → Prop} (hdo : d ≠ o) (hoS : (o == sysModules) = false) (hd : s.heap.DictOf (mixKind prog w) d kvs) (ho : s.heap.DictOf (mixKind prog w) o more)
    (hQ : ∀ h', h'.DictOf (mixKind prog w) d (merged kvs more) → Heap.SameBut d s.heap h' → Q () { s with heap := h' }) (hsz : kvs.length + more.length ≤ sizeLine) :
    wpAny (model prog w) A (mergeMapping d (.ref o) false) Q E s := by
  obtain ⟨od, esd, epd, hod, hcd, hdd, hkd, hpd, hnd⟩ := id hd
  obtain ⟨oo, eso, epo, hoo, hco, hdo', hko, hpo, hno⟩ := id ho
  have hlen : more.length = eso.size := by rw [← hpo.length]; simp
  unfold mergeMapping
  refine wpAny_bind (wpAny_isInstance ho.typeIs isSubtype_dict_dict ?_)
  simp only [if_true]
  refine wpAny_bind (wpAny_specialOf ho.typeIs PySem.F.slot_dict_iter.lookup ?_)
  refine wpAny_bind (wpAny_pure ?_)
  simp only [beq_self_eq_true]
  rw [if_neg (by rw [hoS]; exact Bool.false_ne_true)]
  refine wpAny_bind (wpAny_dictEntries hod hdd ?_)
  have loop : wpAny (model prog w) A (do
      let l ← dictEntries o
      let epoch ← dictEpoch o
      forIn (List.range l.size) PUnit.unit fun i (_ : PUnit) => (do
          let l' ← dictEntries o
          match l'[i]? with
            | some e => do
              holding [e.key, e.val] (dictPut d e.hash e.key e.val)
              let ep' ← dictEpoch o
              if (ep' != epoch) = true then do
                  (unsupported "dict.changed-during-merge" : Sem PUnit)
                  pure (ForInStep.yield PUnit.unit)
                else pure (ForInStep.yield PUnit.unit)
            | _ => do
              (unsupported "dict.changed-during-merge" : Sem PUnit)
              pure (ForInStep.yield PUnit.unit) : Sem (ForInStep PUnit))
      pure ()) Q E s := by
    refine wpAny_bind (wpAny_dictEntries hoo hdo' ?_)
    refine wpAny_bind (wpAny_dictEpoch hoo hdo' ?_)
    refine wpAny_bind ?_
    rw [List.range_eq_range']
    refine wpAny_forIn_list _
      (fun rest _ s' => ∃ h' i, s' = { s with heap := h' } ∧ rest = List.range' i (eso.size - i) ∧ i ≤ eso.size ∧ h'.DictOf (mixKind prog w) d (merged kvs (more.take i)) ∧ h'.get? o = some oo ∧ Heap.SameBut d s.heap h')
      _ ?_ ?_ _ _ ⟨s.heap, 0, rfl, by simp, Nat.zero_le _, by simpa [merged] using hd, hoo, Heap.SameBut.refl _ _⟩
    · rintro x rest b s' ⟨h', i, rfl, hr, hi, hd', hoo', hs'⟩
      have hlt : i < eso.size := by
        rcases Nat.lt_or_ge i eso.size with h | h
        · exact h
        · rw [Nat.sub_eq_zero_of_le h] at hr
          simp at hr
      obtain ⟨rfl, hrest⟩ : x = i ∧ rest = List.range' (i + 1) (eso.size - (i + 1)) := by
        have e : eso.size - i = (eso.size - (i + 1)) + 1 := by omega
        rw [e, List.range'_succ] at hr
        injection hr with h1 h2
        exact ⟨h1, h2⟩
      refine wpAny_bind (wpAny_dictEntries hoo' hdo' ?_)
      rw [Array.getElem?_eq_getElem hlt]
      obtain ⟨kv, hkv⟩ : ∃ kv, more[x]? = some kv := ⟨more[x]'(by rw [hlen]; exact hlt), List.getElem?_eq_getElem _⟩
      obtain ⟨k, v⟩ := kv
      obtain ⟨hkey, hval⟩ := hpo.get? (e := eso[x]) (by simp [hlt]) hkv
      obtain ⟨k', hkey', hhash⟩ := hko eso[x] (Array.getElem_mem hlt)
      obtain rfl : k' = k := (mixKind prog w).inj _ _ _ hkey' hkey
      show wpAny _ _ (holding [eso[x].key, eso[x].val] (dictPut d eso[x].hash eso[x].key eso[x].val) >>= _) _ _ _
      rw [hhash, hval]
      have hmx : (merged kvs (more.take x)).length ≤ sizeLine := by
        have e1 := merged_length_le kvs (more.take x)
        have e2 : (more.take x).length ≤ more.length := by rw [List.length_take]; omega
        omega
      refine wpAny_bind (wpAny_holding (put_pairs (hsz := hmx) hkey hd' fun h'' hd'' hs'' => ?_))
      have hoo'' : h''.get? o = some oo := (hs''.2 o (Ne.symm hdo)).trans hoo'
      refine wpAny_bind (wpAny_dictEpoch hoo'' hdo' ?_)
      rw [if_neg (by simp)]
      exact wpAny_pure ⟨h'', x + 1, rfl, hrest, hlt, by rw [merged_take_succ kvs more x (k', v) hkv]; exact hd'', hoo'', hs'.trans hs''⟩
    · rintro b s' ⟨h', i, rfl, hr, hi, hd', hoo', hs'⟩
      have hin : i = eso.size := by
        rcases Nat.lt_or_ge i eso.size with h | h
        · have e : eso.size - i = (eso.size - (i + 1)) + 1 := by omega
          rw [e, List.range'_succ] at hr
          exact nomatch hr
        · exact Nat.le_antisymm hi h
      refine wpAny_pure (hQ h' ?_ hs')
      rw [hin, ← hlen, List.take_length] at hd'
      exact hd'
  split
  · refine wpAny_bind (wpAny_dictEntries hoo hdo' ?_)
    refine wpAny_bind (MeetsSeq2.wpAny_forIn_array _ (fun rest _ s' => s' = s ∧ ∀ e ∈ rest, e ∈ eso.toList) _ (fun e rest b s' hI => ?_) (fun b s' hI => ?_) _ _ ⟨rfl, fun e he => he⟩)
    · obtain ⟨rfl, hmem⟩ := hI
      obtain ⟨k', hkey', hhash⟩ := hko e (Array.mem_toList_iff.mp (hmem e (List.mem_cons_self ..)))
      have hrest : ∀ e' ∈ rest, e' ∈ eso.toList := fun e' he' => hmem e' (List.mem_cons_of_mem _ he')
      rcases keyIs_shape (show keyIs k' e.key = true from hkey') with ⟨i, t, _, ek⟩ | ⟨x, t, _, ek⟩
      · rw [ek]
        exact wpAny_pure ⟨rfl, hrest⟩
      · rw [ek]
        exact wpAny_pure ⟨rfl, hrest⟩
    · obtain ⟨rfl, _⟩ := hI
      exact loop
  · exact loop
end
section
variable {X : Cx}
theorem stored_put {kvs : List (Key × V)} {vs : List (Key × Value)} (r : KV kvs vs) : ∀ {more : List (Key × V)} {ws : List (Key × Value)}, KV more ws → KV (more.foldl (fun a p => putK a p.1 p.2) kvs) (merged vs ws) := by
  intro more ws h
  induction h generalizing kvs vs with
  | nil => exact r
  | cons p q ih =>
    rename_i a b l m
    obtain ⟨e, rv⟩ := p
    show KV (List.foldl _ (putK kvs a.1 a.2) l) (merged (stored vs b.1 b.2) m)
    rw [← e]
    exact ih (r.put a.1 rv)
def mergeV (a b : List (Key × V)) : List (Key × V) := b.foldl (fun a p => putK a p.1 p.2) a
theorem mergeV_len (a b : List (Key × V)) : (mergeV a b).length ≤ a.length + b.length := by
  unfold mergeV
  induction b generalizing a with
  | nil => simp
  | cons p b ih =>
    rw [List.foldl_cons]
    have h1 := ih (putK a p.1 p.2)
    have h2 := length_putK a p.1 p.2
    simp only [List.length_cons]
    omega
theorem merge_run {A : Around} {E : Value → Shared → Prop} {pins : List (Addr × Obj)} {σ : L2.St} {H : Hp} {s : Shared} {d o : Addr} {kvs more : List (Key × V)} {Q : Unit → Shared → Prop} (I : Inv X pins σ H s) (hdo : d ≠ o) (hd : H d = some (.dK kvs)) (ho : H o = some (.dK more)) (hsz : kvs.length + more.length ≤ sizeLine)
    (h : ∀ s', Inv X pins σ (upd H d (.dK (mergeV kvs more))) s' → Q () s') : wpAny (model X.prog X.w) A (mergeMapping d (.ref o) false) Q E s := by
  obtain ⟨z1, hs1, vs, rel, dd⟩ := dk_of I.hok hd
  obtain ⟨z2, hs2, ws, rel2, dd2⟩ := dk_of I.hok ho
  refine merge_pairs hdo hs2 dd dd2 (fun h' dd' hs => h _ ?_) (by rw [← rel.length, ← rel2.length]; exact hsz)
  have he : ∃ q, h'.get? d = some q := let ⟨q, _, _, hq, _⟩ := dd'; ⟨q, hq⟩
  exact d_write I (by rw [hd]; exact True.intro) hs he (dk_new (Nat.le_trans (mergeV_len _ _) hsz) hs1 (stored_put rel rel2) dd')
/-- {**a, **b}: a new dict first, then a into it, then b -/
def tMerge2 (ta tb : TE) : TE := fun σ H Q => ∀ p, H p = none → ta σ (upd H p (.dK [])) fun x H1 => ∃ (a : Addr) (ka : List (Key × V)), x = .ref a ∧ a ≠ p ∧ H1 a = some (.dK ka) ∧ H1 p = some (.dK []) ∧ ka.length ≤ sizeLine ∧
  tb σ (upd H1 p (.dK (mergeV [] ka))) fun y H2 => ∃ (b : Addr) (kb : List (Key × V)), y = .ref b ∧ b ≠ p ∧ H2 b = some (.dK kb) ∧ H2 p = some (.dK (mergeV [] ka)) ∧ (mergeV [] ka).length + kb.length ≤ sizeLine ∧ Q (.ref p) (upd H2 p (.dK (mergeV (mergeV [] ka) kb)))
theorem pe_merge2 {e1 e2 : Expr} {ta tb : TE} {pos : Pos} (h1 : PE X e1 ta) (h2 : PE X e2 tb) : PE X (.Dict [none, none] [e1, e2] pos) (tMerge2 ta tb) := by
  refine ⟨fun pins s σ H Q I q => ?_⟩
  show wpAny _ _ (do
    standAt pos
    dictDisplay [(none, do let x ← eval e1 X.env; standAt pos; pure x), (none, do let x ← eval e2 X.env; standAt pos; pure x)]) _ _ _
  refine wpAny_bind (wpAny_standAt ?_)
  have hn := I.hok.fresh (Nat.le_refl s.heap.objs.size)
  have I1 := I.laid (a := s.heap.objs.size) (o := .dK []) (h' := s.heap.push { cls := .type "dict", data := .dict #[] }) (t' := s.toks) (fun _ _ q => Heap.get?_push_of_some _ q) (Nat.le_refl _) (dk_empty s.heap I.big)
  have q := q _ hn
  unfold dictDisplay
  simp only [List.forIn_cons, List.forIn_nil, List.isEmpty_nil, if_true]
  refine wpAny_bind ?_
  refine wpAny_bind ?_
  refine wpAny_bind (wpAny_pure ?_)
  dsimp only
  refine wpAny_bind (wpAny_alloc ?_)
  refine wpAny_bind (wpAny_holding (wpAny_bind (thn (h1.run pins _ σ _ _ I1 q) fun v s2 ⟨x, H2, I2, rx, a, ka, ex, hap, ha, hp, hz, q2⟩ => wpAny_bind (wpAny_standAt (wpAny_pure ?_)))))
  subst ex
  cases rx
  refine wpAny_bind (wpAny_onRaise (wpAny_tryCatch (wpAny_onRaise (wpAny_holding (merge_run I2 hap.symm hp ha (by rw [List.length_nil, Nat.zero_add]; exact hz) fun s3 I3 => ?_)))))
  refine wpAny_pure ?_
  dsimp only
  refine wpAny_bind ?_
  simp only [List.isEmpty_nil, if_true]
  refine wpAny_bind (wpAny_pure ?_)
  dsimp only
  refine wpAny_bind (wpAny_pure ?_)
  refine wpAny_bind (wpAny_holding (wpAny_bind (thn (h2.run pins _ σ _ _ I3 q2) fun v s4 ⟨y, H4, I4, ry, b, kb, ey, hbp, hb, hp4, hz4, q4⟩ => wpAny_bind (wpAny_standAt (wpAny_pure ?_)))))
  subst ey
  cases ry
  refine wpAny_bind (wpAny_onRaise (wpAny_tryCatch (wpAny_onRaise (wpAny_holding (merge_run I4 hbp.symm hp4 hb hz4 fun s5 I5 => ?_)))))
  refine wpAny_pure ?_
  dsimp only
  refine wpAny_pure ?_
  simp only [List.isEmpty_nil, if_true]
  refine wpAny_bind (wpAny_pure ?_)
  exact wpAny_pure ⟨.ref _, _, I5, rfl, q4⟩
end
end Sf
namespace Sf
open PySem PySem.Spec PyProof.Rows L2 TL
/-! ### reduced words as a group -/
def Rdc (x : Str) : Prop := Wd x ∧ RedS (tl x).reverse
theorem runS_short {s : List Nat} (h : RedS s) (hs : Sg s) : ∀ (n : Nat) (w : List Nat), w.length = n → Sg w → runS s (shortL w) = runS s w := by
  intro n
  induction n with
  | zero =>
    intro w hw _
    rw [List.eq_nil_of_length_eq_zero hw]
    rfl
  | succ n ih =>
    intro w hw hg
    rcases List.eq_nil_or_concat w with rfl | ⟨u, c, rfl⟩
    · rfl
    · rw [List.concat_eq_append] at *
      have hu : Sg u := fun d hd => hg d (List.mem_append_left _ hd)
      have hc : sgn c = true := hg c (List.mem_append_right _ (List.mem_singleton.mpr rfl))
      have hl : u.length = n := by
        rw [List.length_append, List.length_singleton] at hw
        omega
      have ihu := ih u hl hu
      rw [shortL_snoc, runS_app]
      show runS s (push (shortL u) c) = pushS (runS s u) c
      rw [← ihu]
      rcases List.eq_nil_or_concat (shortL u) with e | ⟨r, d, e⟩
      · rw [e]
        rfl
      · rw [List.concat_eq_append] at e
        have hd : sgn d = true := shortL_sg hu d (by rw [e]; simp)
        have hr : Sg r := fun z hz => shortL_sg hu z (by rw [e]; exact List.mem_append_left _ hz)
        rw [e, push_last]
        by_cases q : d = flipC c
        · rw [if_pos q, runS_app]
          show runS s r = pushS (pushS (runS s r) d) c
          have hinv := pushS_inv (s := runS s r) (c := d) (runS_red h) (runS_sg hs hr) hd
          have e2 : flipC d = c := by rw [q, flip2 hc]
          rw [e2] at hinv
          exact hinv.symm
        · rw [if_neg q, runS_app s (r ++ [d]) [c]]
          rfl
theorem run_self {x : Str} (h : Rdc x) : runS [] (tl x) = (tl x).reverse := by
  have := run_of_red (w := tl x) (s := []) (by rw [List.append_nil]; exact h.2)
  rw [List.append_nil] at this
  exact this
theorem tl_glu {x y : Str} (hx : Rdc x) (hy : Rdc y) : tl (gluT x y) = (runS (tl x).reverse (tl y)).reverse := by
  unfold gluT
  rw [tl_mkS, glS_run hy.2 hx.2]
theorem glu_rdc {x y : Str} (hx : Rdc x) (hy : Rdc y) : Rdc (gluT x y) := by
  refine ⟨gluT_wd hx.1 hy.1, ?_⟩
  rw [tl_glu hx hy, List.reverse_reverse]
  exact runS_red hx.2
theorem rev_sg {x : Str} (h : Wd x) : Sg (tl x).reverse := fun c hc => h c (List.mem_reverse.mp hc)
theorem glu_short {x y : Str} (hx : Rdc x) (hy : Rdc y) : tl (gluT x y) = shortL (tl x ++ tl y) := by
  rw [tl_glu hx hy]
  unfold shortL
  rw [runS_app, run_self hx]
theorem glu_assoc {x y z : Str} (hx : Rdc x) (hy : Rdc y) (hz : Rdc z) : gluT (gluT x y) z = gluT x (gluT y z) := by
  refine ext_tl ?_
  rw [tl_glu (glu_rdc hx hy) hz, tl_glu hx (glu_rdc hy hz), tl_glu hx hy, List.reverse_reverse, glu_short hy hz]
  rw [runS_short hx.2 (rev_sg hx.1) _ _ rfl (fun c hc => (List.mem_append.mp hc).elim (hy.1 c) (hz.1 c)), runS_app]
theorem rdc_nil : Rdc (Str.ofString "") := ⟨wd_nil, by rw [tl_empty]; exact True.intro⟩
theorem glu_nil {x : Str} : gluT x (Str.ofString "") = x := by
  refine ext_tl ?_
  unfold gluT
  rw [tl_mkS, tl_empty]
  cases h : (tl x).reverse with
  | nil =>
    rw [List.reverse_eq_nil_iff] at h
    rw [h]
    rfl
  | cons a l =>
    show (a :: l).reverse = _
    rw [← h, List.reverse_reverse]
theorem nil_glu {x : Str} (hx : Rdc x) : gluT (Str.ofString "") x = x := by
  refine ext_tl ?_
  rw [tl_glu rdc_nil hx, tl_empty]
  show (runS [] (tl x)).reverse = _
  rw [run_self hx, List.reverse_reverse]
theorem red_npc2 : ∀ {l : List Nat}, RedS l.reverse → Sg l → RedS (l.map flipC)
  | [], _, _ => True.intro
  | [_], _, _ => True.intro
  | x :: y :: t, h, hs => by
    rw [List.reverse_cons] at h
    have h1 : RedS (y :: t).reverse := glS_run.RedS.prefix h
    rw [List.reverse_cons, List.append_assoc] at h
    have h2 : RedS [y, x] := RedS.suffix (a := t.reverse) h
    have hx := hs x (List.mem_cons_self ..)
    have ih := red_npc2 (l := y :: t) h1 (fun c hc => hs c (List.mem_cons_of_mem _ hc))
    refine ⟨?_, ih⟩
    intro e
    rw [flip2 hx] at e
    exact h2.1 e.symm
theorem back_rdc {x : Str} (hx : Rdc x) : Rdc (backT x) := by
  refine ⟨backT_wd hx.1, ?_⟩
  show RedS (backL (tl x)).reverse
  unfold backL
  rw [List.reverse_reverse]
  exact red_npc2 hx.2 hx.1
theorem glu_back {x : Str} (hx : Rdc x) : gluT x (backT x) = Str.ofString "" := by
  refine ext_tl ?_
  rw [tl_glu hx (back_rdc hx), tl_empty]
  show (runS (tl x).reverse (backL (tl x))).reverse = []
  rw [← run_self hx, run_back (s := []) True.intro (fun _ z => by cases z) hx.1]
  rfl
theorem back_glu {x : Str} (hx : Rdc x) : gluT (backT x) x = Str.ofString "" := by
  have h := glu_back (back_rdc hx)
  rw [backT_back hx.1] at h
  exact h
theorem glu_cancel {e s : Str} (he : Rdc e) (hs : Rdc s) : gluT (backT e) (gluT e s) = s := by
  rw [← glu_assoc (back_rdc he) he hs, back_glu he, nil_glu hs]
theorem glu_cancel2 {e s : Str} (he : Rdc e) (hs : Rdc s) : gluT e (gluT (backT e) s) = s := by
  rw [← glu_assoc he (back_rdc he) hs, glu_back he, nil_glu hs]
theorem glu_inj {e s t : Str} (he : Rdc e) (hs : Rdc s) (ht : Rdc t) (h : gluT e s = gluT e t) : s = t := by
  rw [← glu_cancel he hs, ← glu_cancel he ht, h]
theorem back_of_glu {x y : Str} (hx : Rdc x) (hy : Rdc y) : backT (gluT x y) = gluT (backT y) (backT x) := by
  have h1 := glu_rdc hx hy
  have h2 := glu_rdc (back_rdc hy) (back_rdc hx)
  have e : gluT (gluT x y) (gluT (backT y) (backT x)) = Str.ofString "" := by
    rw [glu_assoc hx hy h2, glu_cancel2 hy (back_rdc hx), glu_back hx]
  have e2 := glu_cancel (s := gluT (backT y) (backT x)) h1 h2
  rw [e, glu_nil] at e2
  exact e2
theorem short_rdc {w : List Nat} (h : Sg w) : Rdc (mkS (shortL w)) := by
  refine ⟨shortL_sg h, ?_⟩
  rw [tl_mkS]
  unfold shortL
  rw [List.reverse_reverse]
  exact runS_red (s := []) True.intro
/-! ### lists without doubles -/
theorem nodup_le : ∀ {ks ms : List Str}, ks.Nodup → (∀ s ∈ ks, s ∈ ms) → ks.length ≤ ms.length
  | [], _, _, _ => Nat.zero_le _
  | k :: ks, ms, hn, h => by
    obtain ⟨a, b, rfl⟩ := List.append_of_mem (h k (List.mem_cons_self ..))
    have hk := (List.nodup_cons.mp hn)
    have ih := nodup_le (ks := ks) (ms := a ++ b) hk.2 (fun s hs => by
      have h1 := h s (List.mem_cons_of_mem _ hs)
      rcases List.mem_append.mp h1 with h1 | h1
      · exact List.mem_append_left _ h1
      · rcases List.mem_cons.mp h1 with rfl | h1
        · exact absurd hs hk.1
        · exact List.mem_append_right _ h1)
    rw [List.length_append] at ih
    rw [List.length_append, List.length_cons, List.length_cons]
    omega
theorem nodup_len {ks ms : List Str} (h1 : ks.Nodup) (h2 : ms.Nodup) (h : ∀ s, s ∈ ks ↔ s ∈ ms) : ks.length = ms.length :=
  Nat.le_antisymm (nodup_le h1 fun s hs => (h s).mp hs) (nodup_le h2 fun s hs => (h s).mpr hs)
theorem nodup_map_glu {e : Str} (he : Rdc e) : ∀ {ks : List Str}, (∀ s ∈ ks, Rdc s) → ks.Nodup → (ks.map (gluT e)).Nodup
  | [], _, _ => List.nodup_nil
  | k :: ks, hr, hn => by
    have hk := List.nodup_cons.mp hn
    rw [List.map_cons, List.nodup_cons]
    refine ⟨fun hm => ?_, nodup_map_glu he (fun s hs => hr s (List.mem_cons_of_mem _ hs)) hk.2⟩
    obtain ⟨t, ht, e2⟩ := List.mem_map.mp hm
    have := glu_inj he (hr t (List.mem_cons_of_mem _ ht)) (hr k (List.mem_cons_self ..)) e2
    rw [this] at ht
    exact hk.1 ht
/-! ### dicts of spots -/
def dOf (ks : List Str) : List (Key × V) := ks.map fun s => (Sum.inr s, V.bl true)
theorem dOf_len (ks : List Str) : (dOf ks).length = ks.length := List.length_map ..
def addS (l : List Str) (s : Str) : List Str := if s ∈ l then l else l ++ [s]
theorem any_dOf (l : List Str) (s : Str) : ((dOf l).any fun kv => decide (kv.1 = (Sum.inr s : Key))) = decide (s ∈ l) := by
  unfold dOf
  rw [List.any_map, Bool.eq_iff_iff, List.any_eq_true, decide_eq_true_eq]
  constructor
  · rintro ⟨t, ht, e⟩
    have e1 : (Sum.inr t : Key) = Sum.inr s := of_decide_eq_true e
    cases e1
    exact ht
  · intro h
    exact ⟨s, h, decide_eq_true rfl⟩
theorem put_dOf (l : List Str) (s : Str) : putK (dOf l) (Sum.inr s) (.bl true) = dOf (addS l s) := by
  unfold putK addS
  rw [any_dOf]
  by_cases h : s ∈ l
  · rw [if_pos (decide_eq_true h), if_pos h]
    unfold dOf
    rw [List.map_map]
    refine List.map_congr_left fun t _ => ?_
    show (if (Sum.inr t : Key) = Sum.inr s then ((Sum.inr t : Key), V.bl true) else (Sum.inr t, V.bl true)) = _
    split <;> rfl
  · rw [if_neg (by rw [decide_eq_false h]; exact Bool.false_ne_true), if_neg h]
    unfold dOf
    rw [List.map_append]
    rfl
theorem addS_mem {l : List Str} {s t : Str} : t ∈ addS l s ↔ t ∈ l ∨ t = s := by
  unfold addS
  by_cases h : s ∈ l
  · rw [if_pos h]
    constructor
    · exact .inl
    · rintro (h1 | rfl)
      · exact h1
      · exact h
  · rw [if_neg h, List.mem_append, List.mem_singleton]
theorem addS_nodup {l : List Str} {s : Str} (h : l.Nodup) : (addS l s).Nodup := by
  unfold addS
  by_cases hs : s ∈ l
  · rw [if_pos hs]
    exact h
  · rw [if_neg hs, List.nodup_append]
    refine ⟨h, by simp, ?_⟩
    intro a ha b hb
    rw [List.mem_singleton] at hb
    subst hb
    exact fun e => hs (e ▸ ha)
theorem addS_len (l : List Str) (s : Str) : (addS l s).length ≤ l.length + 1 := by
  unfold addS
  by_cases hs : s ∈ l
  · rw [if_pos hs]
    omega
  · rw [if_neg hs, List.length_append, List.length_singleton]
    exact Nat.le_refl _
def uni (l m : List Str) : List Str := m.foldl addS l
theorem merge_dOf : ∀ (l m : List Str), mergeV (dOf l) (dOf m) = dOf (uni l m)
  | _, [] => rfl
  | l, s :: m => by
    show mergeV (putK (dOf l) (Sum.inr s) (.bl true)) (dOf m) = _
    rw [put_dOf, merge_dOf]
    rfl
theorem uni_mem : ∀ {m l : List Str} {t : Str}, t ∈ uni l m ↔ t ∈ l ∨ t ∈ m
  | [], l, t => by simp [uni]
  | s :: m, l, t => by
    show t ∈ uni (addS l s) m ↔ _
    rw [uni_mem, addS_mem, List.mem_cons, or_assoc]
theorem uni_nodup : ∀ {m l : List Str}, l.Nodup → (uni l m).Nodup
  | [], _, h => h
  | _ :: m, _, h => uni_nodup (m := m) (addS_nodup h)
theorem uni_len : ∀ (m l : List Str), (uni l m).length ≤ l.length + m.length
  | [], l => by simp [uni]
  | s :: m, l => by
    have h1 := uni_len m (addS l s)
    have h2 := addS_len l s
    show (uni (addS l s) m).length ≤ _
    rw [List.length_cons]
    omega
theorem dOf_nil : dOf [] = [] := rfl
theorem val_dOf {l : List Str} {s : Str} (h : s ∈ l) : valV (dOf l) (Sum.inr s) = some (.bl true) := by
  induction l with
  | nil => cases h
  | cons t l ih =>
    by_cases e : t = s
    · rw [e]
      exact valV_pos rfl
    · have e2 : ¬ ((Sum.inr t : Key) = Sum.inr s) := fun z => e (Sum.inr.inj z)
      show valV ((Sum.inr t, V.bl true) :: dOf l) _ = _
      rw [valV_neg e2]
      exact ih ((List.mem_cons.mp h).resolve_left fun z => e z.symm)
theorem val_dOf_none {l : List Str} {s : Str} (h : s ∉ l) : valV (dOf l) (Sum.inr s) = none := by
  induction l with
  | nil => rfl
  | cons t l ih =>
    have e2 : ¬ ((Sum.inr t : Key) = Sum.inr s) := fun z => h (by rw [Sum.inr.inj z]; exact List.mem_cons_self ..)
    show valV ((Sum.inr t, V.bl true) :: dOf l) _ = _
    rw [valV_neg e2]
    exact ih fun z => h (List.mem_cons_of_mem _ z)
end Sf
namespace Sf
open PySem PySem.Spec PyProof.Rows L2 TL
def spotP (x : Str) : Str → Prop := fun s => ∃ i, i ≤ (tl x).length ∧ s = mkS (shortL ((tl x).take i))
end Sf
namespace Sf
open PySem PySem.Spec PyProof.Rows L2 TL
/-! ### tracks of words put behind one another and undone -/
theorem glu_shortL {u v : List Nat} (hu : Sg u) (hv : Sg v) : gluT (mkS (shortL u)) (mkS (shortL v)) = mkS (shortL (u ++ v)) := by
  refine eq_mkS ?_
  rw [glu_short (short_rdc hu) (short_rdc hv), tl_mkS, tl_mkS]
  have n0 : Sg ([] : List Nat) := fun _ z => by cases z
  have r0 : RedS ([] : List Nat) := True.intro
  have e1 := runS_short r0 n0 _ u rfl hu
  unfold shortL at e1 ⊢
  rw [runS_app, runS_app, e1]
  have e2 := runS_short (runS_red (w := u) r0) (runS_sg n0 hu) _ v rfl hv
  unfold shortL at e2
  rw [e2]
theorem glu_shortT {x y : Str} (hx : Wd x) (hy : Wd y) : gluT (shortT x) (shortT y) = shortT (x ++ y) := by
  unfold shortT
  rw [glu_shortL hx hy, tl_append]
theorem short_undo {u : List Nat} (hu : Sg u) : shortL (u ++ backL u) = [] := by
  unfold shortL
  rw [runS_app, run_back (s := []) True.intro (fun _ z => by cases z) hu]
  rfl
theorem back_shortL {u : List Nat} (hu : Sg u) : backT (mkS (shortL u)) = mkS (shortL (backL u)) := by
  have ha := short_rdc hu
  have hb := short_rdc (backL_sg hu)
  have e : gluT (mkS (shortL u)) (mkS (shortL (backL u))) = Str.ofString "" := by
    rw [glu_shortL hu (backL_sg hu), short_undo hu]
    decide +kernel
  have e2 := glu_cancel ha hb
  rw [e, glu_nil] at e2
  exact e2
theorem back_shortT {x : Str} (hx : Wd x) : backT (shortT x) = shortT (backT x) := by
  unfold shortT
  rw [back_shortL hx]
  rfl
section
def joinP (S T : Str → Prop) (e : Str) : Str → Prop := fun s => S s ∨ ∃ t, T t ∧ s = gluT e t
def backP (S : Str → Prop) (e : Str) : Str → Prop := fun s => ∃ t, S t ∧ s = gluT (backT e) t
theorem spot_join {x y : Str} (hx : Wd x) (hy : Wd y) : ∀ s, joinP (spotP x) (spotP y) (shortT x) s ↔ spotP (x ++ y) s := fun s => by
  have hsx : ∀ j, Sg ((tl x).take j) := fun j c hc => hx c (List.mem_of_mem_take hc)
  have hsy : ∀ j, Sg ((tl y).take j) := fun j c hc => hy c (List.mem_of_mem_take hc)
  unfold joinP spotP
  rw [tl_append, List.length_append]
  constructor
  · rintro (⟨j, hj, rfl⟩ | ⟨t, ⟨j, hj, rfl⟩, rfl⟩)
    · exact ⟨j, by omega, by rw [List.take_append_of_le_length hj]⟩
    · refine ⟨(tl x).length + j, by omega, ?_⟩
      unfold shortT
      rw [glu_shortL hx (hsy j), List.take_append, List.take_of_length_le (l := tl x) (by omega), Nat.add_sub_cancel_left]
  · rintro ⟨i, hi, rfl⟩
    by_cases h : i ≤ (tl x).length
    · exact .inl ⟨i, h, by rw [List.take_append_of_le_length h]⟩
    · refine .inr ⟨_, ⟨i - (tl x).length, by omega, rfl⟩, ?_⟩
      unfold shortT
      rw [glu_shortL hx (hsy _), List.take_append, List.take_of_length_le (l := tl x) (by omega)]
theorem short_mid {u v : List Nat} (hu : Sg u) (hv : Sg v) : shortL (u ++ backL v ++ v) = shortL u := by
  have n0 : Sg ([] : List Nat) := fun _ z => by cases z
  unfold shortL
  rw [runS_app, runS_app]
  have h := run_back (w := backL v) (runS_red (w := u) (s := []) True.intro) (runS_sg n0 hu) (backL_sg hv)
  rw [backL_back hv] at h
  rw [h]
theorem spot_back {x : Str} (hx : Wd x) : ∀ s, backP (spotP x) (shortT x) s ↔ spotP (backT x) s := fun s => by
  have key : ∀ j, j ≤ (tl x).length → gluT (backT (shortT x)) (mkS (shortL ((tl x).take j))) = mkS (shortL ((tl (backT x)).take ((tl x).length - j))) := fun j hj => by
    have ht : Sg ((tl x).take j) := fun c hc => hx c (List.mem_of_mem_take hc)
    have hd : Sg ((tl x).drop j) := fun c hc => hx c (List.mem_of_mem_drop hc)
    have e1 : backL (tl x) = backL ((tl x).drop j) ++ backL ((tl x).take j) := by
      rw [← backL_app, List.take_append_drop]
    have e2 : (tl (backT x)).take ((tl x).length - j) = backL ((tl x).drop j) := by
      show (backL (tl x)).take _ = _
      rw [e1]
      refine List.take_left' ?_
      unfold backL
      rw [List.length_reverse, List.length_map, List.length_drop]
    rw [e2]
    unfold shortT
    rw [back_shortL hx, glu_shortL (backL_sg hx) ht, e1, short_mid (backL_sg hd) ht]
  have el : (tl (backT x)).length = (tl x).length := by
    show (backL (tl x)).length = _
    unfold backL
    rw [List.length_reverse, List.length_map]
  constructor
  · rintro ⟨t, ⟨j, hj, rfl⟩, rfl⟩
    exact ⟨(tl x).length - j, by omega, key j hj⟩
  · rintro ⟨i, hi, rfl⟩
    rw [el] at hi
    refine ⟨_, ⟨(tl x).length - i, by omega, rfl⟩, ?_⟩
    rw [key _ (by omega)]
    congr 4
    omega
end
end Sf
namespace Sf
open PySem PySem.Spec PyProof.Rows L2 TL
/-! ### plain words -/
/-- a beginning of a word -/
def pre (s : Str) (j : Nat) : Str := mkS ((tl s).take j)
def cutL (s : Str) : Str := mkS (tl s).dropLast
theorem pre_all (s : Str) {j : Nat} (h : (tl s).length ≤ j) : pre s j = s := by
  unfold pre
  rw [List.take_of_length_le h, mkS_tl]
theorem pre_pre (s : Str) (i j : Nat) : pre (pre s i) j = pre s (min j i) := by
  unfold pre
  rw [tl_mkS, List.take_take]
theorem cutL_pre (s : Str) : cutL s = pre s ((tl s).length - 1) := by
  unfold cutL pre
  rw [List.dropLast_eq_take]
theorem short_pre : ∀ (w : List Nat) (i : Nat), i ≤ w.length → ∀ j, ∃ k, k ≤ i ∧ (shortL (w.take i)).take j = shortL (w.take k) := by
  intro w i
  induction i with
  | zero =>
    intro _ j
    refine ⟨0, Nat.le_refl _, ?_⟩
    rw [List.take_zero]
    show List.take j [] = []
    rw [List.take_nil]
  | succ i ih =>
    intro hi j
    have ih := ih (by omega)
    have e : w.take (i + 1) = w.take i ++ [w[i]] := by
      rw [List.take_add_one, List.getElem?_eq_getElem (by omega)]
      rfl
    have whole : ∃ k, k ≤ i + 1 ∧ shortL (w.take (i + 1)) = shortL (w.take k) := ⟨i + 1, Nat.le_refl _, rfl⟩
    rcases List.eq_nil_or_concat (shortL (w.take i)) with hn | ⟨r, z, hz⟩
    · have e2 : shortL (w.take (i + 1)) = [w[i]] := by
        rw [e, shortL_snoc, hn]
        rfl
      cases j with
      | zero =>
        obtain ⟨k, hk, h⟩ := ih 0
        exact ⟨k, by omega, by rw [List.take_zero, ← h, List.take_zero]⟩
      | succ j =>
        refine ⟨i + 1, Nat.le_refl _, ?_⟩
        rw [e2]
        simp
    · rw [List.concat_eq_append] at hz
      by_cases hf : z = flipC w[i]
      · have e2 : shortL (w.take (i + 1)) = r := by
          rw [e, shortL_snoc, hz, push_last, if_pos hf]
        obtain ⟨k, hk, h⟩ := ih (min j r.length)
        refine ⟨k, by omega, ?_⟩
        rw [e2, ← h, hz, List.take_append_of_le_length (Nat.min_le_right _ _), List.take_eq_take_min]
      · have e2 : shortL (w.take (i + 1)) = shortL (w.take i) ++ [w[i]] := by
          rw [e, shortL_snoc, hz, push_last, if_neg hf]
        by_cases hj : j ≤ (shortL (w.take i)).length
        · obtain ⟨k, hk, h⟩ := ih j
          refine ⟨k, by omega, ?_⟩
          rw [e2, List.take_append_of_le_length hj, h]
        · refine ⟨i + 1, Nat.le_refl _, ?_⟩
          refine List.take_of_length_le ?_
          rw [e2, List.length_append, List.length_singleton]
          omega
/-- each beginning of a spot is a spot -/
theorem spot_pre {x s : Str} (h : spotP x s) (j : Nat) : spotP x (pre s j) := by
  obtain ⟨i, hi, rfl⟩ := h
  obtain ⟨k, hk, e⟩ := short_pre (tl x) i hi j
  refine ⟨k, by omega, ?_⟩
  unfold pre
  rw [tl_mkS, e]
def Closed (L : List Str) : Prop := ∀ s ∈ L, ∀ j, pre s j ∈ L
abbrev nil : Str := Str.ofString ""
def tips (L : List Str) : List Str := L.filter fun s => decide (s ≠ nil) && decide (s ∉ L.map cutL)
def tips2 (L : List Str) : List Str := L.filter fun s => decide (s ≠ nil) && decide ((L.filter fun t => decide (pre t s.length = s)).length = 1)
theorem nil_of {s : Str} (h : (tl s).length = 0) : s = nil := ext_tl (by rw [tl_empty]; exact List.eq_nil_of_length_eq_zero h)
theorem pos_of {s : Str} (h : s ≠ nil) : 0 < (tl s).length := by
  rcases Nat.eq_zero_or_pos (tl s).length with h1 | h1
  · exact absurd (nil_of h1) h
  · exact h1
theorem cut_len {t s : Str} (h : cutL t = s) (hs : s ≠ nil) : (tl t).length = (tl s).length + 1 := by
  have e : (tl s).length = (tl t).length - 1 := by
    rw [← h]
    unfold cutL
    rw [tl_mkS, List.length_dropLast]
  have := pos_of hs
  omega
theorem tips_eq {L : List Str} (hc : Closed L) (hn : L.Nodup) : tips L = tips2 L := by
  unfold tips tips2
  refine List.filter_congr fun s hs => ?_
  by_cases h0 : s = nil
  · rw [decide_eq_false (fun z => z h0), Bool.false_and, Bool.false_and]
  · rw [decide_eq_true h0, Bool.true_and, Bool.true_and]
    have hself : s ∈ L.filter fun t => decide (pre t s.length = s) := List.mem_filter.mpr ⟨hs, decide_eq_true (pre_all s (by rw [len_tl]; exact Nat.le_refl _))⟩
    rw [Bool.eq_iff_iff, decide_eq_true_eq, decide_eq_true_eq]
    constructor
    · intro h
      have all : ∀ t ∈ L.filter fun t => decide (pre t s.length = s), t = s := fun t ht => by
        obtain ⟨hL, hp⟩ := List.mem_filter.mp ht
        have hp := of_decide_eq_true hp
        rw [len_tl] at hp
        by_cases hle : (tl t).length ≤ (tl s).length
        · rw [pre_all t hle] at hp
          exact hp
        · refine absurd (List.mem_map.mpr ⟨pre t ((tl s).length + 1), hc t hL _, ?_⟩) h
          rw [cutL_pre, pre_pre]
          have e : min ((tl (pre t ((tl s).length + 1))).length - 1) ((tl s).length + 1) = (tl s).length := by
            unfold pre
            rw [tl_mkS, List.length_take]
            omega
          rw [e]
          exact hp
      have hn2 : (L.filter fun t => decide (pre t s.length = s)).Nodup := hn.filter _
      match hF : L.filter (fun t => decide (pre t s.length = s)) with
      | [] => rw [hF] at hself; cases hself
      | [_] => rfl
      | a :: b :: r =>
        rw [hF] at all hn2
        have ea := all a (List.mem_cons_self ..)
        have eb := all b (List.mem_cons_of_mem _ (List.mem_cons_self ..))
        rw [ea, eb] at hn2
        exact absurd (List.mem_cons_self ..) (List.nodup_cons.mp hn2).1
    · intro h hm
      obtain ⟨t, ht, e⟩ := List.mem_map.mp hm
      have hl := cut_len e h0
      have ht2 : t ∈ L.filter fun t => decide (pre t s.length = s) := List.mem_filter.mpr ⟨ht, decide_eq_true (by
        rw [len_tl, ← e, cutL_pre]
        congr 1
        unfold pre
        rw [tl_mkS, List.length_take]
        omega)⟩
      match hF : L.filter (fun t => decide (pre t s.length = s)), h with
      | [z], _ =>
        rw [hF, List.mem_singleton] at hself ht2
        rw [ht2, ← hself] at hl
        omega
/-- the signs of a row of round ways -/
def rowL (ts : List Str) : List Nat := (ts.map fun s => tl s ++ backL (tl s)).flatten
def plainT (L : List Str) (e : Str) : Str := mkS (rowL (tips L) ++ tl e)
theorem red_pre : ∀ {a b : List Nat}, RedS (a ++ b).reverse → RedS a.reverse := fun {a b} h => by
  rw [List.reverse_append] at h
  exact h.suffix
theorem short_self {l : List Nat} (h : RedS l.reverse) : shortL l = l := by
  unfold shortL
  rw [run_of_red (s := []) (by rw [List.append_nil]; exact h), List.append_nil, List.reverse_reverse]
theorem spot_rdc {t : Str} (h : Rdc t) (s : Str) : spotP t s ↔ ∃ j, s = pre t j := by
  have key : ∀ j, shortL ((tl t).take j) = (tl t).take j := fun j => short_self (red_pre (b := (tl t).drop j) (by rw [List.take_append_drop]; exact h.2))
  constructor
  · rintro ⟨j, _, rfl⟩
    exact ⟨j, by rw [key]; rfl⟩
  · rintro ⟨j, rfl⟩
    refine ⟨min j (tl t).length, Nat.min_le_right _ _, ?_⟩
    rw [key]
    unfold pre
    rw [← List.take_eq_take_min]
theorem short_rdc_self {t : Str} (h : Rdc t) : shortT t = t := by
  unfold shortT
  rw [short_self h.2, mkS_tl]
theorem spot_round {t : Str} (h : Wd t) (s : Str) : spotP (t ++ backT t) s ↔ spotP t s := by
  have hr : Rdc (shortT t) := short_rdc h
  have hsp : ∀ r, spotP t r → Rdc r := fun r ⟨j, _, e⟩ => by
    rw [e]
    exact short_rdc fun c hc => h c (List.mem_of_mem_take hc)
  rw [← spot_join h (backT_wd h)]
  constructor
  · rintro (z | ⟨r, hr2, rfl⟩)
    · exact z
    · obtain ⟨t', ht', rfl⟩ := (spot_back h r).mpr hr2
      rw [glu_cancel2 hr (hsp t' ht')]
      exact ht'
  · exact .inl
theorem short_round {t : Str} (h : Wd t) : shortT (t ++ backT t) = nil := by
  unfold shortT
  rw [tl_append]
  show mkS (shortL (tl t ++ backL (tl t))) = nil
  rw [short_undo h]
  decide +kernel
theorem row_spots {e : Str} (he : Rdc e) : ∀ {ts : List Str}, (∀ t ∈ ts, Rdc t) → Wd (mkS (rowL ts ++ tl e)) ∧ shortT (mkS (rowL ts ++ tl e)) = e ∧ ∀ s, spotP (mkS (rowL ts ++ tl e)) s ↔ (∃ t ∈ ts, spotP t s) ∨ spotP e s
  | [], _ => by
    have e1 : mkS (rowL [] ++ tl e) = e := by
      show mkS ([] ++ tl e) = e
      rw [List.nil_append, mkS_tl]
    rw [e1]
    refine ⟨he.1, short_rdc_self he, fun s => ?_⟩
    constructor
    · exact .inr
    · rintro (⟨t, ht, _⟩ | h)
      · cases ht
      · exact h
  | t :: ts, h => by
    obtain ⟨h1, h2, h3⟩ := row_spots he fun u hu => h u (List.mem_cons_of_mem _ hu)
    have ht := h t (List.mem_cons_self ..)
    have hw : Wd (t ++ backT t) := ht.1.app (backT_wd ht.1)
    have e1 : mkS (rowL (t :: ts) ++ tl e) = (t ++ backT t) ++ mkS (rowL ts ++ tl e) := by
      refine ext_tl ?_
      rw [tl_append, tl_append, tl_mkS, tl_mkS]
      show ((tl t ++ backL (tl t)) ++ rowL ts) ++ tl e = (tl t ++ backL (tl t)) ++ (rowL ts ++ tl e)
      rw [List.append_assoc]
    rw [e1]
    refine ⟨hw.app h1, ?_, fun s => ?_⟩
    · rw [← glu_shortT hw h1, short_round ht.1, h2, nil_glu he]
    · rw [← spot_join hw h1]
      unfold joinP
      rw [short_round ht.1, spot_round ht.1]
      have hrd : ∀ r, spotP (mkS (rowL ts ++ tl e)) r → Rdc r := fun r ⟨j, _, e⟩ => by
        rw [e]
        exact short_rdc fun c hc => h1 c (List.mem_of_mem_take hc)
      constructor
      · rintro (z | ⟨r, hr, rfl⟩)
        · exact .inl ⟨t, List.mem_cons_self .., z⟩
        · rw [nil_glu (hrd r hr)]
          rcases (h3 r).mp hr with ⟨u, hu, z⟩ | z
          · exact .inl ⟨u, List.mem_cons_of_mem _ hu, z⟩
          · exact .inr z
      · rintro (⟨u, hu, z⟩ | z)
        · rcases List.mem_cons.mp hu with rfl | hu
          · exact .inl z
          · have hr := (h3 s).mpr (.inl ⟨u, hu, z⟩)
            exact .inr ⟨s, hr, (nil_glu (hrd s hr)).symm⟩
        · have hr := (h3 s).mpr (.inr z)
          exact .inr ⟨s, hr, (nil_glu (hrd s hr)).symm⟩
/-- each spot begins a tip -/
theorem to_tip {L : List Str} {n : Nat} (hl : ∀ s ∈ L, (tl s).length ≤ n) : ∀ (m : Nat) (s : Str), n - (tl s).length ≤ m → s ∈ L → s ≠ nil → ∃ t ∈ tips L, ∃ j, s = pre t j := by
  intro m
  induction m with
  | zero =>
    intro s hm hs h0
    have := hl s hs
    by_cases hc : s ∈ L.map cutL
    · obtain ⟨t, ht, e⟩ := List.mem_map.mp hc
      have h1 := cut_len e h0
      have h2 := hl t ht
      omega
    · refine ⟨s, List.mem_filter.mpr ⟨hs, by rw [decide_eq_true h0, decide_eq_true hc]; rfl⟩, (tl s).length, (pre_all s (Nat.le_refl _)).symm⟩
  | succ m ih =>
    intro s hm hs h0
    by_cases hc : s ∈ L.map cutL
    · obtain ⟨t, ht, e⟩ := List.mem_map.mp hc
      have h1 := cut_len e h0
      have h2 := hl t ht
      obtain ⟨u, hu, j, ej⟩ := ih t (by omega) ht (fun z => by rw [z, tl_empty] at h1; cases h1)
      refine ⟨u, hu, min ((tl t).length - 1) j, ?_⟩
      rw [← e, cutL_pre, ← pre_pre, ← ej]
    · refine ⟨s, List.mem_filter.mpr ⟨hs, by rw [decide_eq_true h0, decide_eq_true hc]; rfl⟩, (tl s).length, (pre_all s (Nat.le_refl _)).symm⟩
/-- the plain word has the same track -/
theorem plain_track {x : Str} {L : List Str} (hx : Wd x) (hm : ∀ s, s ∈ L ↔ spotP x s) : Wd (plainT L (shortT x)) ∧ shortT (plainT L (shortT x)) = shortT x ∧ ∀ s, spotP (plainT L (shortT x)) s ↔ spotP x s := by
  have hrd : ∀ r, spotP x r → Rdc r := fun r ⟨j, _, e⟩ => by
    rw [e]
    exact short_rdc fun c hc => hx c (List.mem_of_mem_take hc)
  have hend : spotP x (shortT x) := ⟨(tl x).length, Nat.le_refl _, by rw [List.take_length]; rfl⟩
  obtain ⟨h1, h2, h3⟩ := row_spots (short_rdc hx) (ts := tips L) fun t ht => hrd t ((hm t).mp (List.mem_filter.mp ht).1)
  refine ⟨h1, h2, fun s => ?_⟩
  show spotP (mkS (rowL (tips L) ++ tl (shortT x))) s ↔ _
  rw [show shortT x = mkS (shortL (tl x)) from rfl, h3]
  constructor
  · rintro (⟨t, ht, z⟩ | z)
    · have hL := (hm t).mp (List.mem_filter.mp ht).1
      obtain ⟨j, rfl⟩ := (spot_rdc (hrd t hL) s).mp z
      exact spot_pre hL j
    · obtain ⟨j, rfl⟩ := (spot_rdc (short_rdc hx) s).mp z
      exact spot_pre hend j
  · intro hs
    by_cases h0 : s = nil
    · refine .inr ((spot_rdc (short_rdc hx) s).mpr ⟨0, ?_⟩)
      rw [h0]
      unfold pre
      rw [List.take_zero]
      decide +kernel
    · have hb : ∀ r ∈ L, (tl r).length ≤ (tl x).length := fun r hr => by
        obtain ⟨j, hj, rfl⟩ := (hm r).mp hr
        rw [tl_mkS]
        have := shortL_len ((tl x).take j)
        rw [List.length_take] at this
        omega
      obtain ⟨t, ht, j, e⟩ := to_tip hb _ s (Nat.le_refl _) ((hm s).mpr hs) h0
      have hL := (hm t).mp (List.mem_filter.mp ht).1
      exact .inl ⟨t, ht, (spot_rdc (hrd t hL) s).mpr ⟨j, e⟩⟩
end Sf
namespace Sf
open PySem PySem.Spec PyProof.Rows L2 TL
/-- a round way more keeps the track -/
theorem spot_thrice {v : Str} (hv : Wd v) (s : Str) : spotP (v ++ backT v ++ v) s ↔ spotP v s := by
  rw [← spot_join (hv.app (backT_wd hv)) hv s, short_round hv]
  constructor
  · rintro (h | ⟨t, ht, rfl⟩)
    · exact (spot_round hv s).mp h
    · obtain ⟨j, hj, rfl⟩ := ht
      rw [nil_glu (short_rdc fun c hc => hv c (List.mem_of_mem_take hc))]
      exact ⟨j, hj, rfl⟩
  · exact fun h => .inl ((spot_round hv s).mpr h)
theorem short_thrice {v : Str} (hv : Wd v) : shortT (v ++ backT v ++ v) = shortT v := by
  unfold shortT
  rw [tl_append, tl_append]
  exact congrArg mkS (short_mid (u := tl v) hv hv)
theorem spot_put {u v r : Str} (hu : Wd u) (hv : Wd v) (hr : Wd r) (s : Str) : spotP (u ++ (v ++ backT v ++ v) ++ r) s ↔ spotP (u ++ v ++ r) s := by
  have h3 : Wd (v ++ backT v ++ v) := (hv.app (backT_wd hv)).app hv
  rw [← spot_join (hu.app h3) hr s, ← spot_join (hu.app hv) hr s, ← glu_shortT hu h3, ← glu_shortT hu hv, short_thrice hv]
  unfold joinP
  rw [← spot_join hu h3 s, ← spot_join hu hv s]
  unfold joinP
  simp only [spot_thrice hv]
theorem short_put {u v r : Str} (hu : Wd u) (hv : Wd v) (hr : Wd r) : shortT (u ++ (v ++ backT v ++ v) ++ r) = shortT (u ++ v ++ r) := by
  have h3 : Wd (v ++ backT v ++ v) := (hv.app (backT_wd hv)).app hv
  rw [← glu_shortT (hu.app h3) hr, ← glu_shortT (hu.app hv) hr, ← glu_shortT hu h3, ← glu_shortT hu hv, short_thrice hv]
end Sf
namespace Sf
open PySem PySem.Spec PyProof.Rows L2 TL
theorem spot_rnd2 {x y : Str} (hx : Wd x) (hy : Wd y) (s : Str) : spotP (rnd x ++ rnd y) s ↔ spotP (rnd x) s ∨ spotP (rnd y) s := by
  rw [← spot_join (rnd_wd hx) (rnd_wd hy) s]
  unfold joinP
  rw [show shortT (rnd x) = shortT (x ++ backT x) from rfl, short_round hx]
  constructor
  · rintro (h | ⟨t, ht, rfl⟩)
    · exact .inl h
    · obtain ⟨j, hj, rfl⟩ := ht
      rw [nil_glu (short_rdc fun c hc => rnd_wd hy c (List.mem_of_mem_take hc))]
      exact .inr ⟨j, hj, rfl⟩
  · rintro (h | ⟨j, hj, rfl⟩)
    · exact .inl h
    · refine .inr ⟨_, ⟨j, hj, rfl⟩, ?_⟩
      rw [nil_glu (short_rdc fun c hc => rnd_wd hy c (List.mem_of_mem_take hc))]
theorem short_rnd2 {x y : Str} (hx : Wd x) (hy : Wd y) : shortT (rnd x ++ rnd y) = shortT (rnd y ++ rnd x) := by
  rw [← glu_shortT (rnd_wd hx) (rnd_wd hy), ← glu_shortT (rnd_wd hy) (rnd_wd hx), show shortT (rnd x) = shortT (x ++ backT x) from rfl, short_round hx, show shortT (rnd y) = shortT (y ++ backT y) from rfl, short_round hy]
theorem spot_mid {u v v' r : Str} (hu : Wd u) (hv : Wd v) (hv' : Wd v') (hr : Wd r) (h : ∀ s, spotP v s ↔ spotP v' s) (e : shortT v = shortT v') (s : Str) : spotP (u ++ v ++ r) s ↔ spotP (u ++ v' ++ r) s := by
  rw [← spot_join (hu.app hv) hr s, ← spot_join (hu.app hv') hr s, ← glu_shortT hu hv, ← glu_shortT hu hv', e]
  unfold joinP
  rw [← spot_join hu hv s, ← spot_join hu hv' s]
  unfold joinP
  simp only [h]
theorem short_mid2 {u v v' r : Str} (hu : Wd u) (hv : Wd v) (hv' : Wd v') (hr : Wd r) (e : shortT v = shortT v') : shortT (u ++ v ++ r) = shortT (u ++ v' ++ r) := by
  rw [← glu_shortT (hu.app hv) hr, ← glu_shortT (hu.app hv') hr, ← glu_shortT hu hv, ← glu_shortT hu hv', e]
theorem Sp3.same {s : Sp3} (h : s.Ok) : Wd s.old ∧ Wd s.new ∧ (∀ t, spotP s.new t ↔ spotP s.old t) ∧ shortT s.new = shortT s.old := by
  cases s with
  | there i x => exact ⟨h.1, (rnd_wd h.1).app h.1, fun t => spot_thrice h.1 t, short_thrice h.1⟩
  | back i x => exact ⟨(rnd_wd h.1).app h.1, h.1, fun t => (spot_thrice h.1 t).symm, (short_thrice h.1).symm⟩
  | swap i x y =>
    obtain ⟨⟨hx, _⟩, hy, _⟩ := h
    exact ⟨(rnd_wd hx).app (rnd_wd hy), (rnd_wd hy).app (rnd_wd hx), fun t => (spot_rnd2 hy hx t).trans ((Or.comm).trans (spot_rnd2 hx hy t).symm), (short_rnd2 hx hy).symm⟩
/-- a step keeps the track -/
theorem Sp3.Fits.keeps {s : Sp3} {z : Str} (h : s.Fits z) (hz : Wd z) (hb : s.at + s.old.length ≤ z.length) : Wd (s.does z) ∧ (∀ t, spotP (s.does z) t ↔ spotP z t) ∧ shortT (s.does z) = shortT z := by
  obtain ⟨ho, hn, hs, he⟩ := Sp3.same h.ok
  obtain ⟨e1, _⟩ := cut3s z h.lo (show s.at ≤ s.at + s.old.length by omega) hb
  rw [h.eq] at e1
  have hu : Wd (cutS z none (some s.at)) := hz.cut
  have hr : Wd (cutS z (some (s.at + s.old.length)) none) := hz.cut
  refine ⟨(hu.app hn).app hr, fun t => ?_, ?_⟩
  · have := spot_mid hu hn ho hr hs he t
    rw [← e1] at this
    exact this
  · have := short_mid2 hu hn ho hr he
    rw [← e1] at this
    exact this
end Sf
namespace Sf
open PySem PySem.Spec PyProof.Rows L2 TL
def Sp3.undo : Sp3 → Sp3
  | .there i x => .back i x
  | .back i x => .there i x
  | .swap i x y => .swap i y x
theorem Sp3.Fits.undone {s : Sp3} {z : Str} (h : s.Fits z) (hb : s.at + s.old.length ≤ z.length) : s.undo.Fits (s.does z) ∧ s.undo.does (s.does z) = z := by
  have h0 := h.lo
  have eo : s.undo.old = s.new := by cases s <;> rfl
  have en : s.undo.new = s.old := by cases s <;> rfl
  have ea : s.undo.at = s.at := by cases s <;> rfl
  obtain ⟨e1, _⟩ := cut3s z h.lo (show s.at ≤ s.at + s.old.length by omega) hb
  rw [h.eq] at e1
  have lu : ((cutS z none (some s.at)).length : Int) = s.at := by
    rw [len_tl, tl_cut, List.length_take, List.length_drop, sIx_lo h.lo (by omega), show HT.sIx z.length 0 none = 0 from rfl]
    have := len_tl z
    omega
  obtain ⟨p1, p2, p3⟩ := cut_parts (cutS z none (some s.at)) s.new (cutS z (some (s.at + s.old.length)) none)
  rw [lu] at p1 p2 p3
  refine ⟨⟨?_, ?_, ?_, ?_⟩, ?_⟩
  · cases s with
    | there i x => exact h.ok
    | back i x => exact h.ok
    | swap i x y => exact ⟨h.ok.2, h.ok.1⟩
  · rw [ea]; exact h.lo
  · rw [ea]
    unfold Sp3.does
    rw [len_app, len_app]
    omega
  · rw [ea, eo]
    exact p2
  · unfold Sp3.does
    rw [ea, eo, en]
    unfold Sp3.does at *
    rw [p1, p3, ← e1]
end Sf
namespace Sf
open PySem PySem.Spec PyProof.Rows L2 TL
def Sp3.Pre : Sp3 → Prop
  | .there _ x => WdN x
  | .back _ x => WdN x
  | .swap _ x y => WdN x ∧ Wd y ∧ y.length ≤ 60
def Sp3.full : Sp3 → Prop
  | .there _ _ => True
  | .back _ _ => True
  | .swap _ _ y => y ≠ Str.ofString ""
theorem nil_len {y : Str} (h : y ≠ Str.ofString "") : 1 ≤ y.length := by
  rcases Nat.eq_zero_or_pos y.length with e | e
  · exact absurd (ext_tl (by rw [len_tl] at e; exact List.length_eq_zero_iff.mp e)) h
  · exact e
theorem len_nil {y : Str} (h : 1 ≤ y.length) : y ≠ Str.ofString "" := fun e => by
  rw [e] at h
  revert h
  decide
theorem Sp3.Pre.ok {s : Sp3} (h : s.Pre) (f : s.full) : s.Ok := by
  cases s with
  | there i x => exact h
  | back i x => exact h
  | swap i x y => exact ⟨h.1, h.2.1, nil_len f, h.2.2⟩
section
variable {H : Hp} {Q : VK} {K : PySem.W.Frag}
theorem eqV_nil {x : Str} : eqV (.str x) (.str (Str.ofString "")) = decide (x = Str.ofString "") := by
  show (x == Str.ofString "") = _
  by_cases h : x = Str.ofString ""
  · rw [h]; decide
  · rw [decide_eq_false h]
    exact beq_eq_false_iff_ne.mpr h
theorem w_inNil1 {p : Addr} {x : Str} (h : H p = some (.tup [.str x])) (hx : x ≠ Str.ofString "") (q : Q (.bl false) H) : rIn K false (.str (Str.ofString "")) (.ref p) H Q := by
  refine ⟨p, _, rfl, .inr (SqT.of h), rfl, rfl, ?_⟩
  have e : inV (.str (Str.ofString "")) [.str x] = false := by
    show (eqV (.str x) (.str (Str.ofString "")) || false) = false
    rw [eqV_nil, decide_eq_false hx]
    rfl
  rw [e]
  exact q
theorem w_inNil2 {p : Addr} {x y : Str} (h : H p = some (.tup [.str x, .str y])) (hx : x ≠ Str.ofString "") (q : Q (.bl (decide (y = Str.ofString ""))) H) : rIn K false (.str (Str.ofString "")) (.ref p) H Q := by
  refine ⟨p, _, rfl, .inr (SqT.of h), rfl, rfl, ?_⟩
  have e : inV (.str (Str.ofString "")) [.str x, .str y] = decide (y = Str.ofString "") := by
    show (eqV (.str x) (.str (Str.ofString "")) || (eqV (.str y) (.str (Str.ofString "")) || false)) = _
    rw [eqV_nil, eqV_nil, decide_eq_false hx, Bool.or_false, Bool.false_or]
  rw [e]
  exact q
end
section
variable {P : Program} {w : World} {K : PySem.W.Frag} {mg : Str → Option Value} {base : Heap} {pT : Addr}
def spLst : Sp := fun vs H Q _ => ∃ (t : Addr) (s : Sp3) (z : Str), vs = [.str z, .ref t] ∧ H t = some (.tup s.vs) ∧ s.Pre ∧ 0 ≤ s.at ∧ z.length ≤ 1000 ∧
  ∀ H', Same H H' → ((s.full ∧ cutS z (some s.at) (some (s.at + s.old.length)) = s.old) → Q (.str (s.does z)) H') ∧ (¬ (s.full ∧ cutS z (some s.at) (some (s.at + s.old.length)) = s.old) → Q .non H')
abbrev HasLst (P : Program) (w : World) (K : PySem.W.Frag) (mg : Str → Option Value) (base : Heap) : Prop := Has P w K mg base 3 "_law_stepped" ["_law_word_here", "_law_step"] spLst
theorem sc_lst : FnScope ["_law_word_here", "_law_step", "_law_at", "_law_x", "_law_trip", "_law_elder", "_law_newer", "_law_more"] ["_law_word_here", "_law_step"] (defScope s__law_stepped) := ⟨rfl, rfl, rfl, by decide +kernel, rfl, by decide +kernel, by decide +kernel⟩
theorem has_lst (F : FnAt K mg "_law_stepped" s__law_stepped ["_law_word_here", "_law_step"]) (B : Blt mg) (h_Ba : HasBack P w K mg base) : HasLst P w K mg base := F.has fun F => by
  obtain ⟨f_Ba, fd_Ba, g_Ba, k_Ba, b_Ba, G_Ba⟩ := h_Ba
  refine F.ok sc_lst (fun vs H Q E h => ?_) (fun cdv A outer s H vs Q E hr h => ?_)
  · obtain ⟨t, s, z, rfl, _⟩ := h
    rfl
  · obtain ⟨t, s3, z, rfl, ht, hp, lo, hz, q⟩ := h
    refine ⟨_, (pss_cons (ps_par (i := 2) (j := 3) (by rfl) sc_lst.nd rfl rfl (by decide) rfl rfl (pa_cons (pe_ix ix_tup (pv 1) pe_int (fun _ _ => rfl)) (pa_cons (pe_ix ix_tup (pv 1) pe_int (fun _ _ => rfl)) pa_nil)) (by rfl)) (pss_cons (ps_set (i := 4) sc_lst.nd rfl (.inl rfl) (pe_op op_addS (pv 3) (pe_call G_Ba (hr.mono (by decide)) (by rfl) g_Ba k_Ba b_Ba .nil pass0 (pa_cons (pv 3) pa_nil)))) (pss_cons (ps_par (i := 5) (j := 6) (by rfl) sc_lst.nd rfl rfl (by decide) rfl rfl (pa_cons (pv 3) (pa_cons (pe_op op_addS (pv 4) (pv 3)) pa_nil)) (by rfl)) (pss_cons (ps_if (pt_cmpR op_eq (pe_ix ix_tup (pv 1) pe_int (fun _ _ => rfl)) pe_str (nomark _)) (pss_one (ps_par (i := 5) (j := 6) (by rfl) sc_lst.nd rfl rfl (by decide) rfl rfl (pa_cons (pv 6) (pa_cons (pv 5) pa_nil)) (by rfl))) pss_nil) (pss_cons (ps_if (pt_cmpR op_eq (pe_ix ix_tup (pv 1) pe_int (fun _ _ => rfl)) pe_str (nomark _)) (pss_cons (ps_set (i := 7) sc_lst.nd rfl (.inl rfl) (pe_op op_addS (pe_ix ix_tup (pv 1) pe_int (fun _ _ => rfl)) (pe_call G_Ba (hr.mono (by decide)) (by rfl) g_Ba k_Ba b_Ba .nil pass0 (pa_cons (pe_ix ix_tup (pv 1) pe_int (fun _ _ => rfl)) pa_nil)))) (pss_one (ps_par (i := 5) (j := 6) (by rfl) sc_lst.nd rfl rfl (by decide) rfl rfl (pa_cons (pe_op op_addS (pv 4) (pv 7)) (pa_cons (pe_op op_addS (pv 7) (pv 4)) pa_nil)) (by rfl)))) pss_nil) (pss_cons (ps_if (PW.pt (pw_or (pt_cmpR op_in_seq pe_str (pe_slice sl_tupA (pv 1) (po_some pe_int) po_none) rfl) (pw_or1 (pt_cmpR op_lt (pv 2) pe_int (nomark _))))) (pss_one (ps_ret pe_non)) pss_nil) (pss_cons (ps_if (pt_cmpR op_ne (pe_slice sl_str (pv 0) (po_some (pv 2)) (po_some (pe_op op_add (pv 2) (pe_callB call_lenS (by rfl) B.len PySem.boot_len (pa_cons (pv 5) pa_nil))))) (pv 5) (nomark _)) (pss_one (ps_ret pe_non)) pss_nil) (pss_one (ps_ret (pe_op op_addS (pe_op op_addS (pe_slice sl_str (pv 0) po_none (po_some (pv 2))) (pv 6)) (pe_slice sl_str (pv 0) (po_some (pe_op op_add (pv 2) (pe_callB call_lenS (by rfl) B.len PySem.boot_len (pa_cons (pv 5) pa_nil)))) po_none))))))))))), ?_⟩
    have ln : ∀ {n : Nat}, n ≤ 10000 → n ≤ sizeLine := fun h => line_of (by omega)
    cases s3 with
    | there i x =>
      obtain ⟨hx, h1, hl⟩ := hp
      have ht : H t = some (.tup [.str (Str.ofString "there"), .int i, .str x]) := ht
      have lo : 0 ≤ i := lo
      walk_at "go"
      refine ⟨x, rfl, hx, by omega, fun H1 s1 => ?_⟩
      refine w_addS (ln (by rw [backT_len]; omega)) ?_
      walk_at "go"
      refine w_addS (ln (by rw [len_app, backT_len]; omega)) ?_
      walk_at "go"
      refine w_if2 (fun z => absurd z (by decide)) fun _ => ?_
      walk_at "go"
      refine w_if2 (fun z => absurd z (by decide)) fun _ => ?_
      walk_at "go"
      refine w_slT2 (s1.at ht) (fun u H2 hu nu => ?_)
      refine w_inNil1 hu (len_nil h1) ?_
      walk_at "go"
      refine w_if2 (fun z => absurd z (by omega)) fun _ => ?_
      walk_at "go"
      refine w_lenS (ln (by omega)) ?_
      walk_at "go"
      refine w_slS (ln (by omega)) ?_
      walk_at "go"
      obtain ⟨q1, q2⟩ := q H2 (s1.nw nu)
      refine w_ifN2 (fun ne => ?_) (fun eq => ?_)
      · walk_at "go"
        exact q2 fun h => ne h.2
      · walk_at "go"
        refine w_slS (ln (by omega)) ?_
        walk_at "go"
        refine w_addS (ln (by have := cut_le z none (some i); rw [len_app, len_app, backT_len]; omega)) ?_
        walk_at "go"
        refine w_lenS (ln (by omega)) ?_
        walk_at "go"
        refine w_slS (ln (by omega)) ?_
        refine w_addS (ln (by have := cut_le z none (some i); have := cut_le z (some (i + (x).length)) none; rw [len_app]; rw [len_app, len_app, backT_len]; omega)) ?_
        exact q1 ⟨trivial, eq⟩
    | back i x =>
      obtain ⟨hx, h1, hl⟩ := hp
      have ht : H t = some (.tup [.str (Str.ofString "back"), .int i, .str x]) := ht
      have lo : 0 ≤ i := lo
      walk_at "go"
      refine ⟨x, rfl, hx, by omega, fun H1 s1 => ?_⟩
      refine w_addS (ln (by rw [backT_len]; omega)) ?_
      walk_at "go"
      refine w_addS (ln (by rw [len_app, backT_len]; omega)) ?_
      walk_at "go"
      refine w_if2 (fun _ => ?_) (fun z => absurd rfl z)
      walk_at "go"
      refine w_if2 (fun z => absurd z (by decide)) fun _ => ?_
      walk_at "go"
      refine w_slT2 (s1.at ht) (fun u H2 hu nu => ?_)
      refine w_inNil1 hu (len_nil h1) ?_
      walk_at "go"
      refine w_if2 (fun z => absurd z (by omega)) fun _ => ?_
      walk_at "go"
      refine w_lenS (ln (by rw [len_app, len_app, backT_len]; omega)) ?_
      walk_at "go"
      refine w_slS (ln (by omega)) ?_
      walk_at "go"
      obtain ⟨q1, q2⟩ := q H2 (s1.nw nu)
      refine w_ifN2 (fun ne => ?_) (fun eq => ?_)
      · walk_at "go"
        exact q2 fun h => ne h.2
      · walk_at "go"
        refine w_slS (ln (by omega)) ?_
        walk_at "go"
        refine w_addS (ln (by have := cut_le z none (some i); omega)) ?_
        walk_at "go"
        refine w_lenS (ln (by rw [len_app, len_app, backT_len]; omega)) ?_
        walk_at "go"
        refine w_slS (ln (by omega)) ?_
        refine w_addS (ln (by have := cut_le z none (some i); have := cut_le z (some (i + (x ++ backT x ++ x).length)) none; rw [len_app]; omega)) ?_
        exact q1 ⟨trivial, eq⟩
    | swap i x y =>
      obtain ⟨⟨hx, h1, hl⟩, hy, hl'⟩ := hp
      have ht : H t = some (.tup [.str (Str.ofString "swap"), .int i, .str x, .str y]) := ht
      have lo : 0 ≤ i := lo
      walk_at "go"
      refine ⟨x, rfl, hx, by omega, fun H1 s1 => ?_⟩
      have ht1 := s1.at ht
      refine w_addS (ln (by rw [backT_len]; omega)) ?_
      walk_at "go"
      refine w_addS (ln (by rw [len_app, backT_len]; omega)) ?_
      walk_at "go"
      refine w_if2 (fun z => absurd z (by decide)) fun _ => ?_
      walk_at "go"
      refine w_if2 (fun _ => ?_) (fun z => absurd rfl z)
      walk_at "go"
      refine ⟨y, rfl, hy, by omega, fun H1' s1' => ?_⟩
      refine w_addS (ln (by rw [backT_len]; omega)) ?_
      walk_at "go"
      refine w_addS (ln (by rw [len_app, len_app, backT_len, backT_len]; omega)) ?_
      walk_at "go"
      refine w_addS (ln (by rw [len_app, len_app, backT_len, backT_len]; omega)) ?_
      walk_at "go"
      refine w_slT2 (s1'.at ht1) (fun u H2 hu nu => ?_)
      refine w_inNil2 hu (len_nil h1) ?_
      obtain ⟨q1, q2⟩ := q H2 ((s1.trans s1').nw nu)
      walk_at "go"
      refine w_or2 (fun e => ?_) (fun hne => ?_)
      · walk_at "go"
        exact q2 fun h => h.1 e
      walk_at "go"
      refine w_if2 (fun z => absurd z (by omega)) fun _ => ?_
      walk_at "go"
      refine w_lenS (ln (by rw [len_app, len_app, len_app, backT_len, backT_len]; omega)) ?_
      walk_at "go"
      refine w_slS (ln (by omega)) ?_
      walk_at "go"
      refine w_ifN2 (fun ne => ?_) (fun eq => ?_)
      · walk_at "go"
        exact q2 fun h => ne h.2
      · walk_at "go"
        refine w_slS (ln (by omega)) ?_
        walk_at "go"
        refine w_addS (ln (by have := cut_le z none (some i); rw [len_app, len_app, len_app, backT_len, backT_len]; omega)) ?_
        walk_at "go"
        refine w_lenS (ln (by rw [len_app, len_app, len_app, backT_len, backT_len]; omega)) ?_
        walk_at "go"
        refine w_slS (ln (by omega)) ?_
        refine w_addS (ln (by have := cut_le z none (some i); have := cut_le z (some (i + (x ++ backT x ++ (y ++ backT y)).length)) none; rw [len_app]; rw [len_app, len_app, len_app, backT_len, backT_len]; omega)) ?_
        exact q1 ⟨hne, eq⟩
end
end Sf
namespace Sf
open PySem PySem.Spec PyProof.Rows L2 TL
theorem Sp3.old_pos {s : Sp3} (h : s.Ok) : 1 ≤ s.old.length := by
  cases s with
  | there i x => exact h.2.1
  | back i x => obtain ⟨_, h1, _⟩ := h; show 1 ≤ (rnd x ++ x).length; rw [len_app]; omega
  | swap i x y => obtain ⟨⟨_, h1, _⟩, _⟩ := h; show 1 ≤ (rnd x ++ rnd y).length; rw [len_app, rnd_len]; omega
theorem Sp3.Fits.within {s : Sp3} {z : Str} (h : s.Fits z) : s.at + s.old.length ≤ z.length := by
  have h0 := h.lo
  have h1 := h.hi
  have h2 := Sp3.old_pos h.ok
  have e : (cutS z (some s.at) (some (s.at + s.old.length))).length = s.old.length := by rw [h.eq]
  rw [len_tl, tl_cut, List.length_take, List.length_drop, sIx_lo h0 h1] at e
  have lz := len_tl z
  rcases Int.lt_or_le z.length (s.at + s.old.length) with g | g
  · have e2 : HT.sIx z.length z.length (some (s.at + s.old.length)) = z.length := by
      have e : (if s.at + (s.old.length : Int) < 0 then (s.at + (s.old.length : Int) + (z.length : Int)).toNat else min (s.at + (s.old.length : Int)).toNat z.length) = z.length := by
        rw [if_neg (by omega)]
        omega
      exact e
    rw [e2] at e
    omega
  · exact g
def Sp3.Small (s : Sp3) : Prop := s.new.length ≤ s.old.length + 6
def FitAt (H : Hp) (z : Str) (us : List V) : Prop := ∀ v ∈ us, ∃ (t : Addr) (s : Sp3), v = .ref t ∧ H t = some (.tup s.vs) ∧ s.Fits z ∧ s.Small
theorem FitAt.same {H H' : Hp} {z : Str} {us : List V} (h : FitAt H z us) (s : Same H H') : FitAt H' z us := fun v hv => by
  obtain ⟨t, s3, e, ht, hf, hs⟩ := h v hv
  exact ⟨t, s3, e, s.at ht, hf, hs⟩
theorem FitAt.off {H H' : Hp} {z : Str} {us vs : List V} {p : Addr} (h : FitAt H z us) (hp : H p = some (.lst vs)) (o : Of p H H') : FitAt H' z us := fun v hv => by
  obtain ⟨t, s3, e, ht, hf, hs⟩ := h v hv
  exact ⟨t, s3, e, o.at (ne_of ht hp (by intro z; cases z)) ht, hf, hs⟩
end Sf
namespace Sf
open PySem PySem.Spec PyProof.Rows L2 TL
section
variable {P : Program} {w : World} {K : PySem.W.Frag} {mg : Str → Option Value} {base : Heap}
/-! ### _law_pick, of a list of things -/
def spLpk : Sp := fun vs H Q _ => ∃ (b l p : Addr) (us : List V), vs = [.ref b, .ref p] ∧ Bag H b l ∧ H p = some (.lst us) ∧ p ≠ b ∧ 1 ≤ us.length ∧ us.length ≤ 10000 ∧
  ∀ (v : V) (H' : Hp), v ∈ us → Bag H' b l → Fx b H H' → Q v H'
abbrev HasLpk (P : Program) (w : World) (K : PySem.W.Frag) (mg : Str → Option Value) (base : Heap) : Prop := Has P w K mg base 2 "_law_pick" ["_law_bag", "_law_row"] spLpk
theorem sc_lpk : FnScope ["_law_bag", "_law_row"] ["_law_bag", "_law_row"] (defScope s__law_pick) := ⟨rfl, rfl, rfl, by decide +kernel, rfl, by decide +kernel, by decide +kernel⟩
theorem has_lpk (F : FnAt K mg "_law_pick" s__law_pick ["_law_bag", "_law_row"]) (B : Blt mg) (h_Pu : HasPull P w K mg base) : HasLpk P w K mg base := F.has fun F => by
  obtain ⟨f_Pu, fd_Pu, g_Pu, k_Pu, b_Pu, G_Pu⟩ := h_Pu
  refine F.ok sc_lpk (fun vs H Q E h => ?_) (fun cdv A outer s H vs Q E hr h => ?_)
  · obtain ⟨b, l, p, us, rfl, _⟩ := h
    rfl
  · obtain ⟨b, l, p, us, rfl, hB, hp, npb, l1, l2, q⟩ := h
    refine ⟨_, (pss_one (ps_ret (pe_ix ix_list (pv 1) (pe_call G_Pu (hr.mono (by decide)) (by rfl) g_Pu k_Pu b_Pu .nil pass0 (pa_cons (pv 0) (pa_cons (pe_callB call_lenQ (by rfl) B.len PySem.boot_len (pa_cons (pv 1) pa_nil)) pa_nil))) (fun _ _ => rfl)))), ?_⟩
    walk_at "go"
    refine ⟨b, l, _, rfl, hB, by omega, by omega, fun d H1 d0 d1 B1 f1 => ?_⟩
    have hd : d.toNat < us.length := by omega
    refine w_ixL (f1.at npb hp) (at_of (j := d.toNat) (by omega) (List.getElem?_eq_getElem hd)) ?_
    exact q _ H1 (List.getElem_mem hd) B1 f1
end
end Sf
namespace Sf
open PySem PySem.Spec PyProof.Rows L2 TL
section
variable {P : Program} {w : World} {K : PySem.W.Frag} {mg : Str → Option Value} {base : Heap} {C CS fS : Addr}
/-! ### a refusal with a field that is a number -/
def spExA (K : PySem.W.Frag) (z fl : Str) : Sp := fun vs H Q _ => ∃ (a C : Addr) (i : Int), vs = [.ref a, .int i] ∧ i.natAbs.log2 < 1920 ∧ OexC K C ∧ PySem.W.findIn K (.ref C) "word" = some none ∧ PySem.W.findIn K (.ref C) fl = some none ∧ H a = some (exo a C none) ∧
  ∀ (dx : Addr) (H' : Hp), H dx = none → dx ≠ a → H' a = some (exo a C (some dx)) → H' dx = some (exd dx [(fl, .int i), (("word" : Str), .str z)]) → (∀ b, b ≠ a → b ≠ dx → H' b = H b) → Q .non H'
def kMkA (C : Addr) (sp : Sp) (W : XK) : List V → Hp → Prop := fun vs H1 => vs.length ≤ 1000 ∧ ∀ a, H1 a = none → sp (.ref a :: (vs ++ [])) (upd H1 a (exo a C none))
  (fun v H2 => v = .non ∧ ∃ (d : Addr) (fs : List (Str × V)), H2 a = some (exo a C (some d)) ∧ H2 d = some (exd d fs) ∧ H1 d = none ∧ W (.ref C) (some d) (upd (del H2 a) d (.xd fs))) (fun _ _ _ => False)
theorem w_mkOA {H : Hp} {σ : L2.St} {W : XK} {sp : Sp} {ta : TA} (q : ta σ H (kMkA C sp W)) : tMkO C sp [] ta σ H W := q
theorem w_kMkA {H : Hp} {W : XK} {z fl nm : Str} {f : Addr} {i : Int} (T : EC K mg nm C f) (nf : PySem.W.findIn K (.ref C) fl = some none) (hi : i.natAbs.log2 < 1920)
    (k : ∀ (d : Addr) (H' : Hp), H d = none → H' d = some (.xd [(fl, .int i), (("word" : Str), .str z)]) → Same H H' → W (.ref C) (some d) H') : kMkA C (spExA K z fl) W [.int i] H := by
  refine ⟨by show 1 ≤ 1000; decide, fun a na => ⟨a, C, i, rfl, hi, T.ox, T.nw, nf, upd_same, fun dx H' n ne e1 e2 e3 => ⟨rfl, dx, _, e1, e2, ?_, k dx _ ?_ upd_same fun b o e => ?_⟩⟩⟩
  · rw [upd_ne ne] at n
    exact n
  · rw [upd_ne ne] at n
    exact n
  · rw [upd_ne ne] at n
    have h1 : b ≠ dx := ne_of_none e n
    have h2 : b ≠ a := ne_of_none e na
    rw [upd_ne h1, del_ne h2, e3 b h2 h1, upd_ne h2]
    exact e
theorem toStr_len {i : Int} (h : i.natAbs.log2 < 1920) : (toString i : Str).length ≤ 1921 := int_text_len_1921 h
theorem sc_bst : FnScope ["self", "at"] ["self", "at"] (defScope s_BadStep___init__) := ⟨rfl, rfl, rfl, by decide +kernel, rfl, by decide +kernel, by decide +kernel⟩
theorem ok_bst {f : Addr} {fd fdS : FuncData} (F : Fun K "__init__" "BadStep.__init__" s_BadStep___init__ f fd) (S : SE K mg CS fS) (FS : FunD K "__init__" "SpoorError.__init__" s_SpoorError___init__ fS fdS) (bS : Binds K fdS ["self", "word", "message"] []) : FnOk P w K mg base CX0 2 f fd ["self", "at"] (spExA K (Str.ofString "badstep") "at") := by
  refine F.ok sc_bst (fun vs H Q E h => ?_) (fun cdv A outer s H vs Q E hr h => ?_)
  · obtain ⟨a, C, i, rfl, _⟩ := h
    rfl
  · obtain ⟨a, C, i, rfl, hi, ox, nw, nf, ha, q⟩ := h
    have GS : FnOk P w K mg base CX0 1 fS fdS ["self", "word", "message"] (spSE K) := ok_se FS S
    refine ⟨_, pss_cons (ps_expr (pe_clsFn (pe_glob (v := .ref CS) (by rfl) S.gC rfl) S.rd S.ga S.at_ GS hr FS.kp bS pass0 (pa_cons (pv 0) (pa_cons pe_str (pa_cons (pe_joined (.cons pe_str (.cons (pe_fmt (pv 1)) (.cons pe_str .nil)))) pa_nil))))) (pss_one (ps_ost (pv 0) (pv 1))), ?_⟩
    have l1 := toStr_len hi
    refine ⟨rfl, _, rfl, ?_⟩
    refine ⟨_, rfl, by decide +kernel, _, rfl, .inr ⟨i, rfl, hi, _, rfl, ?_, _, rfl, ?_, ?_⟩⟩
    · rw [len_app, len_app]
      have : (Str.empty.length + (Str.ofString "step ").length) = 5 := by decide +kernel
      exact line_of (by omega)
    · rw [len_app, len_app, len_app]
      have : (Str.empty.length + (Str.ofString "step ").length) = 5 := by decide +kernel
      have : (Str.ofString " is none or does not fit").length = 24 := by decide +kernel
      exact line_of (by omega)
    · refine ⟨a, C, _, _, rfl, ox, nw, ha, fun dx n ne => ?_⟩
      refine ⟨_, rfl, _, rfl, a, C, rfl, ox, nf, .inr ⟨dx, [(("word" : Str), .str (Str.ofString "badstep"))], upd_same, by rw [upd_ne ne, upd_same], by show 1 ≤ 900; decide, ?_⟩⟩
      refine q dx _ n ne (by rw [upd_ne ne.symm, upd_same]) upd_same fun b h1 h2 => ?_
      rw [upd_ne h2, upd_ne h1, upd_ne h2]
end
/-! ### steps of any form -/
/-- a number, or a text -/
def SV (v : V) : Prop := (∃ i : Int, v = .int i) ∨ ∃ x : Str, v = .str x ∧ x.length ≤ 1000 ∧ PyData.canLay0 (.str x) = true
def isWayB : V → Bool
  | .str x => !decide (x = Str.ofString "") && isW x
  | _ => false
theorem isW_iff {x : Str} : isW x = true ↔ Wd x ∧ x.length ≤ 60 := by
  unfold isW Wd
  rw [Bool.and_eq_true, decide_eq_true_eq, List.all_eq_true]
  exact And.comm
theorem isWayB_iff {x : Str} : isWayB (.str x) = true ↔ WdN x := by
  unfold isWayB
  rw [Bool.and_eq_true, isW_iff]
  constructor
  · rintro ⟨h1, h2, h3⟩
    refine ⟨h2, nil_len fun e => ?_, h3⟩
    rw [decide_eq_true e] at h1
    cases h1
  · rintro ⟨h2, h1, h3⟩
    exact ⟨by rw [decide_eq_false (len_nil h1)]; rfl, h2, h3⟩
theorem Sp3.vs_inj {s t : Sp3} (h : s.vs = t.vs) : s = t := by
  cases s <;> cases t <;> simp only [Sp3.vs, List.cons.injEq, V.str.injEq, V.int.injEq, and_true, List.cons_ne_nil, and_false, reduceCtorEq] at h
  · obtain ⟨_, rfl, rfl⟩ := h; rfl
  · exact absurd h.1 (by decide)
  · exact absurd h.1 (by decide)
  · obtain ⟨_, rfl, rfl⟩ := h; rfl
  · obtain ⟨_, rfl, rfl, rfl⟩ := h; rfl
def IsSp (z : Str) (vs : List V) (n : Int) : Prop := ∃ s : Sp3, V.str z :: vs = s.vs ∧ s.Ok ∧ 0 ≤ s.at ∧ s.at ≤ n
theorem sv_data {K : PySem.W.Frag} {H : Hp} {v : V} (h : SV v) : ∃ d, Dp K H v d ∧ PyData.canLay0 d = true ∧ d.depth ≤ 60 := by
  rcases h with ⟨i, rfl⟩ | ⟨x, rfl, _, h⟩
  · exact ⟨_, .int i, by rw [PyData.canLay0], by rw [PyData.depth]; omega⟩
  · exact ⟨_, .str x, h, by rw [PyData.depth]; omega⟩
theorem svs_data {K : PySem.W.Frag} {H : Hp} : ∀ {vs : List V}, (∀ v ∈ vs, SV v) → ∃ ds, DpAll K H vs ds ∧ (∀ d ∈ ds, PyData.canLay0 d = true ∧ d.depth ≤ 60)
  | [], _ => ⟨[], .nil, fun _ h => absurd h List.not_mem_nil⟩
  | v :: r, h => by
    obtain ⟨ds, h1, h2⟩ := svs_data (K := K) (H := H) (vs := r) fun u hu => h u (List.mem_cons_of_mem _ hu)
    obtain ⟨d, g1, g2⟩ := sv_data (K := K) (H := H) (h v List.mem_cons_self)
    refine ⟨d :: ds, .cons g1 h1, fun e he => ?_⟩
    rcases List.mem_cons.mp he with rfl | he
    · exact g2
    · exact h2 e he
theorem tuple_shaped {ds : List PyData} (h : ∀ d ∈ ds, PyData.canLay0 d = true ∧ d.depth ≤ 60) : SeqAt.shaped (.tuple ds) = true := by
  unfold SeqAt.shaped
  have e1 := lay_all (f := id) (l := ds) fun d hd => (h d hd).1
  have e2 := depth_all (f := id) (l := ds) (k := 60) fun d hd => (h d hd).2
  rw [List.map_id] at e1 e2
  rw [PyData.canLay0, e1, PyData.depth]
  simp
  omega
section
variable {P : Program} {w : World} {K : PySem.W.Frag} {mg : Str → Option Value} {base : Heap} {pT : Addr}
/-- the words that THINGS has, and another one -/
def ThW (K : PySem.W.Frag) (w : World) (p : Addr) (z : Str) : Prop := z = Str.ofString "there" ∨ z = Str.ofString "back" ∨ z = Str.ofString "swap" ∨ (KMiss K w p z ∧ z ≠ Str.ofString "there" ∧ z ≠ Str.ofString "back" ∧ z ≠ Str.ofString "swap")
def spIyG : Sp := fun vs H Q _ => ∃ v : V, vs = [v] ∧ SV v ∧ ∀ H', Same H H' → Q (.bl (isWayB v)) H'
theorem has_iyG (F : FnAt K mg "is_way" s_is_way ["thing"]) (B : Blt mg) (h_Iw : HasIsWord P w K mg base) : Has P w K mg base 2 "is_way" ["thing"] spIyG := F.has fun F => by
  obtain ⟨f_Iw, fd_Iw, g_Iw, k_Iw, b_Iw, G_Iw⟩ := h_Iw
  refine F.ok sc_iy (fun vs H Q E h => ?_) (fun cdv A outer s H vs Q E hr h => ?_)
  · obtain ⟨v, rfl, _⟩ := h
    rfl
  · obtain ⟨v, rfl, hv, q⟩ := h
    refine ⟨_, (pss_one (ps_ret (pe_and (pe_callB call_isi (by rfl) B.isinstance (by decide +kernel) (pa_cons (pv 0) (pa_cons (pe_bltn (v := .ty "str") (by rfl) B.str (by decide +kernel) rfl) pa_nil))) (pe_and (pe_cmpR op_ne (pv 0) pe_str (nomark _)) (pe_one (pe_call G_Iw (hr.mono (by decide)) (by rfl) g_Iw k_Iw b_Iw .nil pass0 (pa_cons (pv 0) pa_nil))))))), ?_⟩
    rcases hv with ⟨i, rfl⟩ | ⟨x, rfl, hl, _⟩
    · walk_at "go"
      exact q H (.refl _)
    · walk_at "go"
      refine w_andVB (fun h0 => ?_) (fun h0 => ?_)
      · walk_at "go"
        refine ⟨x, rfl, by omega, fun H' s' => ?_⟩
        have h1 : Q (.bl (!decide (x = Str.ofString "") && isW x)) H' := q H' s'
        rw [h0] at h1
        exact h1
      · have h1 : Q (.bl (!decide (x = Str.ofString "") && isW x)) H := q H (.refl _)
        rw [h0] at h1
        exact h1
def spIsG (K : PySem.W.Frag) (w : World) (p : Addr) : Sp := fun vs H Q _ => ∃ (t : Addr) (n : Int) (z : Str) (us : List V), vs = [.ref t, .int n] ∧ H t = some (.tup (.str z :: us)) ∧ ThW K w p z ∧ PyData.canLay0 (.str z) = true ∧ (∀ v ∈ us, SV v) ∧ us.length ≤ 10 ∧
  ∀ (b : Bool) (H' : Hp), Same H H' → (b = true ↔ IsSp z us n) → Q (.bl b) H'
theorem not_sp_len {z : Str} {us : List V} {n : Int} (h : IsSp z us n) : (z = Str.ofString "there" ∧ us.length = 2) ∨ (z = Str.ofString "back" ∧ us.length = 2) ∨ (z = Str.ofString "swap" ∧ us.length = 3) := by
  obtain ⟨s, e, _⟩ := h
  cases s with
  | there i x => cases e; exact .inl ⟨rfl, rfl⟩
  | back i x => cases e; exact .inr (.inl ⟨rfl, rfl⟩)
  | swap i x y => cases e; exact .inr (.inr ⟨rfl, rfl⟩)
theorem sp_at {z : Str} {v : V} {us : List V} {n : Int} (h : IsSp z (v :: us) n) : upB v n = true ∧ us.all isWayB = true := by
  obtain ⟨s, e, ok, h0, h1⟩ := h
  have key : ∀ i : Int, 0 ≤ i → i ≤ n → upB (.int i) n = true := fun i a b => by
    show (decide (0 ≤ i) && decide (i ≤ n)) = true
    rw [decide_eq_true a, decide_eq_true b]
    rfl
  cases s with
  | there i x => cases e; exact ⟨key _ h0 h1, by rw [List.all_cons, isWayB_iff.mpr ok]; rfl⟩
  | back i x => cases e; exact ⟨key _ h0 h1, by rw [List.all_cons, isWayB_iff.mpr ok]; rfl⟩
  | swap i x y => cases e; exact ⟨key _ h0 h1, by rw [List.all_cons, isWayB_iff.mpr ok.1, List.all_cons, isWayB_iff.mpr ok.2]; rfl⟩
theorem sv_way {v : V} (h : isWayB v = true) : ∃ x, v = .str x ∧ WdN x := by
  cases v with
  | str x => exact ⟨x, rfl, isWayB_iff.mp h⟩
  | _ => cases h
theorem upB_at {v : V} {n : Int} (h : upB v n = true) (hv : SV v) : ∃ i, v = .int i ∧ 0 ≤ i ∧ i ≤ n := by
  rcases hv with ⟨i, rfl⟩ | ⟨x, rfl, _⟩
  · have : (decide (0 ≤ i) && decide (i ≤ n)) = true := h
    rw [Bool.and_eq_true, decide_eq_true_eq, decide_eq_true_eq] at this
    exact ⟨i, rfl, this.1, this.2⟩
  · cases h
theorem at_sp {z : Str} {v : V} {us : List V} {n : Int} (hv : SV v) (h1 : upB v n = true) (h2 : us.all isWayB = true) (hz : ((z = Str.ofString "there" ∨ z = Str.ofString "back") ∧ us.length = 1) ∨ (z = Str.ofString "swap" ∧ us.length = 2)) : IsSp z (v :: us) n := by
  obtain ⟨i, rfl, h0, hn⟩ := upB_at h1 hv
  rcases hz with ⟨hz, hl⟩ | ⟨rfl, hl⟩
  · obtain ⟨u, rfl⟩ := List.length_eq_one_iff.mp hl
    rw [List.all_cons, Bool.and_eq_true] at h2
    obtain ⟨x, rfl, hx⟩ := sv_way h2.1
    rcases hz with rfl | rfl
    · exact ⟨.there i x, rfl, hx, h0, hn⟩
    · exact ⟨.back i x, rfl, hx, h0, hn⟩
  · match us, hl with
    | [u, u'], _ =>
      rw [List.all_cons, List.all_cons, Bool.and_eq_true, Bool.and_eq_true] at h2
      obtain ⟨x, rfl, hx⟩ := sv_way h2.1
      obtain ⟨y, rfl, hy⟩ := sv_way h2.2.1
      exact ⟨.swap i x y, rfl, ⟨hx, hy⟩, h0, hn⟩
theorem sv_flat3 {v : V} (h : SV v) : flat3 v := by
  rcases h with ⟨i, rfl⟩ | ⟨x, rfl, _⟩ <;> trivial
theorem has_isG (F : FnAt K mg "is_step" s_is_step ["step", "most"]) (B : Blt mg) (T_TH : TH K mg w pT) (h_Up : HasUp P w K mg base) (h_Iy : Has P w K mg base 2 "is_way" ["thing"] spIyG) : Has P w K mg base 3 "is_step" ["step", "most"] (spIsG K w pT) := F.has fun F => by
  obtain ⟨f_Up, fd_Up, g_Up, k_Up, b_Up, G_Up⟩ := h_Up
  obtain ⟨f_Iy, fd_Iy, g_Iy, k_Iy, b_Iy, G_Iy⟩ := h_Iy
  refine F.ok sc_is (fun vs H Q E h => ?_) (fun cdv A outer s H vs Q E hr h => ?_)
  · obtain ⟨t, n, z, us, rfl, _⟩ := h
    rfl
  · obtain ⟨t, n, z, us, rfl, ht, hk, hz, hw, hwl, q⟩ := h
    refine ⟨_, (pss_cons (ps_if (PW.pt (pw_or (pt_cmpR (op_eqD hr.units) (pv 0) (pe_tup pa_nil) (nomark _)) (pw_or1 (pt_cmpR op_ne (pe_kget1 (pe_glob (v := .ref pT) (by rfl) T_TH.gT rfl) (pe_ix ix_tup (pv 0) pe_int (fun _ _ => rfl)) ⟨rfl, rfl, rfl, rfl⟩) (pe_callB call_lenQ (by rfl) B.len PySem.boot_len (pa_cons (pv 0) pa_nil)) (nomark _))))) (pss_one (ps_ret pe_bl)) pss_nil) (pss_one (ps_ret (pe_and (pe_call G_Up (hr.mono (by decide)) (by rfl) g_Up k_Up b_Up .nil pass0 (pa_cons (pe_ix ix_tup (pv 0) pe_int (fun _ _ => rfl)) (pa_cons (pv 1) pa_nil))) (pe_one (pe_callB (cr_all rfl) (by rfl) B.all (by decide +kernel) (pa_cons (pe_lc (own := [("thing", 2)]) (g := gName 2) (tt := tYes) (by rfl) sc_is.nd (pi_tup (pe_slice sl_tupA (pv 0) (po_some pe_int) po_none)) (blkOk_by (own := [("thing", 2)]) (N := ["step", "most", "thing"]) (sc := defScope s_is_step) (by decide +kernel)) (fun _ _ _ _ _ => pg_name (i := 2) sc_is.nd rfl (.inl rfl)) (fun _ _ _ _ _ => pts_nil) (fun _ _ _ _ _ => (pe_call G_Iy (hr.mono (by decide)) (by rfl) g_Iy k_Iy b_Iy .nil pass0 (pa_cons (pv 2) pa_nil)))) pa_nil))))))), ?_⟩
    walk_at "go"
    refine w_newT (by walk_at "sz") (fun u H1 hu nu => ?_)
    have ht1 := nu.at ht
    obtain ⟨ds, dd, dl⟩ := svs_data (K := K) (H := H1) hw
    refine w_eqT ht1 hu (.cons (.str z) dd) (tuple_shaped fun d hd => ?_) ?_
    · rcases List.mem_cons.mp hd with rfl | hd
      · exact ⟨hz, by rw [PyData.depth]; omega⟩
      · exact dl d hd
    walk_at "go"
    refine w_kget ?_
    walk_at "go"
    refine w_kkg T_TH ?_
    walk_at "go"
    refine w_ixT ht1 (at_of (j := 0) rfl rfl) ?_
    have hk' : (∃ m : Int, (((z = Str.ofString "there" ∨ z = Str.ofString "back") ∧ m = 3) ∨ (z = Str.ofString "swap" ∧ m = 4)) ∧ KDct K w pT z (.int m)) ∨ (KMiss K w pT z ∧ z ≠ Str.ofString "there" ∧ z ≠ Str.ofString "back" ∧ z ≠ Str.ofString "swap") := by
      rcases hk with rfl | rfl | rfl | hk
      · exact .inl ⟨3, .inl ⟨.inl rfl, rfl⟩, T_TH.th⟩
      · exact .inl ⟨3, .inl ⟨.inr rfl, rfl⟩, T_TH.ba⟩
      · exact .inl ⟨4, .inr ⟨rfl, rfl⟩, T_TH.sw⟩
      · exact .inr hk
    clear hk
    rcases hk' with ⟨m, hm, kd⟩ | ⟨hk, n1, n2, n3⟩
    · refine w_kkg2 kd ?_
      walk_at "go"
      refine w_ifN2 (fun hne => ?_) fun hlen => ?_
      · walk_at "go"
        refine q false H1 nu.same ⟨(fun z => nomatch z), fun hs => absurd ?_ hne⟩
        rw [List.length_cons]
        rcases not_sp_len hs with ⟨rfl, hl⟩ | ⟨rfl, hl⟩ | ⟨rfl, hl⟩
        · rcases hm with ⟨_, rfl⟩ | ⟨e, _⟩
          · omega
          · exact absurd e (by decide)
        · rcases hm with ⟨_, rfl⟩ | ⟨e, _⟩
          · omega
          · exact absurd e (by decide)
        · rcases hm with ⟨e | e, _⟩ | ⟨_, rfl⟩
          · exact absurd e (by decide)
          · exact absurd e (by decide)
          · omega
      · have hl : us.length + 1 = m := by rw [List.length_cons] at hlen; omega
        match us, hw, hwl, ht, ht1, hl, q with
        | [], _, _, _, _, hl, _ =>
          exfalso
          rcases hm with ⟨_, rfl⟩ | ⟨_, rfl⟩ <;> simp at hl
        | v :: us, hw, hwl, ht, ht1, hl, q =>
          have hv := hw v List.mem_cons_self
          walk_at "go"
          refine w_ixT ht1 (at_of (j := 1) rfl rfl) ?_
          walk_at "go"
          refine ⟨_, _, rfl, sv_flat3 hv, ?_⟩
          cases hup : upB v n with
          | false =>
            walk_at "go"
            exact q false H1 nu.same ⟨(fun z => nomatch z), fun hs => by rw [(sp_at hs).1] at hup; cases hup⟩
          | true =>
            walk_at "go"
            refine w_slT2 ht1 (fun u2 H2 hu2 nu2 => ?_)
            refine w_kTupI hu2 ?_
            refine w_lcT (xs := us) (fun r j H' => Same H2 H' ∧ H2 r = none ∧ H' r = some (.lst (((us.take j).map isWayB).map V.bl))) (fun r H' hr nr => ⟨nr.same, nr.nn, hr⟩) (fun r j H' _ h => h.1.at hu2) ?_ ?_
            · rintro r j x H3 hx ⟨s3, nr, hr3⟩
              walk_at "go"
              refine ⟨x, rfl, hw x (List.mem_cons_of_mem _ (List.mem_of_getElem? hx)), fun H4 s4 => ?_⟩
              refine w_kIt (s4.at hr3) ?_ (fun H5 h5 o5 => ⟨(s3.trans s4).off o5 nr, nr, ?_⟩)
              · rw [List.length_map, List.length_map, List.length_take]
                rw [List.length_cons] at hwl
                exact lineLt_of (by omega)
              · rw [h5, tk_snoc hx, List.map_append, List.map_append]
                rfl
            · rintro r H3 ⟨s3, nr, hr3⟩
              rw [List.take_length] at hr3
              walk_at "go"
              refine w_all (bs := us.map isWayB) hr3 ?_
              have e0 : (us.map isWayB).all id = us.all isWayB := by rw [List.all_map]; rfl
              rw [e0]
              refine q _ _ ((nu.same.nw nu2).trans s3) ⟨fun h2 => at_sp hv hup h2 ?_, fun hs => (sp_at hs).2⟩
              rw [List.length_cons] at hl
              rcases hm with ⟨e, rfl⟩ | ⟨e, rfl⟩
              · exact .inl ⟨e, by omega⟩
              · exact .inr ⟨e, by omega⟩
    · refine ⟨z, rfl, .inr ⟨hk, ?_⟩⟩
      walk_at "go"
      refine ⟨rfl, ?_⟩
      rw [decide_eq_false (fun z => nomatch z)]
      walk_at "go"
      refine q false H1 nu.same ⟨(fun z => nomatch z), fun hs => ?_⟩
      rcases not_sp_len hs with ⟨e, _⟩ | ⟨e, _⟩ | ⟨e, _⟩
      · exact absurd e n1
      · exact absurd e n2
      · exact absurd e n3
def THO (K : PySem.W.Frag) (mg : Str → Option Value) (w : World) (p : Addr) : Prop := TH K mg w p ∧ KMiss K w p "on"
theorem tho_mk {K : PySem.W.Frag} {h : Heap} {mg : Str → Option Value} {w : World} {p : Addr} {es : Array DictEntry} {n : Nat} {t1 t2 t3 : Tok} (X : K.In h) (G : h.Ns mainGlobals mg) (a : PySem.W.nsIn K mainGlobals "THINGS" = some (some (.ref p)))
    (l : K.lookup p = some ⟨.type "dict", none, .dict es n, #[]⟩) (k : PySem.W.KeysLit w.params es.toList) (low : (p == sysModules) = false) (e1 : PySem.W.nsIn K p "there" = some (some (.int 3 t1))) (e2 : PySem.W.nsIn K p "back" = some (some (.int 3 t2))) (e3 : PySem.W.nsIn K p "swap" = some (some (.int 4 t3))) (e4 : PySem.W.nsIn K p "on" = some none) : THO K mg w p :=
  ⟨th_mk X G a l k low e1 e2 e3, es, n, l, k, low, e4⟩
/-! ### replaced and stepped, either way -/
variable {CB fB : Addr} {fdB : FuncData}
def xdA (z fl : Str) (i : Int) : HO := .xd [(fl, .int i), (("word" : Str), .str z)]
def spRpX (K : PySem.W.Frag) (w : World) (p CB : Addr) : Sp := fun vs H Q E => ∃ (t : Addr) (x z : Str) (us : List V) (k : Int), vs = [.str x, .ref t, .int k] ∧ H t = some (.tup (.str z :: us)) ∧ ThW K w p z ∧ PyData.canLay0 (.str z) = true ∧ (∀ v ∈ us, SV v) ∧ us.length ≤ 10 ∧ x.length ≤ 2000 ∧ k.natAbs.log2 < 1920 ∧
  (∀ (s : Sp3) (H' : Hp), V.str z :: us = s.vs → s.Fits x → Same H H' → Q (.str (s.does x)) H') ∧
  ((¬ ∃ s : Sp3, V.str z :: us = s.vs ∧ s.Fits x) → ∀ (d : Addr) (H' : Hp), H d = none → H' d = some (xdA (Str.ofString "badstep") "at" k) → Same H H' → E (.ref CB) (some d) H')
theorem has_rpX (F : FnAt K mg "replaced" s_replaced ["word", "step", "number"]) (B : Blt mg) (h_Is : Has P w K mg base 3 "is_step" ["step", "most"] (spIsG K w pT)) (h_Sds : HasSds P w K mg base)
    (T_BadStep : EC K mg "BadStep" CB fB) (nA : PySem.W.findIn K (.ref CB) "at" = some none) (G_BadStep : FnOk P w K mg base CX0 2 fB fdB ["self", "at"] (spExA K (Str.ofString "badstep") "at")) (b_BadStep : Binds K fdB ["self", "at"] []) :
    ∃ (f : Addr) (fd : FuncData), mg "replaced" = some (.ref f) ∧ PySem.W.keepIn K (.ref f) = true ∧ Binds K fd ["word", "step", "number"] [] ∧ FnOk P w K mg base (L2.CX P w) 4 f fd ["word", "step", "number"] (spRpX K w pT CB) := by
  obtain ⟨f, fd, g, F, bb⟩ := F
  refine ⟨f, fd, g, F.kp, bb, ?_⟩
  obtain ⟨f_Is, fd_Is, g_Is, k_Is, b_Is, G_Is⟩ := h_Is
  obtain ⟨f_Sds, fd_Sds, g_Sds, k_Sds, b_Sds, G_Sds⟩ := h_Sds
  refine F.okX sc_rp (fun vs H Q E h => ?_) (fun cdv A outer s H vs Q E hr h => ?_)
  · obtain ⟨t, x, z, us, k, rfl, _⟩ := h
    rfl
  · obtain ⟨t, x, z, us, k, rfl, ht, hth, hz, hus, hul, hx, hk, qr, qe⟩ := h
    refine ⟨_, (pss_cons (ps_if (pt_not (pt_val (pe_call G_Is (hr.mono (by decide)) (by rfl) g_Is k_Is b_Is .nil pass0 (pa_cons (pv 1) (pa_cons (pe_callB call_lenS (by rfl) B.len PySem.boot_len (pa_cons (pv 0) pa_nil)) pa_nil))))) (pss_one (ps_raise rfl (takes_of rfl rfl rfl rfl) (pmk_oex T_BadStep.ox T_BadStep.iC T_BadStep.tI G_BadStep (hr.mono (by decide)) b_BadStep .nil pass0 (by rfl) T_BadStep.gC (pa_cons (pv 2) pa_nil)))) pss_nil) (pss_cons (ps_asg (pe_call G_Sds (hr.mono (by decide)) (by rfl) g_Sds k_Sds b_Sds .nil pass0 (pa_cons (pv 1) pa_nil)) (pg_tup rfl (pgs_cons (pg_name (i := 3) sc_rp.nd rfl (.inl rfl)) (pgs_cons (pg_name (i := 4) sc_rp.nd rfl (.inl rfl)) pgs_nil)))) (pss_cons (ps_set (i := 5) sc_rp.nd rfl (.inl rfl) (pe_ix ix_tup (pv 1) pe_int (fun _ _ => rfl))) (pss_cons (ps_set (i := 6) sc_rp.nd rfl (.inl rfl) (pe_op op_add (pv 5) (pe_callB call_lenS (by rfl) B.len PySem.boot_len (pa_cons (pv 3) pa_nil)))) (pss_cons (ps_if (pt_cmpR op_ne (pe_slice sl_str (pv 0) (po_some (pv 5)) (po_some (pv 6))) (pv 3) (nomark _)) (pss_one (ps_raise rfl (takes_of rfl rfl rfl rfl) (pmk_oex T_BadStep.ox T_BadStep.iC T_BadStep.tI G_BadStep (hr.mono (by decide)) b_BadStep .nil pass0 (by rfl) T_BadStep.gC (pa_cons (pv 2) pa_nil)))) pss_nil) (pss_one (ps_ret (pe_op op_addS (pe_op op_addS (pe_slice sl_str (pv 0) po_none (po_some (pv 5))) (pv 4)) (pe_slice sl_str (pv 0) (po_some (pv 6)) po_none))))))))), ?_⟩
    have ln : ∀ {n : Nat}, n ≤ 10000 → n ≤ sizeLine := fun h => line_of (by omega)
    walk_at "go"
    refine w_lenS (ln (by omega)) ?_
    walk_at "go"
    refine ⟨t, _, z, us, rfl, ht, hth, hz, hus, hul, fun b H1 s1 hb => ?_⟩
    cases b with
    | false =>
      walk_at "go"
      refine w_mkOA ?_
      walk_at "go"
      refine w_kMkA T_BadStep nA hk (fun d H' nd hd s' => ?_)
      refine qe (fun ⟨s3, e, hf⟩ => ?_) d H' (s1.free nd) hd (s1.trans s')
      exact absurd (hb.mpr ⟨s3, e, hf.ok, hf.lo, hf.hi⟩) (by intro z; cases z)
    | true =>
      obtain ⟨s3, e, ok, lo, hi⟩ := hb.mp rfl
      have ht' := ht
      rw [e] at ht'
      obtain ⟨lo1, lo2⟩ := Sp3.len_old ok
      walk_at "go"
      refine ⟨t, s3, rfl, s1.at ht', ok, fun u H2 s2 hu => ?_⟩
      obtain ⟨zz, ws, ev⟩ := Sp3.vs_at s3
      have ht2 := s2.at (s1.at ht')
      rw [ev] at ht2
      walk_at "go"
      refine w_ixT ht2 (at_of (j := 1) rfl rfl) ?_
      walk_at "go"
      refine w_lenS (ln (by omega)) ?_
      walk_at "go"
      refine w_slS (ln (by omega)) ?_
      walk_at "go"
      refine w_ifN2 (fun ne => ?_) fun eq => ?_
      · refine w_mkOA ?_
        walk_at "go"
        refine w_kMkA T_BadStep nA hk (fun d H' nd hd s' => ?_)
        refine qe (fun ⟨s4, e4, hf⟩ => ?_) d H' ((s1.trans s2).free nd) hd ((s1.trans s2).trans s')
        have : s4 = s3 := Sp3.vs_inj (e4.symm.trans e)
        subst this
        exact ne hf.eq
      · walk_at "go"
        refine w_slS (ln (by omega)) ?_
        walk_at "go"
        have c1 := cut_le x none (some s3.at)
        have c2 := cut_le x (some (s3.at + s3.old.length)) none
        refine w_addS (ln (by omega)) ?_
        walk_at "go"
        refine w_slS (ln (by omega)) ?_
        refine w_addS (ln (by rw [len_app]; omega)) ?_
        exact qr s3 H2 e ⟨ok, lo, hi, eq⟩ (s1.trans s2)
end
end Sf
namespace Sf
open PySem PySem.Spec PyProof.Rows L2 TL
/-! ### the law's own step, of any place and any words -/
def Sp3.PreG : Sp3 → Prop
  | .there _ x => Wd x ∧ x.length ≤ 60
  | .back _ x => Wd x ∧ x.length ≤ 60
  | .swap _ x y => (Wd x ∧ x.length ≤ 60) ∧ Wd y ∧ y.length ≤ 60
theorem cut_beyond {z : Str} {i : Int} {b : Option Int} (h : (z.length : Int) < i) : (cutS z (some i) b).length = 0 := by
  rw [len_tl, tl_cut, List.length_take, List.length_drop]
  have e : HT.sIx z.length 0 (some i) = z.length := by
    have e : (if i < 0 then (i + (z.length : Int)).toNat else min i.toNat z.length) = z.length := by
      rw [if_neg (by omega)]
      omega
    exact e
  rw [e, len_tl]
  omega
theorem fits_of {s : Sp3} {z : Str} (ok : s.Ok) (lo : 0 ≤ s.at) (eq : cutS z (some s.at) (some (s.at + s.old.length)) = s.old) : s.Fits z := by
  refine ⟨ok, lo, ?_, eq⟩
  rcases Int.lt_or_le z.length s.at with h | h
  · have e := cut_beyond (b := some (s.at + s.old.length)) h
    rw [eq] at e
    have := Sp3.old_pos ok
    omega
  · exact h
section
variable {H : Hp} {Q : VK} {K : PySem.W.Frag}
theorem w_inNil1G {p : Addr} {x : Str} (h : H p = some (.tup [.str x])) (q : Q (.bl (decide (x = Str.ofString ""))) H) : rIn K false (.str (Str.ofString "")) (.ref p) H Q := by
  refine ⟨p, _, rfl, .inr (SqT.of h), rfl, rfl, ?_⟩
  have e : inV (.str (Str.ofString "")) [.str x] = decide (x = Str.ofString "") := by
    show (eqV (.str x) (.str (Str.ofString "")) || false) = _
    rw [eqV_nil, Bool.or_false]
  rw [e]
  exact q
theorem w_inNil2G {p : Addr} {x y : Str} (h : H p = some (.tup [.str x, .str y])) (q : Q (.bl (decide (x = Str.ofString "" ∨ y = Str.ofString ""))) H) : rIn K false (.str (Str.ofString "")) (.ref p) H Q := by
  refine ⟨p, _, rfl, .inr (SqT.of h), rfl, rfl, ?_⟩
  have e : inV (.str (Str.ofString "")) [.str x, .str y] = decide (x = Str.ofString "" ∨ y = Str.ofString "") := by
    show (eqV (.str x) (.str (Str.ofString "")) || (eqV (.str y) (.str (Str.ofString "")) || false)) = _
    rw [eqV_nil, eqV_nil, Bool.or_false, Bool.decide_or]
  rw [e]
  exact q
end
section
variable {P : Program} {w : World} {K : PySem.W.Frag} {mg : Str → Option Value} {base : Heap} {pT CB fB : Addr}
theorem split2 {F : Prop} {z : Str} {R : V → Prop} (q : ∀ due, ((F ∧ due = .str z) ∨ (¬ F ∧ due = .non)) → R due) : (F → R (.str z)) ∧ (¬ F → R .non) := ⟨fun h => q _ (.inl ⟨h, rfl⟩), fun h => q _ (.inr ⟨h, rfl⟩)⟩
def spLstG : Sp := fun vs H Q _ => ∃ (t : Addr) (s : Sp3) (z : Str), vs = [.str z, .ref t] ∧ H t = some (.tup s.vs) ∧ s.PreG ∧ z.length ≤ 1000 ∧
  ∀ (due : V) (H' : Hp), Same H H' → ((s.Fits z ∧ due = .str (s.does z)) ∨ (¬ s.Fits z ∧ due = .non)) → Q due H'
abbrev HasLstG (P : Program) (w : World) (K : PySem.W.Frag) (mg : Str → Option Value) (base : Heap) : Prop := Has P w K mg base 3 "_law_stepped" ["_law_word_here", "_law_step"] spLstG
theorem has_lstG (F : FnAt K mg "_law_stepped" s__law_stepped ["_law_word_here", "_law_step"]) (B : Blt mg) (h_Ba : HasBack P w K mg base) : HasLstG P w K mg base := F.has fun F => by
  obtain ⟨f_Ba, fd_Ba, g_Ba, k_Ba, b_Ba, G_Ba⟩ := h_Ba
  refine F.ok sc_lst (fun vs H Q E h => ?_) (fun cdv A outer s H vs Q E hr h => ?_)
  · obtain ⟨t, s, z, rfl, _⟩ := h
    rfl
  · obtain ⟨t, s3, z, rfl, ht, hp, hz, q⟩ := h
    refine ⟨_, (pss_cons (ps_par (i := 2) (j := 3) (by rfl) sc_lst.nd rfl rfl (by decide) rfl rfl (pa_cons (pe_ix ix_tup (pv 1) pe_int (fun _ _ => rfl)) (pa_cons (pe_ix ix_tup (pv 1) pe_int (fun _ _ => rfl)) pa_nil)) (by rfl)) (pss_cons (ps_set (i := 4) sc_lst.nd rfl (.inl rfl) (pe_op op_addS (pv 3) (pe_call G_Ba (hr.mono (by decide)) (by rfl) g_Ba k_Ba b_Ba .nil pass0 (pa_cons (pv 3) pa_nil)))) (pss_cons (ps_par (i := 5) (j := 6) (by rfl) sc_lst.nd rfl rfl (by decide) rfl rfl (pa_cons (pv 3) (pa_cons (pe_op op_addS (pv 4) (pv 3)) pa_nil)) (by rfl)) (pss_cons (ps_if (pt_cmpR op_eq (pe_ix ix_tup (pv 1) pe_int (fun _ _ => rfl)) pe_str (nomark _)) (pss_one (ps_par (i := 5) (j := 6) (by rfl) sc_lst.nd rfl rfl (by decide) rfl rfl (pa_cons (pv 6) (pa_cons (pv 5) pa_nil)) (by rfl))) pss_nil) (pss_cons (ps_if (pt_cmpR op_eq (pe_ix ix_tup (pv 1) pe_int (fun _ _ => rfl)) pe_str (nomark _)) (pss_cons (ps_set (i := 7) sc_lst.nd rfl (.inl rfl) (pe_op op_addS (pe_ix ix_tup (pv 1) pe_int (fun _ _ => rfl)) (pe_call G_Ba (hr.mono (by decide)) (by rfl) g_Ba k_Ba b_Ba .nil pass0 (pa_cons (pe_ix ix_tup (pv 1) pe_int (fun _ _ => rfl)) pa_nil)))) (pss_one (ps_par (i := 5) (j := 6) (by rfl) sc_lst.nd rfl rfl (by decide) rfl rfl (pa_cons (pe_op op_addS (pv 4) (pv 7)) (pa_cons (pe_op op_addS (pv 7) (pv 4)) pa_nil)) (by rfl)))) pss_nil) (pss_cons (ps_if (PW.pt (pw_or (pt_cmpR op_in_seq pe_str (pe_slice sl_tupA (pv 1) (po_some pe_int) po_none) rfl) (pw_or1 (pt_cmpR op_lt (pv 2) pe_int (nomark _))))) (pss_one (ps_ret pe_non)) pss_nil) (pss_cons (ps_if (pt_cmpR op_ne (pe_slice sl_str (pv 0) (po_some (pv 2)) (po_some (pe_op op_add (pv 2) (pe_callB call_lenS (by rfl) B.len PySem.boot_len (pa_cons (pv 5) pa_nil))))) (pv 5) (nomark _)) (pss_one (ps_ret pe_non)) pss_nil) (pss_one (ps_ret (pe_op op_addS (pe_op op_addS (pe_slice sl_str (pv 0) po_none (po_some (pv 2))) (pv 6)) (pe_slice sl_str (pv 0) (po_some (pe_op op_add (pv 2) (pe_callB call_lenS (by rfl) B.len PySem.boot_len (pa_cons (pv 5) pa_nil)))) po_none))))))))))), ?_⟩
    have ln : ∀ {n : Nat}, n ≤ 10000 → n ≤ sizeLine := fun h => line_of (by omega)
    cases s3 with
    | there i x =>
      obtain ⟨hx, hl⟩ := hp
      have ht : H t = some (.tup [.str (Str.ofString "there"), .int i, .str x]) := ht
      walk_at "go"
      refine ⟨x, rfl, hx, by omega, fun H1 s1 => ?_⟩
      refine w_addS (ln (by rw [backT_len]; omega)) ?_
      walk_at "go"
      refine w_addS (ln (by rw [len_app, backT_len]; omega)) ?_
      walk_at "go"
      refine w_if2 (fun z => absurd z (by decide)) fun _ => ?_
      walk_at "go"
      refine w_if2 (fun z => absurd z (by decide)) fun _ => ?_
      walk_at "go"
      refine w_slT2 (s1.at ht) (fun u H2 hu nu => ?_)
      obtain ⟨q1, q2⟩ := split2 fun due => q due H2 (s1.nw nu)
      refine w_inNil1G hu ?_
      walk_at "go"
      refine w_or2 (fun e => ?_) (fun hne => ?_)
      · walk_at "go"
        exact q2 fun h => len_nil h.ok.2.1 e
      walk_at "go"
      refine w_if2 (fun lt => ?_) (fun ge => ?_)
      · walk_at "go"
        exact q2 fun h => absurd h.lo (by show ¬ 0 ≤ i; omega)
      walk_at "go"
      refine w_lenS (ln (by omega)) ?_
      walk_at "go"
      refine w_slS (ln (by omega)) ?_
      walk_at "go"
      refine w_ifN2 (fun ne => ?_) (fun eq => ?_)
      · walk_at "go"
        exact q2 fun h => ne h.eq
      · walk_at "go"
        refine w_slS (ln (by omega)) ?_
        walk_at "go"
        refine w_addS (ln (by have := cut_le z none (some i); rw [len_app, len_app, backT_len]; omega)) ?_
        walk_at "go"
        refine w_lenS (ln (by omega)) ?_
        walk_at "go"
        refine w_slS (ln (by omega)) ?_
        refine w_addS (ln (by have := cut_le z none (some i); have := cut_le z (some (i + (x).length)) none; rw [len_app]; rw [len_app, len_app, backT_len]; omega)) ?_
        exact q1 (fits_of (s := .there i x) ⟨hx, nil_len hne, hl⟩ (by show 0 ≤ i; omega) eq)
    | back i x =>
      obtain ⟨hx, hl⟩ := hp
      have ht : H t = some (.tup [.str (Str.ofString "back"), .int i, .str x]) := ht
      walk_at "go"
      refine ⟨x, rfl, hx, by omega, fun H1 s1 => ?_⟩
      refine w_addS (ln (by rw [backT_len]; omega)) ?_
      walk_at "go"
      refine w_addS (ln (by rw [len_app, backT_len]; omega)) ?_
      walk_at "go"
      refine w_if2 (fun _ => ?_) (fun z => absurd rfl z)
      walk_at "go"
      refine w_if2 (fun z => absurd z (by decide)) fun _ => ?_
      walk_at "go"
      refine w_slT2 (s1.at ht) (fun u H2 hu nu => ?_)
      obtain ⟨q1, q2⟩ := split2 fun due => q due H2 (s1.nw nu)
      refine w_inNil1G hu ?_
      walk_at "go"
      refine w_or2 (fun e => ?_) (fun hne => ?_)
      · walk_at "go"
        exact q2 fun h => len_nil h.ok.2.1 e
      walk_at "go"
      refine w_if2 (fun lt => ?_) (fun ge => ?_)
      · walk_at "go"
        exact q2 fun h => absurd h.lo (by show ¬ 0 ≤ i; omega)
      walk_at "go"
      refine w_lenS (ln (by rw [len_app, len_app, backT_len]; omega)) ?_
      walk_at "go"
      refine w_slS (ln (by omega)) ?_
      walk_at "go"
      refine w_ifN2 (fun ne => ?_) (fun eq => ?_)
      · walk_at "go"
        exact q2 fun h => ne h.eq
      · walk_at "go"
        refine w_slS (ln (by omega)) ?_
        walk_at "go"
        refine w_addS (ln (by have := cut_le z none (some i); omega)) ?_
        walk_at "go"
        refine w_lenS (ln (by rw [len_app, len_app, backT_len]; omega)) ?_
        walk_at "go"
        refine w_slS (ln (by omega)) ?_
        refine w_addS (ln (by have := cut_le z none (some i); have := cut_le z (some (i + (x ++ backT x ++ x).length)) none; rw [len_app]; omega)) ?_
        exact q1 (fits_of (s := .back i x) ⟨hx, nil_len hne, hl⟩ (by show 0 ≤ i; omega) eq)
    | swap i x y =>
      obtain ⟨⟨hx, hl⟩, hy, hl'⟩ := hp
      have ht : H t = some (.tup [.str (Str.ofString "swap"), .int i, .str x, .str y]) := ht
      walk_at "go"
      refine ⟨x, rfl, hx, by omega, fun H1 s1 => ?_⟩
      have ht1 := s1.at ht
      refine w_addS (ln (by rw [backT_len]; omega)) ?_
      walk_at "go"
      refine w_addS (ln (by rw [len_app, backT_len]; omega)) ?_
      walk_at "go"
      refine w_if2 (fun z => absurd z (by decide)) fun _ => ?_
      walk_at "go"
      refine w_if2 (fun _ => ?_) (fun z => absurd rfl z)
      walk_at "go"
      refine ⟨y, rfl, hy, by omega, fun H1' s1' => ?_⟩
      refine w_addS (ln (by rw [backT_len]; omega)) ?_
      walk_at "go"
      refine w_addS (ln (by rw [len_app, len_app, backT_len, backT_len]; omega)) ?_
      walk_at "go"
      refine w_addS (ln (by rw [len_app, len_app, backT_len, backT_len]; omega)) ?_
      walk_at "go"
      refine w_slT2 (s1'.at ht1) (fun u H2 hu nu => ?_)
      refine w_inNil2G hu ?_
      obtain ⟨q1, q2⟩ := split2 fun due => q due H2 ((s1.trans s1').nw nu)
      walk_at "go"
      refine w_or2 (fun e => ?_) (fun hne => ?_)
      · walk_at "go"
        exact q2 fun h => e.elim (len_nil h.ok.1.2.1) (len_nil h.ok.2.2.1)
      walk_at "go"
      refine w_if2 (fun lt => ?_) (fun ge => ?_)
      · walk_at "go"
        exact q2 fun h => absurd h.lo (by show ¬ 0 ≤ i; omega)
      walk_at "go"
      refine w_lenS (ln (by rw [len_app, len_app, len_app, backT_len, backT_len]; omega)) ?_
      walk_at "go"
      refine w_slS (ln (by omega)) ?_
      walk_at "go"
      refine w_ifN2 (fun ne => ?_) (fun eq => ?_)
      · walk_at "go"
        exact q2 fun h => ne h.eq
      · walk_at "go"
        refine w_slS (ln (by omega)) ?_
        walk_at "go"
        refine w_addS (ln (by have := cut_le z none (some i); rw [len_app, len_app, len_app, backT_len, backT_len]; omega)) ?_
        walk_at "go"
        refine w_lenS (ln (by rw [len_app, len_app, len_app, backT_len, backT_len]; omega)) ?_
        walk_at "go"
        refine w_slS (ln (by omega)) ?_
        refine w_addS (ln (by have := cut_le z none (some i); have := cut_le z (some (i + (x ++ backT x ++ (y ++ backT y)).length)) none; rw [len_app]; rw [len_app, len_app, len_app, backT_len, backT_len]; omega)) ?_
        exact q1 (fits_of (s := .swap i x y) ⟨⟨hx, nil_len fun e => hne (.inl e), hl⟩, hy, nil_len fun e => hne (.inr e), hl'⟩ (by show 0 ≤ i; omega) eq)
end
end Sf
namespace Sf
open PySem PySem.Spec PyProof.Rows L2 TL
theorem wd_canLay {x : Str} (h : Wd x) : PyData.canLay0 (.str x) = true := strOk_wd h
theorem sv_int (i : Int) : SV (.int i) := .inl ⟨i, rfl⟩
theorem sv_wd {x : Str} (h : Wd x) (hl : x.length ≤ 1000) : SV (.str x) := .inr ⟨x, rfl, hl, strOk_wd h⟩
theorem Sp3.vs_cons (s : Sp3) (h : s.PreG) : ∃ (z : Str) (us : List V), s.vs = .str z :: us ∧ PyData.canLay0 (.str z) = true ∧ (z = Str.ofString "there" ∨ z = Str.ofString "back" ∨ z = Str.ofString "swap") ∧ us.length ≤ 10 ∧ ∀ v ∈ us, SV v := by
  cases s with
  | there i x =>
    refine ⟨_, _, rfl, by decide +kernel, .inl rfl, (by show 2 ≤ 10; decide), fun v hv => ?_⟩
    simp only [List.mem_cons, List.not_mem_nil, or_false] at hv
    rcases hv with rfl | rfl
    · exact sv_int _
    · exact sv_wd h.1 (by have := h.2; omega)
  | back i x =>
    refine ⟨_, _, rfl, by decide +kernel, .inr (.inl rfl), (by show 2 ≤ 10; decide), fun v hv => ?_⟩
    simp only [List.mem_cons, List.not_mem_nil, or_false] at hv
    rcases hv with rfl | rfl
    · exact sv_int _
    · exact sv_wd h.1 (by have := h.2; omega)
  | swap i x y =>
    refine ⟨_, _, rfl, by decide +kernel, .inr (.inr rfl), (by show 3 ≤ 10; decide), fun v hv => ?_⟩
    simp only [List.mem_cons, List.not_mem_nil, or_false] at hv
    rcases hv with rfl | rfl | rfl
    · exact sv_int _
    · exact sv_wd h.1.1 (by have := h.1.2; omega)
    · exact sv_wd h.2.1 (by have := h.2.2; omega)
theorem eqv_pair {H : Hp} {p q : Addr} {v1 v2 : V} (h : H p = some (.lst [v1, v2])) (h' : H q = some (.lst [v1, v2])) (f1 : flat4 v1 = true) (f2 : flat4 v2 = true) {n : Nat} : Eqv H (n + 1) (.ref p) (.ref q) := by
  refine .inr ⟨p, q, _, _, rfl, rfl, .inl ⟨h, h'⟩, rfl, (by show 2 ≤ 100000; decide), fun j x y hx hy => ?_⟩
  rw [hx] at hy
  cases hy
  have := List.mem_of_getElem? hx
  simp only [List.mem_cons, List.not_mem_nil, or_false] at this
  rcases this with rfl | rfl
  · exact .flat f1
  · exact .flat f2
theorem nil_app (x : Str) : Str.ofString "" ++ x = x := ext_tl (by rw [tl_append]; rfl)
theorem app_nil (x : Str) : x ++ Str.ofString "" = x := ext_tl (by rw [tl_append]; exact List.append_nil _)
/-- a word of 60 signs there and back and there -/
theorem there_whole {z : Str} (hz : Wd z) (hl : z.length = 60) : (Sp3.there 0 z).Fits z ∧ (Sp3.there 0 z).does z = z ++ backT z ++ z := by
  have e := cut_parts (Str.ofString "") z (Str.ofString "")
  rw [nil_app, app_nil] at e
  obtain ⟨e1, e2, e3⟩ := e
  have l0 : ((Str.ofString "").length : Int) = 0 := by decide
  rw [l0] at e1 e2 e3
  refine ⟨⟨⟨hz, by omega, by omega⟩, by show (0 : Int) ≤ 0; decide, by show (0 : Int) ≤ _; omega, e2⟩, ?_⟩
  show cutS z none (some 0) ++ (rnd z ++ z) ++ cutS z (some (0 + (z.length : Int))) none = _
  rw [e1, e3, nil_app, app_nil]
  rfl
end Sf
namespace Sf
open PySem PySem.Spec PyProof.Rows L2 TL
/-! ### rows of steps -/
def runs (x : Str) (ss : List Sp3) : Str := ss.foldl (fun z s => s.does z) x
theorem runs_snoc (x : Str) (ss : List Sp3) (s : Sp3) : runs x (ss ++ [s]) = s.does (runs x ss) := by
  unfold runs
  rw [List.foldl_append]
  rfl
theorem runs_take {x : Str} {ss : List Sp3} {i : Nat} {s : Sp3} (h : ss[i]? = some s) : runs x (ss.take (i + 1)) = s.does (runs x (ss.take i)) := by
  rw [tk_snoc h, runs_snoc]
def Chn (x : Str) (ss : List Sp3) : Prop := ∀ i s, ss[i]? = some s → s.Fits (runs x (ss.take i)) ∧ (runs x (ss.take i)).length ≤ 2000
theorem Chn.nil {x : Str} : Chn x [] := fun i s h => by simp at h
theorem Chn.snoc {x : Str} {ss : List Sp3} {s : Sp3} (h : Chn x ss) (hf : s.Fits (runs x ss)) (hl : (runs x ss).length ≤ 2000) : Chn x (ss ++ [s]) := fun i t ht => by
  rcases Nat.lt_or_ge i ss.length with hi | hi
  · rw [List.getElem?_append_left hi] at ht
    rw [List.take_append_of_le_length (by omega)]
    exact h i t ht
  · rw [List.getElem?_append_right hi] at ht
    have e : i - ss.length = 0 := by
      rcases Nat.eq_zero_or_pos (i - ss.length) with e | e
      · exact e
      · rw [List.getElem?_eq_none (by simp; omega)] at ht
        cases ht
    rw [e] at ht
    cases ht
    have e2 : i = ss.length := by omega
    subst e2
    rw [List.take_left]
    exact ⟨hf, hl⟩
theorem Chn.take {x : Str} {ss : List Sp3} (h : Chn x ss) (n : Nat) : Chn x (ss.take n) := fun i s hs => by
  have hi : i < n := by
    rcases Nat.lt_or_ge i n with g | g
    · exact g
    · rw [List.getElem?_take_eq_none g] at hs
      cases hs
  rw [List.getElem?_take_of_lt hi] at hs
  rw [List.take_take, Nat.min_eq_left (by omega)]
  exact h i s hs
/-- what holds of all words on the way -/
theorem Chn.each {x : Str} {R : Str → Prop} (h0 : R x) (hs : ∀ (z : Str) (s : Sp3), R z → s.Fits z → R (s.does z)) : ∀ {ss : List Sp3}, Chn x ss → R (runs x ss) := fun {ss} h => by
  have key : ∀ n, n ≤ ss.length → R (runs x (ss.take n)) := fun n => by
    induction n with
    | zero => intro _; exact h0
    | succ n ih =>
      intro hn
      have e : ss[n]? = some ss[n] := List.getElem?_eq_getElem (by omega)
      rw [runs_take e]
      exact hs _ _ (ih (by omega)) (h n _ e).1
  have := key ss.length (Nat.le_refl _)
  rw [List.take_length] at this
  exact this
def StAt (H : Hp) (v : V) (s : Sp3) : Prop := ∃ t, v = .ref t ∧ H t = some (.tup s.vs)
abbrev StsAt (H : Hp) (us : List V) (ss : List Sp3) : Prop := Paired (StAt H) us ss
def TpsS (H H' : Hp) : Prop := ∀ a xs, H a = some (.tup xs) → H' a = some (.tup xs)
theorem StsAt.tps {H H' : Hp} (s : TpsS H H') {us : List V} {ss : List Sp3} (h : StsAt H us ss) : StsAt H' us ss := Paired.mapP h fun v m ⟨t, e, ht⟩ => ⟨t, e, s _ _ ht⟩
theorem TpsS.of {H H' : Hp} (s : Same H H') : TpsS H H' := fun a xs h => s _ _ h
theorem TpsS.fx {H H1 : Hp} {b l : Addr} (h : Bag H b l) (f : Fx b H H1) : TpsS H H1 := fun c xs e => f _ _ e (by
  obtain ⟨ns, k, z, r, hb⟩ := h
  exact ne_of e hb.hb (by intro q; cases q))
theorem TpsS.off {H H1 : Hp} {p : Addr} {ys : List V} (h1 : H p = some (.lst ys)) (b : Of p H H1) : TpsS H H1 := fun c xs h => b.at (ne_of h h1 (by intro z; cases z)) h
theorem paired_getS {α β : Type} {R : α → β → Prop} : ∀ {as : List α} {bs : List β} {i : Nat} {a : α}, Paired R as bs → as[i]? = some a → ∃ b, bs[i]? = some b ∧ R a b
  | _, _, _, _, .nil, e => by simp at e
  | _, _, 0, _, .cons r _, e => by simp at e; subst e; exact ⟨_, rfl, r⟩
  | _, _, i + 1, x, .cons _ t, e => by
    obtain ⟨u, h1, h2⟩ := paired_getS (i := i) (a := x) t (by simpa using e)
    exact ⟨u, by simpa using h1, h2⟩
theorem paired_len {α β : Type} {R : α → β → Prop} : ∀ {as : List α} {bs : List β}, Paired R as bs → as.length = bs.length
  | _, _, .nil => rfl
  | _, _, .cons _ t => by rw [List.length_cons, List.length_cons, paired_len t]
theorem paired_app {α β : Type} {R : α → β → Prop} : ∀ {as as' : List α} {bs bs' : List β}, Paired R as bs → Paired R as' bs' → Paired R (as ++ as') (bs ++ bs')
  | _, _, _, _, .nil, h => h
  | _, _, _, _, .cons r t, h => .cons r (paired_app t h)
theorem paired_take {α β : Type} {R : α → β → Prop} : ∀ {as : List α} {bs : List β} (n : Nat), Paired R as bs → Paired R (as.take n) (bs.take n)
  | _, _, 0, _ => .nil
  | _, _, _ + 1, .nil => .nil
  | _, _, n + 1, .cons r t => .cons r (paired_take n t)
theorem Sp3.Ok.preG {s : Sp3} (h : s.Ok) : s.PreG := by
  cases s with
  | there i x => exact ⟨h.1, h.2.2⟩
  | back i x => exact ⟨h.1, h.2.2⟩
  | swap i x y => exact ⟨⟨h.1.1, h.1.2.2⟩, h.2.1, h.2.2.2⟩
theorem log_small {i : Int} (h : i.natAbs ≤ 100000) : i.natAbs.log2 < 1920 := by
  rcases Nat.eq_zero_or_pos i.natAbs with e | e
  · rw [e]; decide
  · exact (Nat.log2_lt (by omega)).mpr (Nat.lt_of_le_of_lt h (Nat.lt_of_lt_of_le (show 100000 < 2 ^ 17 by decide) (Nat.pow_le_pow_right (by decide) (by decide))))
def BadSt (K : PySem.W.Frag) (w : World) (pT : Addr) (H : Hp) (v : V) (y : Str) : Prop := ∃ (t : Addr) (z : Str) (us : List V), v = .ref t ∧ H t = some (.tup (.str z :: us)) ∧ ThW K w pT z ∧ PyData.canLay0 (.str z) = true ∧ (∀ v ∈ us, SV v) ∧ us.length ≤ 10 ∧ ¬ ∃ s : Sp3, V.str z :: us = s.vs ∧ s.Fits y
section
variable {P : Program} {w : World} {K : PySem.W.Frag} {mg : Str → Option Value} {base : Heap} {pT CB fB : Addr}
def spWk (K : PySem.W.Frag) (w : World) (pT CB : Addr) : Sp := fun vs H Q E => ∃ (a : Addr) (x : Str) (us rest : List V) (ss : List Sp3), vs = [.str x, .ref a] ∧ H a = some (.lst (us ++ rest)) ∧ Wd x ∧ x.length ≤ 60 ∧ StsAt H us ss ∧ Chn x ss ∧ (runs x ss).length ≤ 2000 ∧ ss.length ≤ 1000 ∧
  ((rest = [] ∧ ∀ H', Same H H' → Q (.str (runs x ss)) H') ∨ (∃ v r, rest = v :: r ∧ BadSt K w pT H v (runs x ss) ∧ ∀ (d : Addr) (H' : Hp), H d = none → H' d = some (xdA (Str.ofString "badstep") "at" ss.length) → Same H H' → E (.ref CB) (some d) H'))
theorem sc_wk : FnScope ["word", "steps", "here", "number", "step"] ["word", "steps"] (defScope s_walked) := ⟨rfl, rfl, rfl, by decide +kernel, rfl, by decide +kernel, by decide +kernel⟩
theorem has_wk (F : FnAt K mg "walked" s_walked ["word", "steps"]) (Be : mg "enumerate" = none) (h_Ne : HasNeed P w K mg base) (h_Rp : ∃ (f : Addr) (fd : FuncData), mg "replaced" = some (.ref f) ∧ PySem.W.keepIn K (.ref f) = true ∧ Binds K fd ["word", "step", "number"] [] ∧ FnOk P w K mg base (L2.CX P w) 4 f fd ["word", "step", "number"] (spRpX K w pT CB)) :
    ∃ (f : Addr) (fd : FuncData), mg "walked" = some (.ref f) ∧ PySem.W.keepIn K (.ref f) = true ∧ Binds K fd ["word", "steps"] [] ∧ FnOk P w K mg base (L2.CX P w) 5 f fd ["word", "steps"] (spWk K w pT CB) := by
  obtain ⟨f, fd, g, F, bb⟩ := F
  refine ⟨f, fd, g, F.kp, bb, ?_⟩
  obtain ⟨f_Ne, fd_Ne, g_Ne, k_Ne, b_Ne, G_Ne⟩ := h_Ne
  obtain ⟨f_Rp, fd_Rp, g_Rp, k_Rp, b_Rp, G_Rp⟩ := h_Rp
  refine F.okX sc_wk (fun vs H Q E h => ?_) (fun cdv A outer s H vs Q E hr h => ?_)
  · obtain ⟨a, x, us, rest, ss, rfl, _⟩ := h
    rfl
  · obtain ⟨a, x, us, rest, ss, rfl, ha, hx, hl, hss, hch, hrl, hsl, hq⟩ := h
    refine ⟨_, (pss_cons (ps_expr (pe_call G_Ne (hr.mono (by decide)) (by rfl) g_Ne k_Ne b_Ne .nil pass0 (pa_cons (pv 0) pa_nil))) (pss_cons (ps_set (i := 2) sc_wk.nd rfl (.inl rfl) (pv 0)) (pss_cons (ps_for (passes_of rfl) rfl (pi_enum (by rfl) Be (pa_cons (pv 1) pa_nil)) (pg_tup rfl (pgs_cons (pg_name (i := 3) sc_wk.nd rfl (.inl rfl)) (pgs_cons (pg_name (i := 4) sc_wk.nd rfl (.inl rfl)) pgs_nil))) (pss_one (ps_set (i := 2) sc_wk.nd rfl (.inl rfl) (pe_call G_Rp (hr.mono (by decide)) (by rfl) g_Rp k_Rp b_Rp .nil (passes_call (takes_of rfl rfl rfl rfl) (fun _ _ _ _ h => h)) (pa_cons (pv 2) (pa_cons (pv 4) (pa_cons (pv 3) pa_nil))))))) (pss_one (ps_ret (pv 2)))))), ?_⟩
    have hul : us.length = ss.length := paired_len hss
    walk_at "go"
    refine ⟨x, rfl, hx, hl, fun H1 s1 => ?_⟩
    walk_at "go"
    refine w_enum (xs := us ++ rest) (fun i σ H' => i ≤ ss.length ∧ ∃ (y2 y3 : Option V), σ = [some (.str x), some (.ref a), some (.str (runs x (ss.take i))), y2, y3] ∧ Same H H') ⟨Nat.zero_le _, none, none, rfl, s1⟩ (fun i σ H' _ h => by obtain ⟨_, _, _, _, h⟩ := h; exact h.at ha) ?_ ?_
    · rintro i v t σ H2 H3 hv ⟨hi, y2, y3, rfl, s2⟩ ht nt
      have s3 : Same H H3 := s2.nw nt
      rcases Nat.lt_or_ge i ss.length with hlt | hge
      · rw [List.getElem?_append_left (by omega)] at hv
        obtain ⟨s0, hs0, t0, rfl, ht0⟩ := paired_getS hss hv
        obtain ⟨hfit, hlen⟩ := hch i s0 hs0
        obtain ⟨zz, ws, ev, cz, hzz, lus, svs⟩ := s0.vs_cons hfit.ok.preG
        have hth : ThW K w pT zz := by
          rcases hzz with h | h | h
          · exact .inl h
          · exact .inr (.inl h)
          · exact .inr (.inr (.inl h))
        walk_at "go"
        refine ⟨t0, _, zz, ws, _, rfl, by rw [← ev]; exact s3.at ht0, hth, cz, svs, lus, hlen, log_small (by omega), fun s4 H4 e4 hf4 s4' => ?_, fun hn => absurd ⟨s0, ev.symm, hfit⟩ hn⟩
        have : s4 = s0 := Sp3.vs_inj (e4.symm.trans ev.symm)
        subst this
        walk_at "go"
        exact ⟨hlt, _, _, by rw [runs_take hs0]; rfl, s3.trans s4'⟩
      · have ei : i = ss.length := by omega
        subst ei
        rcases hq with ⟨rfl, _⟩ | ⟨v', r, rfl, hbad, qe⟩
        · rw [List.append_nil, List.getElem?_eq_none (by omega)] at hv
          cases hv
        · rw [List.getElem?_append_right (by omega), hul, Nat.sub_self] at hv
          cases hv
          obtain ⟨t0, z0, ws, rfl, ht0, hth, cz, svs, lus, hno⟩ := hbad
          rw [List.take_length]
          walk_at "go"
          refine ⟨t0, _, z0, ws, _, rfl, s3.at ht0, hth, cz, svs, lus, hrl, log_small (by omega), fun s4 H4 e4 hf4 s4' => absurd ⟨s4, e4, hf4⟩ hno, fun _ d H4 nd hd s4 => ?_⟩
          exact qe d H4 (s3.free nd) hd (s3.trans s4)
    · rintro σ H2 ⟨hi, y2, y3, rfl, s2⟩
      have e0 : rest = [] := by
        rw [List.length_append] at hi
        exact List.length_eq_zero_iff.mp (by omega)
      rcases hq with ⟨_, qr⟩ | ⟨v', r, h, _⟩
      · subst e0
        rw [List.append_nil, hul, List.take_length]
        walk_at "go"
        exact qr H2 s2
      · rw [h] at e0
        cases e0
def spTlW (K : PySem.W.Frag) (w : World) (pT : Addr) : Sp := fun vs H Q _ => ∃ (a : Addr) (x : Str) (us rest : List V) (ss : List Sp3), vs = [.str x, .ref a] ∧ H a = some (.lst (us ++ rest)) ∧ Wd x ∧ x.length ≤ 60 ∧ StsAt H us ss ∧ Chn x ss ∧ (runs x ss).length ≤ 2000 ∧ ss.length ≤ 1000 ∧ (rest = [] ∨ ∃ v r, rest = v :: r ∧ BadSt K w pT H v (runs x ss)) ∧
  ∀ (p : Addr) (H' : Hp) (v1 v2 : V), Same H H' → H p = none → H' p = some (.lst [v1, v2]) → ((rest = [] ∧ v1 = .str (Str.ofString "") ∧ v2 = .str (runs x ss)) ∨ (rest ≠ [] ∧ v1 = .str (Str.ofString "badstep") ∧ v2 = .int ss.length)) → Q (.ref p) H'
theorem sc_tlw : FnScope ["_law_word_here", "_law_steps", "e"] ["_law_word_here", "_law_steps"] (defScope s__law_told) := ⟨rfl, rfl, rfl, by decide +kernel, rfl, by decide +kernel, by decide +kernel⟩
theorem has_tlw (F : FnAt K mg "_law_told" s__law_told ["_law_word_here", "_law_steps"])
    (h_Wk : ∃ (f : Addr) (fd : FuncData), mg "walked" = some (.ref f) ∧ PySem.W.keepIn K (.ref f) = true ∧ Binds K fd ["word", "steps"] [] ∧ FnOk P w K mg base (L2.CX P w) 5 f fd ["word", "steps"] (spWk K w pT CB)) (T_BadStep : EC K mg "BadStep" CB fB) (nA : PySem.W.findIn K (.ref CB) "at" = some none) : Has P w K mg base 6 "_law_told" ["_law_word_here", "_law_steps"] (spTlW K w pT) := F.has fun F => by
  obtain ⟨f_Wk, fd_Wk, g_Wk, k_Wk, b_Wk, G_Wk⟩ := h_Wk
  refine F.ok sc_tlw (fun vs H Q E h => ?_) (fun cdv A outer s H vs Q E hr h => ?_)
  · obtain ⟨a, x, us, rest, ss, rfl, _⟩ := h
    rfl
  · obtain ⟨a, x, us, rest, ss, rfl, ha, hx, hl, hss, hch, hrl, hsl, hre, q⟩ := h
    refine ⟨_, pss_one (ps_try_as (i := 2) rfl rfl sc_tlw.nd rfl rfl ⟨rfl, by decide, .inl T_BadStep.gC⟩ takes0
      (fun W pn xe tk _ => pss_one (ps_ret (pe_lst (pa_cons pe_str (pa_cons (pe_call G_Wk (hr.mono (by decide)) (by rfl) g_Wk k_Wk b_Wk .nil (passes_len 3 rfl tk) (pa_cons (pv 0) (pa_cons (pv 1) pa_nil))) pa_nil)))))
      (fun a oe cls d pn hz hf => pss_one (ps_ret (pe_lst (pa_cons (pe_xf (C := CB) T_BadStep.xf T_BadStep.nw hz hf (pv 2)) (pa_cons (pe_xf (C := CB) T_BadStep.xf nA hz hf (pv 2)) pa_nil)))))), ?_⟩
    show tRet _ _ _ _
    walk_at "go"
    refine ⟨a, x, us, rest, ss, rfl, ha, hx, hl, hss, hch, hrl, hsl, ?_⟩
    rcases hre with rfl | ⟨v, r, rfl, hbad⟩
    · refine .inl ⟨rfl, fun H1 s1 => ?_⟩
      refine w_newL (by walk_at "sz") (fun p H2 hp np => ?_)
      exact q p H2 _ _ (s1.nw np) (s1.free np.nn) hp (.inl ⟨rfl, rfl, rfl⟩)
    · refine .inr ⟨v, r, rfl, hbad, fun d H1 nd hd s1 => ?_⟩
      intro σ hσ
      have hσ : σ.length = 3 := hσ
      match σ, hσ with
      | [s0, s1', s2], _ =>
        refine ⟨true, T_BadStep.te, fun _ a na => ?_, fun z => nomatch z⟩
        show tRet _ _ _ _
        refine w_ret (w_lst ?_)
        refine ⟨_, rfl, rfl, rfl, d, _, _, rfl, hd, rfl, ?_⟩
        refine ⟨_, rfl, rfl, rfl, d, _, _, rfl, hd, rfl, ?_⟩
        refine w_newL (by walk_at "sz") (fun p H2 hp np => ?_)
        exact q p H2 _ _ (s1.nw np) (s1.free np.nn) hp (.inr ⟨(by intro z; cases z), rfl, rfl⟩)
/-! ### _law_drawn_step -/
theorem cut_self {z : Str} {i j : Int} (h0 : 0 ≤ i) (h1 : i ≤ z.length) (h2 : i ≤ j) : cutS z (some i) (some (i + (cutS z (some i) (some j)).length)) = cutS z (some i) (some j) ∧ ((cutS z (some i) (some j)).length : Int) ≤ j - i := by
  have hz := len_tl z
  have e1 : HT.sIx z.length 0 (some i) = i.toNat := sIx_lo h0 h1
  have ej : HT.sIx z.length z.length (some j) = min j.toNat z.length := by
    have e : (if j < 0 then (j + (z.length : Int)).toNat else min j.toNat z.length) = min j.toNat z.length := by rw [if_neg (by omega)]
    exact e
  have el : (cutS z (some i) (some j)).length = min j.toNat z.length - i.toNat := by
    rw [len_tl, tl_cut, List.length_take, List.length_drop, e1, ej]
    omega
  refine ⟨ext_tl ?_, by omega⟩
  have e2 : HT.sIx z.length z.length (some (i + (cutS z (some i) (some j)).length)) = min j.toNat z.length := by
    rw [sIx_lo (by omega) (by omega), el]
    omega
  rw [tl_cut, tl_cut, e1, e2, ej]
def spDr : Sp := fun vs H Q _ => ∃ (b l : Addr) (z : Str), vs = [.ref b, .str z] ∧ Bag H b l ∧ Wd z ∧ z.length ≤ 60 ∧ ∀ (t : Addr) (s : Sp3) (H' : Hp), H' t = some (.tup s.vs) → (z ≠ Str.ofString "" → s.Fits z ∧ s.Small) → s.PreG → Bag H' b l → Fx b H H' → Q (.ref t) H'
abbrev HasDr (P : Program) (w : World) (K : PySem.W.Frag) (mg : Str → Option Value) (base : Heap) : Prop := Has P w K mg base 4 "_law_drawn_step" ["_law_bag", "_law_word_here"] spDr
theorem sc_dr : FnScope ["_law_bag", "_law_word_here", "_law_at", "_law_x", "_law_fits", "_law_spot", "_law_size", "_law_y", "_law_step"] ["_law_bag", "_law_word_here"] (defScope s__law_drawn_step) := ⟨rfl, rfl, rfl, by decide +kernel, rfl, by decide +kernel, by decide +kernel⟩
theorem has_dr (F : FnAt K mg "_law_drawn_step" s__law_drawn_step ["_law_bag", "_law_word_here"]) (B : Blt mg) (h_Pu : HasPull P w K mg base) (h_Lst : HasLstG P w K mg base) (h_Lpk : HasLpk P w K mg base) : HasDr P w K mg base := F.has fun F => by
  obtain ⟨f_Pu, fd_Pu, g_Pu, k_Pu, b_Pu, G_Pu⟩ := h_Pu
  obtain ⟨f_Lst, fd_Lst, g_Lst, k_Lst, b_Lst, G_Lst⟩ := h_Lst
  obtain ⟨f_Lpk, fd_Lpk, g_Lpk, k_Lpk, b_Lpk, G_Lpk⟩ := h_Lpk
  refine F.ok sc_dr (fun vs H Q E h => ?_) (fun cdv A outer s H vs Q E hr h => ?_)
  · obtain ⟨b, l, z, rfl, _⟩ := h
    rfl
  · obtain ⟨b, l, z, rfl, hB, hz, hzl, q⟩ := h
    refine ⟨_, (pss_cons (ps_set (i := 2) sc_dr.nd rfl (.inl rfl) (pe_call G_Pu (hr.mono (by decide)) (by rfl) g_Pu k_Pu b_Pu .nil pass0 (pa_cons (pv 0) (pa_cons (pe_op op_add (pe_callB call_lenS (by rfl) B.len PySem.boot_len (pa_cons (pv 1) pa_nil)) pe_int) pa_nil)))) (pss_cons (ps_set (i := 3) sc_dr.nd rfl (.inl rfl) (pe_slice sl_str (pv 1) (po_some (pv 2)) (po_some (pe_op op_add (pe_op op_add (pv 2) pe_int) (pe_call G_Pu (hr.mono (by decide)) (by rfl) g_Pu k_Pu b_Pu .nil pass0 (pa_cons (pv 0) (pa_cons pe_int pa_nil))))))) (pss_cons (ps_if (PW.pt (pw_or (pt_cmpR op_eq (pv 3) pe_str (nomark _)) (pw_or1 (pt_cmpR op_gt (pe_callB call_lenS (by rfl) B.len PySem.boot_len (pa_cons (pv 1) pa_nil)) pe_int (nomark _))))) (pss_one (ps_ret (pe_tup (pa_cons pe_str (pa_cons pe_int (pa_cons (pe_slice sl_str (pv 1) po_none (po_some pe_int)) pa_nil)))))) pss_nil) (pss_cons (ps_set (i := 4) sc_dr.nd rfl (.inl rfl) (pe_lst (pa_cons (pe_tup (pa_cons pe_str (pa_cons (pv 2) (pa_cons (pv 3) pa_nil)))) pa_nil))) (pss_cons (ps_for PassesOwn.never rfl (pi_range1 rfl B.range (pa_cons (pe_callB call_lenS (by rfl) B.len PySem.boot_len (pa_cons (pv 1) pa_nil)) pa_nil)) (pg_name (i := 5) sc_dr.nd rfl (.inl rfl)) (pss_one (ps_for PassesOwn.never rfl (pi_list (pe_lst (pa_cons pe_int (pa_cons pe_int pa_nil)))) (pg_name (i := 6) sc_dr.nd rfl (.inl rfl)) (pss_cons (ps_set (i := 7) sc_dr.nd rfl (.inl rfl) (pe_slice sl_str (pv 1) (po_some (pv 5)) (po_some (pe_op op_add (pv 5) (pv 6))))) (pss_one (ps_for PassesOwn.never rfl (pi_list (pe_lst (pa_cons (pe_tup (pa_cons pe_str (pa_cons (pv 5) (pa_cons (pv 7) pa_nil)))) (pa_cons (pe_tup (pa_cons pe_str (pa_cons (pv 5) (pa_cons (pv 7) (pa_cons (pe_slice sl_str (pv 1) (po_some (pe_op op_add (pv 5) (pe_op op_mul pe_int (pv 6)))) (po_some (pe_op op_add (pe_op op_add (pv 5) (pe_op op_mul pe_int (pv 6))) pe_int))) pa_nil))))) pa_nil)))) (pg_name (i := 8) sc_dr.nd rfl (.inl rfl)) (pss_one (ps_if (pt_cmpR op_notNn (pe_call G_Lst (hr.mono (by decide)) (by rfl) g_Lst k_Lst b_Lst .nil pass0 (pa_cons (pv 1) (pa_cons (pv 8) pa_nil))) pe_non (nomark _)) (pss_one (ps_expr (pe_bm PySem.F.plainAttrs_list PySem.F.slot_list_append PySem.F.type_list_append mt_append (pv 4) (pa_cons (pv 8) pa_nil)))) pss_nil)))))))) (pss_one (ps_ret (pe_call G_Lpk (hr.mono (by decide)) (by rfl) g_Lpk k_Lpk b_Lpk .nil pass0 (pa_cons (pv 0) (pa_cons (pv 4) pa_nil)))))))))), ?_⟩
    have ln : ∀ {n : Nat}, n ≤ 10000 → n ≤ sizeLine := fun h => line_of (by omega)
    have there0 : ∀ (t : Addr) (H' : Hp), H' t = some (.tup [.str (Str.ofString "there"), .int 0, .str (cutS z none (some 1))]) → Bag H' b l → Fx b H H' → Q (.ref t) H' := fun t H' ht hB' hf => by
      have e0 : cutS z none (some 1) = cutS z (some 0) (some 1) := rfl
      have hle := (cut_self (z := z) (i := 0) (j := 1) (by decide) (by omega) (by decide))
      refine q t (.there 0 (cutS z none (some 1))) H' ht (fun hne => ?_) ⟨hz.cut, by rw [e0]; have := hle.2; omega⟩ hB' hf
      have l1 : 1 ≤ (cutS z none (some 1)).length := by
        have := nil_len hne
        rw [len_tl, tl_cut, List.length_take, List.length_drop, ← len_tl]
        have e1 : HT.sIx z.length 0 none = 0 := rfl
        rw [e1, sIx_lo (by decide) (by omega)]
        show 1 ≤ min (1 - 0) (z.length - 0)
        omega
      refine ⟨fits_of (s := .there 0 (cutS z none (some 1))) ⟨hz.cut, l1, by rw [e0]; have := hle.2; omega⟩ (by show (0 : Int) ≤ 0; decide) ?_, ?_⟩
      · show cutS z (some 0) (some (0 + ((cutS z none (some 1)).length : Int))) = cutS z none (some 1)
        rw [e0]
        exact hle.1
      · show (rnd (cutS z none (some 1)) ++ cutS z none (some 1)).length ≤ (cutS z none (some 1)).length + 6
        rw [len_app, rnd_len, e0]
        have := hle.2
        omega
    walk_at "go"
    refine w_lenS (ln (by omega)) ?_
    walk_at "go"
    refine ⟨b, l, _, rfl, hB, by omega, by omega, fun d H1 d0 d1 B1 f1 => ?_⟩
    walk_at "go"
    refine ⟨b, l, 3, rfl, B1, by decide, by decide, fun e H2 e0 e1 B2 f2 => ?_⟩
    walk_at "go"
    refine w_slS (ln (by omega)) ?_
    have hcs := cut_self (z := z) (i := d) (j := d + 1 + e) d0 (by omega) (by omega)
    have hx : Wd (cutS z (some d) (some (d + 1 + e))) := hz.cut
    have F2 : Fx b H H2 := f1.trans f2
    generalize cutS z (some d) (some (d + 1 + e)) = x at hcs hx
    walk_at "go"
    refine w_or2 (fun hx0 => ?_) (fun hxn => ?_)
    · walk_at "go"
      refine w_slS (ln (by omega)) ?_
      walk_at "go"
      refine w_newT (by walk_at "sz") (fun t H3 ht nt => ?_)
      exact there0 t H3 ht (B2.nw nt) (F2.nw nt)
    walk_at "go"
    refine w_lenS (ln (by omega)) ?_
    walk_at "go"
    refine w_if2 (fun h40 => ?_) (fun h40 => ?_)
    · walk_at "go"
      refine w_slS (ln (by omega)) ?_
      walk_at "go"
      refine w_newT (by walk_at "sz") (fun t H3 ht nt => ?_)
      exact there0 t H3 ht (B2.nw nt) (F2.nw nt)
    walk_at "go"
    refine w_newT (by walk_at "sz") (fun t0 H3 ht0 nt0 => ?_)
    walk_at "go"
    refine w_newL (by walk_at "sz") (fun p H4 hp np => ?_)
    have x1 := nil_len hxn
    have x3 := hcs.2
    have hfit0 : FitAt H4 z [.ref t0] := fun v hv => by
      rw [List.mem_singleton.mp hv]
      refine ⟨t0, .there d x, rfl, np.at ht0, fits_of (s := .there d x) ⟨hx, x1, by omega⟩ d0 hcs.1, ?_⟩
      show (rnd x ++ x).length ≤ x.length + 6
      rw [len_app, rnd_len]
      omega
    have B4 : Bag H4 b l := (B2.nw nt0).nw np
    have npb : p ≠ b := (B2.nw nt0).ne np.nn
    have F4 : Fx b H H4 := (F2.nw nt0).nw np
    walk_at "go"
    refine w_lenS (ln (by omega)) ?_
    walk_at "go"
    refine w_kRng1 (by omega) (by omega) ?_
    refine w_range (fun i σ H' => ∃ (y5 y6 y7 y8 : Option V) (us : List V), σ = [some (.ref b), some (.str z), some (.int d), some (.str x), some (.ref p), y5, y6, y7, y8] ∧ H' p = some (.lst us) ∧ FitAt H' z us ∧ 1 ≤ us.length ∧ us.length ≤ 1 + 4 * i ∧ (∀ a o, H4 a = some o → a ≠ p → H' a = some o)) ⟨none, none, none, none, _, rfl, hp, hfit0, Nat.le_refl _, Nat.le_refl _, fun _ _ h _ => h⟩ ?_ ?_
    · rintro i σ H5 hi ⟨y5, y6, y7, y8, us, rfl, hp5, hf5, hu1, hl5, k5⟩
      walk_at "go"
      refine w_newL (by walk_at "sz") (fun l1 H6 hl1 nl1 => ?_)
      have npl : p ≠ l1 := ne_of_none hp5 nl1.nn
      walk_at "go"
      refine w_list (xs := [.int 1, .int 2]) (fun j σ H' => ∃ (y6 y7 y8 : Option V) (us : List V), σ = [some (.ref b), some (.str z), some (.int d), some (.str x), some (.ref p), some (.int (0 + (i : Int))), y6, y7, y8] ∧ H' p = some (.lst us) ∧ FitAt H' z us ∧ 1 ≤ us.length ∧ us.length ≤ 1 + 4 * i + 2 * j ∧ (∀ a o, H6 a = some o → a ≠ p → H' a = some o)) ⟨_, _, _, us, rfl, nl1.at hp5, hf5.same nl1.same, hu1, by omega, fun _ _ h _ => h⟩ (fun j σ H' _ h => by obtain ⟨_, _, _, _, _, _, _, _, _, h⟩ := h; exact h _ _ hl1 npl.symm) ?_ ?_
      · rintro j v σ H7 hj ⟨y6, y7, y8, us, rfl, hp7, hf7, hu7, hl7, k7⟩
        obtain ⟨m, m1, m3, rfl⟩ : ∃ m : Int, 1 ≤ m ∧ m ≤ 2 ∧ v = .int m := by
          match j, hj with
          | 0, hj => cases hj; exact ⟨1, by decide, by decide, rfl⟩
          | 1, hj => cases hj; exact ⟨2, by decide, by decide, rfl⟩
          | j + 2, hj => cases hj
        have j3 : j < 2 := (List.getElem?_eq_some_iff.mp hj).1
        walk_at "go"
        refine w_slS (ln (by omega)) ?_
        have hy : Wd (cutS z (some (0 + (i : Int))) (some (0 + (i : Int) + m))) := hz.cut
        have hyl := cut_le z (some (0 + (i : Int))) (some (0 + (i : Int) + m))
        generalize cutS z (some (0 + (i : Int))) (some (0 + (i : Int) + m)) = y at hy hyl ⊢
        walk_at "go"
        refine w_newT (by walk_at "sz") (fun t1 H8 ht1 nt1 => ?_)
        walk_at "go"
        refine w_i (.inl (by omega)) ?_
        walk_at "go"
        refine w_i (.inl (by omega)) ?_
        walk_at "go"
        refine w_slS (ln (by omega)) ?_
        have hy' : Wd (cutS z (some (0 + (i : Int) + 2 * m)) (some (0 + (i : Int) + 2 * m + 1))) := hz.cut
        have hyl' := cut_le z (some (0 + (i : Int) + 2 * m)) (some (0 + (i : Int) + 2 * m + 1))
        generalize cutS z (some (0 + (i : Int) + 2 * m)) (some (0 + (i : Int) + 2 * m + 1)) = y' at hy' hyl' ⊢
        walk_at "go"
        refine w_newT (by walk_at "sz") (fun t2 H9 ht2 nt2 => ?_)
        walk_at "go"
        refine w_newL (by walk_at "sz") (fun l2 H10 hl2 nl2 => ?_)
        have s10 : Same H7 H10 := by walk_at "sm"
        have hp10 := s10.at hp7
        have np2 : p ≠ l2 := ne_of_none (nt2.at (nt1.at hp7)) nl2.nn
        walk_at "go"
        refine w_list (xs := [.ref t1, .ref t2]) (fun k σ H' => ∃ (y8 : Option V) (us : List V), σ = [some (.ref b), some (.str z), some (.int d), some (.str x), some (.ref p), some (.int (0 + (i : Int))), some (.int m), some (.str y), y8] ∧ H' p = some (.lst us) ∧ FitAt H' z us ∧ 1 ≤ us.length ∧ us.length ≤ 1 + 4 * i + 2 * j + k ∧ (∀ a o, H10 a = some o → a ≠ p → H' a = some o)) ⟨_, us, rfl, hp10, hf7.same s10, hu7, by omega, fun _ _ h _ => h⟩ (fun k σ H' _ h => by obtain ⟨_, _, _, _, _, _, _, h⟩ := h; exact h _ _ hl2 np2.symm) ?_ ?_
        · rintro k v σ H11 hk ⟨y8, us, rfl, hp11, hf11, hu11, hl11, k11⟩
          have k3 : k < 2 := (List.getElem?_eq_some_iff.mp hk).1
          obtain ⟨t, s3, rfl, ht11, hpre, hsm⟩ : ∃ (t : Addr) (s3 : Sp3), v = .ref t ∧ H11 t = some (.tup s3.vs) ∧ s3.PreG ∧ s3.Small := by
            match k, hk with
            | 0, hk =>
              cases hk
              exact ⟨t1, .back _ y, rfl, k11 _ _ (nl2.at (nt2.at ht1)) (ne_of ht1 (nt1.at hp7) (by intro z; cases z)), ⟨hy, by omega⟩, by show y.length ≤ (rnd y ++ y).length + 6; rw [len_app, rnd_len]; omega⟩
            | 1, hk =>
              cases hk
              exact ⟨t2, .swap _ y y', rfl, k11 _ _ (nl2.at ht2) (ne_of ht2 (nt2.at (nt1.at hp7)) (by intro z; cases z)), ⟨⟨hy, by omega⟩, hy', by omega⟩, by show (rnd y' ++ rnd y).length ≤ (rnd y ++ rnd y').length + 6; rw [len_app, len_app]; omega⟩
            | k + 2, hk => cases hk
          walk_at "go"
          refine ⟨t, s3, z, rfl, ht11, hpre, by omega, fun due H12 s12 hdue => ?_⟩
          rcases hdue with ⟨hfit, rfl⟩ | ⟨_, rfl⟩
          · walk_at "go"
            refine w_ifN2 (fun _ => ?_) (fun z => nomatch z)
            walk_at "go"
            refine w_append (s12.at hp11) (lineLt_of (by omega)) (fun H13 hp13 o13 => ?_)
            walk_at "go"
            refine ⟨_, _, rfl, hp13, fun v hv => ?_, by rw [List.length_append]; omega, by rw [List.length_append]; show us.length + 1 ≤ _; omega, fun a o e ha => o13.at ha (s12.at (k11 a o e ha))⟩
            rcases List.mem_append.mp hv with hv | hv
            · exact ((hf11.same s12).off (s12.at hp11) o13) v hv
            · rw [List.mem_singleton.mp hv]
              exact ⟨t, s3, rfl, o13.at (ne_of (s12.at ht11) (s12.at hp11) (by intro z; cases z)) (s12.at ht11), hfit, hsm⟩
          · walk_at "go"
            exact ⟨_, us, rfl, s12.at hp11, hf11.same s12, hu11, by omega, fun a o e ha => s12.at (k11 a o e ha)⟩
        · rintro σ H11 ⟨y8, us, rfl, hp11, hf11, hu11, hl11, k11⟩
          walk_at "go"
          have hl11 : us.length ≤ 1 + 4 * i + 2 * j + 2 := hl11
          exact ⟨_, _, _, us, rfl, hp11, hf11, hu11, by omega, fun a o e ha => k11 a o (s10.at (k7 a o e ha)) ha⟩
      · rintro σ H7 ⟨y6, y7, y8, us, rfl, hp7, hf7, hu7, hl7, k7⟩
        walk_at "go"
        have hl7 : us.length ≤ 1 + 4 * i + 4 := hl7
        exact ⟨_, _, _, _, us, rfl, hp7, hf7, hu7, by omega, fun a o e ha => k7 a o (nl1.at (k5 a o e ha)) ha⟩
    · rintro σ H5 ⟨y5, y6, y7, y8, us, rfl, hp5, hf5, hu1, hl5, k5⟩
      have B5 : Bag H5 b l := by
        obtain ⟨ns, k, z, r, bl⟩ := B4
        exact ⟨ns, k, z, r, k5 _ _ bl.hb npb.symm, k5 _ _ bl.hl (((B2.nw nt0).neL np.nn).symm), bl.k0, bl.z0, bl.r0, bl.r1⟩
      walk_at "go"
      refine ⟨b, l, p, us, rfl, B5, hp5, npb, hu1, by omega, fun v H6 hv B6 f6 => ?_⟩
      obtain ⟨t, s3, rfl, ht, hfit, hsm⟩ := hf5 v hv
      have ntb : t ≠ b := by
        obtain ⟨_, _, _, _, bl⟩ := B5
        exact ne_of ht bl.hb (by intro z; cases z)
      refine q t s3 H6 (f6.at ntb ht) (fun _ => ⟨hfit, hsm⟩) hfit.ok.preG B6 ?_
      intro a o e ha
      have hap : a ≠ p := fun z => by
        rw [z] at e
        have := F4
        have e2 : H2 p = none := nt0.same.free np.nn
        have := F2 _ _ e (by rw [← z]; exact ha)
        rw [e2] at this
        cases this
      exact f6 _ _ (k5 _ _ (F4 _ _ e ha) hap) ha
end
end Sf
namespace Sf
open PySem PySem.Spec PyProof.Rows L2 TL
theorem does_len {s : Sp3} {z : Str} (h : s.Fits z) : (s.does z).length + s.old.length = z.length + s.new.length := by
  obtain ⟨e1, _⟩ := cut3s z h.lo (show s.at ≤ s.at + s.old.length by omega) h.within
  rw [h.eq] at e1
  have e2 := congrArg Str.length e1
  rw [len_app, len_app] at e2
  unfold Sp3.does
  rw [len_app, len_app]
  omega
def pat9 : List Nat := [97, 98, 99, 100, 101, 102, 103, 104, 97]
def ten (c : Nat) : List Str := (List.range 10).map fun i => mkS (shortL (c :: pat9.take i))
theorem ten_nd {c : Nat} (h : sgn c = true) : (ten c).Nodup := by
  have : c ∈ [97, 65, 98, 66, 99, 67, 100, 68, 101, 69, 102, 70, 103, 71, 104, 72] := by
    rw [sgn_iff] at h
    simp only [List.mem_cons, List.not_mem_nil, or_false]
    omega
  simp only [List.mem_cons, List.not_mem_nil, or_false] at this
  rcases this with rfl | rfl | rfl | rfl | rfl | rfl | rfl | rfl | rfl | rfl | rfl | rfl | rfl | rfl | rfl | rfl <;> decide +kernel
/-- a step back over nine letters fits no word made of at most eight signs by steps -/
theorem no_nine {x : Str} (hx : Wd x) (hl : x.length ≤ 8) {ss : List Sp3} (h : Chn x ss) : ¬ (Sp3.back 1 (Str.ofString "abcdefgha")).Fits (runs x ss) := fun hf => by
  have hk : Wd (runs x ss) ∧ ∀ s, spotP (runs x ss) s ↔ spotP x s := Chn.each (R := fun z => Wd z ∧ ∀ s, spotP z s ↔ spotP x s) ⟨hx, fun _ => Iff.rfl⟩ (fun z s ⟨hz, hs⟩ hf => by
    obtain ⟨k1, k2, _⟩ := hf.keeps hz hf.within
    exact ⟨k1, fun t => (k2 t).trans (hs t)⟩) h
  generalize runs x ss = z at hf hk
  obtain ⟨hz, hsp⟩ := hk
  have hin : (1 : Int) + ((Sp3.back 1 (Str.ofString "abcdefgha")).old.length : Int) ≤ z.length := hf.within
  obtain ⟨e1, _⟩ := cut3s z (show (0 : Int) ≤ 1 by decide) (show (1 : Int) ≤ 1 + ((Sp3.back 1 (Str.ofString "abcdefgha")).old.length : Int) by omega) hin
  have e0 : cutS z (some 1) (some (1 + ((Sp3.back 1 (Str.ofString "abcdefgha")).old.length : Int))) = (Sp3.back 1 (Str.ofString "abcdefgha")).old := hf.eq
  rw [e0] at e1
  have l1 : (tl (cutS z none (some 1))).length = 1 := by
    rw [tl_cut, List.length_take, List.length_drop, ← len_tl, sIx_lo (by decide) (by omega)]
    have e : HT.sIx z.length 0 none = 0 := rfl
    rw [e]
    show min (1 - 0) (z.length - 0) = 1
    omega
  obtain ⟨c, hc⟩ := List.length_eq_one_iff.mp l1
  have e2 : ∃ r, tl z = c :: (pat9 ++ r) := by
    have := congrArg tl e1
    rw [tl_append, tl_append, hc] at this
    have eo : ∃ r, tl (Sp3.back 1 (Str.ofString "abcdefgha")).old = pat9 ++ r := ⟨_, by
      show tl (rnd (Str.ofString "abcdefgha") ++ Str.ofString "abcdefgha") = _
      rw [tl_append]
      unfold rnd
      rw [tl_append, show tl (Str.ofString "abcdefgha") = pat9 by decide +kernel, List.append_assoc]⟩
    obtain ⟨r, er⟩ := eo
    rw [er] at this
    exact ⟨r ++ tl (cutS z (some (1 + ((Sp3.back 1 (Str.ofString "abcdefgha")).old.length : Int))) none), by rw [this]; simp⟩
  obtain ⟨r, er⟩ := e2
  have hcs : sgn c = true := hz c (by rw [er]; exact List.mem_cons_self)
  have hle := nodup_le (ms := (List.range ((tl x).length + 1)).map fun i => mkS (shortL ((tl x).take i))) (ten_nd hcs) fun s hs => by
    obtain ⟨i, hi, rfl⟩ := List.mem_map.mp hs
    rw [List.mem_range] at hi
    have : spotP z (mkS (shortL (c :: pat9.take i))) := by
      refine ⟨i + 1, by rw [er, List.length_cons, List.length_append]; have : pat9.length = 9 := rfl; omega, ?_⟩
      rw [er, List.take_succ_cons, List.take_append_of_le_length (by have : pat9.length = 9 := rfl; omega)]
    obtain ⟨j, hj, ej⟩ := (hsp _).mp this
    exact List.mem_map.mpr ⟨j, List.mem_range.mpr (by omega), ej.symm⟩
  have t10 : (ten c).length = 10 := by unfold ten; rw [List.length_map, List.length_range]
  rw [t10, List.length_map, List.length_range, ← len_tl] at hle
  omega
theorem cutV_take {us : List V} {d : Int} (h0 : 0 ≤ d) (h1 : d ≤ us.length) : cutV us none (some d) = us.take d.toNat := by
  unfold cutV
  have e : HT.sIx us.length 0 none = 0 := rfl
  rw [e, sIx_lo h0 h1]
  rfl
theorem cutV_drop {us : List V} {d : Int} (h0 : 0 ≤ d) (h1 : d ≤ us.length) : cutV us (some d) none = us.drop d.toNat := by
  unfold cutV
  have e : HT.sIx us.length us.length none = us.length := rfl
  rw [e, sIx_lo h0 h1]
  exact List.take_of_length_le (by rw [List.length_drop]; omega)
section
variable {H : Hp} {Q : VK} {K : PySem.W.Frag}
theorem w_neSelf {p q : Addr} {us : List V} {ds : List PyData} (h : H p = some (.lst us)) (h' : H q = some (.lst us)) (dd : DpAll K H us ds) (sh : SeqAt.shaped (.list ds) = true) (k : Q (.bl false) H) : rNeD K (.ref p) (.ref q) H Q :=
  ⟨_, _, .lst (SqL.of h) dd, .lst (SqL.of h') dd, sh, sh, by
    have c := sh
    unfold SeqAt.shaped at c
    rw [Bool.and_eq_true] at c
    rw [SeqAt.eqv_refl _ c.1]
    exact k⟩
end
theorem sp_data {K : PySem.W.Frag} {H : Hp} {t : Addr} {s : Sp3} (ht : H t = some (.tup s.vs)) (h : s.PreG) : ∃ d, Dp K H (.ref t) d ∧ PyData.canLay0 d = true ∧ d.depth ≤ 60 := by
  obtain ⟨z, us, ev, cz, -, -, svs⟩ := s.vs_cons h
  rw [ev] at ht
  have key : ∃ ds, DpAll K H us ds ∧ (∀ d ∈ ds, PyData.canLay0 d = true ∧ d.depth ≤ 0) := by
    clear ev ht
    induction us with
    | nil => exact ⟨[], .nil, fun _ h => absurd h List.not_mem_nil⟩
    | cons v r ih =>
      obtain ⟨ds, h1, h2⟩ := ih fun u hu => svs u (List.mem_cons_of_mem _ hu)
      obtain ⟨d, g1, g2⟩ : ∃ d, Dp K H v d ∧ PyData.canLay0 d = true ∧ d.depth ≤ 0 := by
        rcases svs v List.mem_cons_self with ⟨i, rfl⟩ | ⟨x, rfl, _, h⟩
        · exact ⟨_, .int i, by rw [PyData.canLay0], by rw [PyData.depth]; omega⟩
        · exact ⟨_, .str x, h, by rw [PyData.depth]; omega⟩
      refine ⟨d :: ds, .cons g1 h1, fun e he => ?_⟩
      rcases List.mem_cons.mp he with rfl | he
      · exact g2
      · exact h2 e he
  obtain ⟨ds, dd, dl⟩ := key
  refine ⟨.tuple (.str z :: ds), .tup (SqT.of ht) (.cons (.str z) dd), ?_, ?_⟩
  · rw [PyData.canLay0, PyData.canLayAll0, cz]
    have := lay_all (f := id) (l := ds) fun d hd => (dl d hd).1
    rw [List.map_id] at this
    rw [this]
    rfl
  · rw [PyData.depth, PyData.depthAll, PyData.depth]
    have := depth_all (f := id) (l := ds) (k := 0) fun d hd => (dl d hd).2
    rw [List.map_id] at this
    omega
theorem sts_data {K : PySem.W.Frag} {H : Hp} : ∀ {us : List V}, (∀ v ∈ us, ∃ (t : Addr) (s : Sp3), v = .ref t ∧ H t = some (.tup s.vs) ∧ s.PreG) → ∃ ds, DpAll K H us ds ∧ (∀ d ∈ ds, PyData.canLay0 d = true ∧ d.depth ≤ 60)
  | [], _ => ⟨[], .nil, fun _ h => absurd h List.not_mem_nil⟩
  | v :: r, h => by
    obtain ⟨ds, h1, h2⟩ := sts_data (us := r) fun u hu => h u (List.mem_cons_of_mem _ hu)
    obtain ⟨t, s, rfl, ht, hp⟩ := h v (List.mem_cons_self ..)
    obtain ⟨d, g1, g2⟩ := sp_data (K := K) ht hp
    refine ⟨d :: ds, .cons g1 h1, fun e he => ?_⟩
    rcases List.mem_cons.mp he with rfl | he
    · exact g2
    · exact h2 e he
theorem StsAt.mem {H : Hp} : ∀ {us : List V} {ss : List Sp3} {v : V}, StsAt H us ss → v ∈ us → ∃ s ∈ ss, StAt H v s
  | _, _, _, .nil, h => absurd h List.not_mem_nil
  | _, _, _, .cons r t, h => by
    rcases List.mem_cons.mp h with rfl | h
    · exact ⟨_, List.mem_cons_self, r⟩
    · obtain ⟨s, hs, q⟩ := StsAt.mem t h
      exact ⟨s, List.mem_cons_of_mem _ hs, q⟩
theorem Chn.pre {x : Str} {ss : List Sp3} (h : Chn x ss) {s : Sp3} (hs : s ∈ ss) : s.PreG := by
  obtain ⟨i, hi⟩ := List.mem_iff_getElem?.mp hs
  exact (h i s hi).1.ok.preG
section
variable {P : Program} {w : World} {K : PySem.W.Frag} {mg : Str → Option Value} {base : Heap} {pT : Addr}
def spLaw (K : PySem.W.Frag) : Sp := fun vs H Q _ => ∃ (a : Addr) (ns : List Int), vs = [.ref a] ∧ SqL K H a (ns.map V.int) ∧ ns.length ≤ 63 ∧ ∀ H', Q (.bl true) H'
theorem sc_law : FnScope ["_law_script", "_law_bag", "_law_turn", "_law_word_here", "_law_steps", "_law_here", "_law_k", "_law_step", "_law_at", "_law_bent", "_law_handed", "_law_far_step"] ["_law_script"] (defScope s_law) := ⟨rfl, rfl, rfl, by decide +kernel, rfl, by decide +kernel, by decide +kernel⟩
theorem ok_law {f : Addr} {fd : FuncData} (F : Fun K "law" "law" s_law f fd) (B : Blt mg) (h_Be : HasBegin P w K mg base) (h_Pu : HasPull P w K mg base) (h_An : HasAny P w K mg base) (h_Ba : HasBack P w K mg base) (h_Lst : HasLstG P w K mg base) (h_Dr : HasDr P w K mg base)
    (h_Tld : Has P w K mg base 6 "_law_told" ["_law_word_here", "_law_steps"] (spTlW K w pT)) (h_Sa : HasSame P w K mg base 1) : FnOk P w K mg base CX0 7 f fd ["_law_script"] (spLaw K) := by
  obtain ⟨f_Be, fd_Be, g_Be, k_Be, b_Be, G_Be⟩ := h_Be
  obtain ⟨f_Pu, fd_Pu, g_Pu, k_Pu, b_Pu, G_Pu⟩ := h_Pu
  obtain ⟨f_An, fd_An, g_An, k_An, b_An, G_An⟩ := h_An
  obtain ⟨f_Ba, fd_Ba, g_Ba, k_Ba, b_Ba, G_Ba⟩ := h_Ba
  obtain ⟨f_Lst, fd_Lst, g_Lst, k_Lst, b_Lst, G_Lst⟩ := h_Lst
  obtain ⟨f_Dr, fd_Dr, g_Dr, k_Dr, b_Dr, G_Dr⟩ := h_Dr
  obtain ⟨f_Tld, fd_Tld, g_Tld, k_Tld, b_Tld, G_Tld⟩ := h_Tld
  obtain ⟨f_Sa, fd_Sa, g_Sa, k_Sa, b_Sa, G_Sa⟩ := h_Sa
  refine F.ok sc_law (fun vs H Q E h => ?_) (fun cdv A outer s H vs Q E hr h => ?_)
  · obtain ⟨a, ns, rfl, _⟩ := h
    rfl
  · obtain ⟨a, ns, rfl, hS, hlen, q⟩ := h
    refine ⟨_, (pss_cons (ps_set (i := 1) sc_law.nd rfl (.inl rfl) (pe_call G_Be (hr.mono (by decide)) (by rfl) g_Be k_Be b_Be .nil pass0 (pa_cons (pv 0) pa_nil))) (pss_cons (ps_for PassesOwn.never rfl (pi_range1 rfl B.range (pa_cons pe_int pa_nil)) (pg_name (i := 2) sc_law.nd rfl (.inl rfl)) (pss_cons (ps_set (i := 3) sc_law.nd rfl (.inl rfl) (pe_call G_An (hr.mono (by decide)) (by rfl) g_An k_An b_An .nil pass0 (pa_cons (pv 1) (pa_cons pe_int pa_nil)))) (pss_cons (ps_set (i := 4) sc_law.nd rfl (.inl rfl) (pe_lst pa_nil)) (pss_cons (ps_set (i := 5) sc_law.nd rfl (.inl rfl) (pv 3)) (pss_cons (ps_for PassesOwn.never rfl (pi_range1 rfl B.range (pa_cons (pe_call G_Pu (hr.mono (by decide)) (by rfl) g_Pu k_Pu b_Pu .nil pass0 (pa_cons (pv 1) (pa_cons pe_int pa_nil))) pa_nil)) (pg_name (i := 6) sc_law.nd rfl (.inl rfl)) (pss_cons (ps_set (i := 7) sc_law.nd rfl (.inl rfl) (pe_call G_Dr (hr.mono (by decide)) (by rfl) g_Dr k_Dr b_Dr .nil pass0 (pa_cons (pv 1) (pa_cons (pv 5) pa_nil)))) (pss_one (ps_if (pt_cmpR op_ne (pv 5) pe_str (nomark _)) (pss_cons (ps_expr (pe_bm PySem.F.plainAttrs_list PySem.F.slot_list_append PySem.F.type_list_append mt_append (pv 4) (pa_cons (pv 7) pa_nil))) (pss_one (ps_set (i := 5) sc_law.nd rfl (.inl rfl) (pe_call G_Lst (hr.mono (by decide)) (by rfl) g_Lst k_Lst b_Lst .nil pass0 (pa_cons (pv 5) (pa_cons (pv 7) pa_nil)))))) pss_nil)))) (pss_cons (ps_if (pt_not (pt_val (pe_call G_Sa (hr.mono (by decide)) (by rfl) g_Sa k_Sa b_Sa .nil pass0 (pa_cons (pe_call G_Tld (hr.mono (by decide)) (by rfl) g_Tld k_Tld b_Tld .nil pass0 (pa_cons (pv 3) (pa_cons (pe_callTy call_listO (by rfl) B.list (by decide +kernel) (pa_cons (pv 4) pa_nil)) pa_nil))) (pa_cons (pe_lst (pa_cons pe_str (pa_cons (pv 5) pa_nil))) pa_nil))))) (pss_one (ps_ret pe_bl)) pss_nil) (pss_cons (ps_set (i := 8) sc_law.nd rfl (.inl rfl) (pe_call G_Pu (hr.mono (by decide)) (by rfl) g_Pu k_Pu b_Pu .nil pass0 (pa_cons (pv 1) (pa_cons (pe_op op_add (pe_callB call_lenQ (by rfl) B.len PySem.boot_len (pa_cons (pv 4) pa_nil)) pe_int) pa_nil)))) (pss_cons (ps_set (i := 9) sc_law.nd rfl (.inl rfl) (pe_op op_cat (pe_op op_cat (pe_slice sl_list (pv 4) po_none (po_some (pv 8))) (pe_lst (pa_cons (pe_tup (pa_cons pe_str (pa_cons pe_int (pa_cons pe_str pa_nil)))) pa_nil))) (pe_slice sl_list (pv 4) (po_some (pv 8)) po_none))) (pss_cons (ps_set (i := 10) sc_law.nd rfl (.inl rfl) (pe_callTy call_listO (by rfl) B.list (by decide +kernel) (pa_cons (pv 9) pa_nil))) (pss_one (ps_if (PW.pt (pw_or (pt_not (pt_val (pe_call G_Sa (hr.mono (by decide)) (by rfl) g_Sa k_Sa b_Sa .nil pass0 (pa_cons (pe_call G_Tld (hr.mono (by decide)) (by rfl) g_Tld k_Tld b_Tld .nil pass0 (pa_cons (pv 3) (pa_cons (pv 10) pa_nil))) (pa_cons (pe_lst (pa_cons pe_str (pa_cons (pv 8) pa_nil))) pa_nil))))) (pw_or1 (pt_cmpR (op_neD hr.units) (pv 10) (pv 9) (nomark _))))) (pss_one (ps_ret pe_bl)) pss_nil))))))))))) (pss_cons (ps_set (i := 3) sc_law.nd rfl (.inl rfl) (pe_op op_mulS (pe_op op_addS (pe_call G_An (hr.mono (by decide)) (by rfl) g_An k_An b_An .nil pass0 (pa_cons (pv 1) (pa_cons pe_int pa_nil))) pe_str) pe_int)) (pss_cons (ps_set (i := 3) sc_law.nd rfl (.inl rfl) (pe_slice sl_str (pv 3) po_none (po_some pe_int))) (pss_cons (ps_set (i := 11) sc_law.nd rfl (.inl rfl) (pe_tup (pa_cons pe_str (pa_cons pe_int (pa_cons (pe_slice sl_str (pe_op op_addS (pv 3) (pe_call G_Ba (hr.mono (by decide)) (by rfl) g_Ba k_Ba b_Ba .nil pass0 (pa_cons (pv 3) pa_nil))) po_none (po_some pe_int)) pa_nil))))) (pss_one (ps_ret (pe_call G_Sa (hr.mono (by decide)) (by rfl) g_Sa k_Sa b_Sa .nil pass0 (pa_cons (pe_call G_Tld (hr.mono (by decide)) (by rfl) g_Tld k_Tld b_Tld .nil pass0 (pa_cons (pv 3) (pa_cons (pe_lst (pa_cons (pe_tup (pa_cons pe_str (pa_cons pe_int (pa_cons (pv 3) pa_nil)))) (pa_cons (pv 11) pa_nil))) pa_nil))) (pa_cons (pe_lst (pa_cons pe_str (pa_cons pe_int pa_nil))) pa_nil)))))))))), ?_⟩
    have ln : ∀ {n : Nat}, n ≤ 10000 → n ≤ sizeLine := fun h => line_of (by omega)
    walk_at "go"
    refine ⟨a, ns, rfl, hS, fun b l H1 nb B1 s1 => ?_⟩
    walk_at "go"
    refine w_kRng1 (by decide) (by decide) ?_
    refine w_range (fun i σ H2 => ∃ (y2 y3 y4 y5 y6 y7 y8 y9 y10 y11 : Option V), σ = [some (.ref a), some (.ref b), y2, y3, y4, y5, y6, y7, y8, y9, y10, y11] ∧ Bag H2 b l) ⟨none, none, none, none, none, none, none, none, none, none, rfl, B1⟩ ?_ ?_
    · rintro i σ H2 hi ⟨y2, y3, y4, y5, y6, y7, y8, y9, y10, y11, rfl, B2⟩
      walk_at "go"
      refine ⟨b, l, 8, rfl, B2, by decide, by decide, fun x H3 hx lx B3 f3 => ?_⟩
      have lx : x.length ≤ 8 := lx
      walk_at "go"
      refine w_newL (by walk_at "sz") (fun p H4 hp np => ?_)
      have npb : p ≠ b := B3.ne np.nn
      have npl : p ≠ l := B3.neL np.nn
      walk_at "go"
      refine ⟨b, l, 9, rfl, B3.nw np, by decide, by decide, fun n H5 n0 n1 B5 f5 => ?_⟩
      walk_at "go"
      refine w_kRng1 (by omega) (by omega) ?_
      refine w_range (fun k σ H' => ∃ (y6 y7 y8 y9 y10 y11 : Option V) (us : List V) (ss : List Sp3), σ = [some (.ref a), some (.ref b), some (.int (0 + (i : Int))), some (.str x), some (.ref p), some (.str (runs x ss)), y6, y7, y8, y9, y10, y11] ∧ Bag H' b l ∧ H' p = some (.lst us) ∧ StsAt H' us ss ∧ Chn x ss ∧ ss.length ≤ k ∧ Wd (runs x ss) ∧ (runs x ss).length ≤ 8 + 6 * k) ⟨_, _, _, _, _, _, [], [], rfl, B5, f5.at npb hp, .nil, .nil, Nat.le_refl _, hx, lx⟩ ?_ ?_
      · rintro k σ H6 hk ⟨y6, y7, y8, y9, y10, y11, us, ss, rfl, B6, hp6, hs6, hch, hkl, hw, hwl⟩
        have hk8 : k < 8 := by omega
        walk_at "go"
        refine ⟨b, l, _, rfl, B6, hw, by omega, fun t s3 H7 ht hfit hpre B7 f7 => ?_⟩
        have hp7 := f7.at npb hp6
        have hs7 : StsAt H7 us ss := hs6.tps (.fx B6 f7)
        walk_at "go"
        refine w_ifN2 (fun hne => ?_) (fun h0 => ?_)
        · obtain ⟨hf, hsm⟩ := hfit hne
          have hkeep := hf.keeps hw hf.within
          have hdl := does_len hf
          have hsm : s3.new.length ≤ s3.old.length + 6 := hsm
          walk_at "go"
          refine w_append hp7 (lineLt_of (by rw [paired_len hs7]; omega)) (fun H8 hp8 o8 => ?_)
          have ht8 : H8 t = some (.tup s3.vs) := o8.at (ne_of ht hp7 (by intro z; cases z)) ht
          have B8 : Bag H8 b l := B7.off npb npl o8
          have hs8 : StsAt H8 (us ++ [.ref t]) (ss ++ [s3]) := paired_app (hs7.tps (.off hp7 o8)) (.cons ⟨t, rfl, ht8⟩ .nil)
          walk_at "go"
          refine ⟨t, s3, _, rfl, ht8, hpre, by omega, fun due H9 s9 hdue => ?_⟩
          have hdue : due = .str (s3.does (runs x ss)) := by
            rcases hdue with ⟨_, h⟩ | ⟨h, _⟩
            · exact h
            · exact absurd hf h
          subst hdue
          walk_at "go"
          refine ⟨_, _, _, _, _, _, us ++ [.ref t], ss ++ [s3], by rw [runs_snoc]; rfl, B8.same s9, s9.at hp8, hs8.tps (.of s9), hch.snoc hf (by omega), by rw [List.length_append]; show ss.length + 1 ≤ _; omega, by rw [runs_snoc]; exact hkeep.1, by rw [runs_snoc]; omega⟩
        · walk_at "go"
          exact ⟨_, _, _, _, _, _, us, ss, rfl, B7, hp7, hs7, hch, by omega, hw, by omega⟩
      · rintro σ H6 ⟨y6, y7, y8, y9, y10, y11, us, ss, rfl, B6, hp6, hs6, hch, hkl, hw, hwl⟩
        have hkl : ss.length ≤ 8 := by omega
        have hwl : (runs x ss).length ≤ 56 := by omega
        have hul : us.length = ss.length := paired_len hs6
        walk_at "go"
        refine w_listL hp6 (fun p2 H7 hp2 np2 => ?_)
        walk_at "go"
        refine ⟨p2, x, us, [], ss, rfl, by rw [List.append_nil]; exact hp2, hx, by omega, hs6.tps (.of np2.same), hch, by omega, by omega, .inl rfl, fun p3 H8 v1 v2 s8 n3 hp3 hv => ?_⟩
        have hv : v1 = .str (Str.ofString "") ∧ v2 = .str (runs x ss) := by
          rcases hv with ⟨_, h1, h2⟩ | ⟨h, _⟩
          · exact ⟨h1, h2⟩
          · exact absurd rfl h
        obtain ⟨rfl, rfl⟩ := hv
        walk_at "go"
        refine w_newL (by walk_at "sz") (fun p4 H9 hp4 np4 => ?_)
        walk_at "go"
        refine ⟨_, _, rfl, eqv_pair (np4.at hp3) hp4 rfl rfl, fun H10 s10 => ?_⟩
        have sA : Same H6 H10 := by walk_at "sm"
        have hp10 := sA.at hp6
        walk_at "go"
        refine ⟨b, l, _, rfl, B6.same sA, by omega, by omega, fun d H11 d0 d1 B11 f11 => ?_⟩
        have hp11 := f11.at npb hp10
        have tA : TpsS H6 H11 := fun c xs e => TpsS.fx (B6.same sA) f11 c xs (sA.at e)
        have hs11 := hs6.tps tA
        walk_at "go"
        refine w_slL hp11 (fun q1 H12 hq1 nq1 => ?_)
        rw [cutV_take d0 (by omega)] at hq1
        walk_at "go"
        refine w_newT (by walk_at "sz") (fun t0 H13 ht0 nt0 => ?_)
        walk_at "go"
        refine w_newL (by walk_at "sz") (fun q2 H14 hq2 nq2 => ?_)
        refine w_cat (nq2.at (nt0.at hq1)) hq2 (ln (by rw [List.length_take]; show _ + 1 ≤ _; omega)) (fun q3 H15 hq3 nq3 => ?_)
        walk_at "go"
        have hp15 : H15 p = some (.lst us) := nq3.at (nq2.at (nt0.at (nq1.at hp11)))
        refine w_slL hp15 (fun q4 H16 hq4 nq4 => ?_)
        rw [cutV_drop d0 (by omega)] at hq4
        refine w_cat (nq4.at hq3) hq4 (ln (by rw [List.length_append, List.length_take, List.length_drop]; show _ + 1 + _ ≤ _; omega)) (fun q5 H17 hq5 nq5 => ?_)
        walk_at "go"
        refine w_listL hq5 (fun q6 H18 hq6 nq6 => ?_)
        have sB : Same H11 H18 := by walk_at "sm"
        have hs18 := hs11.tps (.of sB)
        have ht18 : H18 t0 = some (.tup [.str (Str.ofString "back"), .int 1, .str (Str.ofString "abcdefgha")]) := by walk_at "hp"
        have w9 : Wd (Str.ofString "abcdefgha") := fun c hc => by
          have : tl (Str.ofString "abcdefgha") = pat9 := by decide +kernel
          rw [this] at hc
          simp only [pat9, List.mem_cons, List.not_mem_nil, or_false] at hc
          rw [sgn_iff]
          omega
        have pre9 : (Sp3.back 1 (Str.ofString "abcdefgha")).PreG := ⟨w9, by decide⟩
        walk_at "go"
        refine ⟨q6, x, us.take d.toNat, .ref t0 :: us.drop d.toNat, ss.take d.toNat, rfl, by rw [hq6, List.append_assoc]; rfl, hx, by omega, paired_take _ hs18, hch.take _, ?_, by rw [List.length_take]; omega, .inr ⟨_, _, rfl, t0, _, _, rfl, ht18, .inr (.inl rfl), by decide +kernel, ?_, by show 2 ≤ 10; decide, ?_⟩, fun p5 H19 v1 v2 s19 n5 hp5 hv => ?_⟩
        · rcases Nat.lt_or_ge d.toNat ss.length with g | g
          · exact (hch _ _ (List.getElem?_eq_getElem g)).2
          · rw [List.take_of_length_le g]
            omega
        · intro v hv
          simp only [List.mem_cons, List.not_mem_nil, or_false] at hv
          rcases hv with rfl | rfl
          · exact sv_int _
          · exact sv_wd w9 (by decide)
        · rintro ⟨s4, e4, hf4⟩
          have : s4 = .back 1 (Str.ofString "abcdefgha") := Sp3.vs_inj e4.symm
          subst this
          exact no_nine hx lx (hch.take _) hf4
        have hv : v1 = .str (Str.ofString "badstep") ∧ v2 = .int d := by
          rcases hv with ⟨h, _⟩ | ⟨_, h1, h2⟩
          · cases h
          · refine ⟨h1, h2.trans ?_⟩
            rw [List.length_take]
            congr 1
            omega
        obtain ⟨rfl, rfl⟩ := hv
        walk_at "go"
        refine w_newL (by walk_at "sz") (fun p6 H20 hp6 np6 => ?_)
        walk_at "go"
        refine ⟨_, _, rfl, eqv_pair (np6.at hp5) hp6 rfl rfl, fun H21 s21 => ?_⟩
        have sC : Same H18 H21 := by walk_at "sm"
        walk_at "go"
        obtain ⟨ds, dd, dl⟩ := sts_data (K := K) (H := H21) (us := us.take d.toNat ++ [.ref t0] ++ us.drop d.toNat) fun v hv => by
          have hm : v ∈ us ∨ v = .ref t0 := by
            rcases List.mem_append.mp hv with hv | hv
            · rcases List.mem_append.mp hv with hv | hv
              · exact .inl (List.mem_of_mem_take hv)
              · exact .inr (List.mem_singleton.mp hv)
            · exact .inl (List.mem_of_mem_drop hv)
          rcases hm with hm | rfl
          · obtain ⟨s, hs, t, e, ht⟩ := (hs18.tps (.of sC)).mem hm
            exact ⟨t, s, e, ht, hch.pre hs⟩
          · exact ⟨t0, .back 1 (Str.ofString "abcdefgha"), rfl, sC.at ht18, pre9⟩
        refine w_neSelf (sC.at hq6) (sC.at (nq6.at hq5)) dd (by
          have := shaped_list (f := id) (l := ds) (fun d h => (dl d h).1) (fun d h => (dl d h).2)
          rw [List.map_id] at this
          exact this) ?_
        walk_at "go"
        exact ⟨_, _, _, _, _, _, _, _, _, _, rfl, (B11.same sB).same sC⟩
    · rintro σ H2 ⟨y2, y3, y4, y5, y6, y7, y8, y9, y10, y11, rfl, B2⟩
      walk_at "go"
      refine ⟨b, l, 6, rfl, B2, by decide, by decide, fun x0 H4 hx0 lx0 B4 f4 => ?_⟩
      have lx0 : x0.length ≤ 6 := lx0
      have laB : (Str.ofString "aB").length = 2 := by decide
      walk_at "go"
      refine w_addS (ln (by rw [laB]; omega)) ?_
      walk_at "go"
      refine w_mulS (by decide) (by decide) (by rw [len_app, laB]; omega) ?_
      have lm : (Txt.mul (x0 ++ Str.ofString "aB") 30).length = (x0.length + 2) * 30 := by rw [mul_len (by decide), len_app, laB]; rfl
      have hm : Wd (Txt.mul (x0 ++ Str.ofString "aB") 30) := (hx0.app (fun c hc => by
        have : tl (Str.ofString "aB") = [97, 66] := by decide +kernel
        rw [this] at hc
        simp only [List.mem_cons, List.not_mem_nil, or_false] at hc
        rcases hc with rfl | rfl <;> decide)).mul
      generalize Txt.mul (x0 ++ Str.ofString "aB") 30 = m at lm hm
      walk_at "go"
      refine w_slS (ln (by omega)) ?_
      have lz : (cutS m none (some 60)).length = 60 := by
        rw [len_tl, tl_cut, List.length_take, List.length_drop, sIx_lo (by decide) (by omega)]
        have : HT.sIx m.length 0 none = 0 := rfl
        rw [this, ← len_tl]
        show min (60 - 0) (m.length - 0) = 60
        omega
      have hz : Wd (cutS m none (some 60)) := hm.cut
      generalize cutS m none (some 60) = z at lz hz
      obtain ⟨hfit, hdoes⟩ := there_whole hz lz
      walk_at "go"
      refine ⟨z, rfl, hz, by omega, fun H5 s5 => ?_⟩
      refine w_addS (ln (by rw [backT_len]; omega)) ?_
      walk_at "go"
      have lzz : (z ++ backT z).length = 120 := by rw [len_app, backT_len]; omega
      refine w_slS (ln (by omega)) ?_
      have lf : (cutS (z ++ backT z) none (some 61)).length = 61 := by
        rw [len_tl, tl_cut, List.length_take, List.length_drop, sIx_lo (by decide) (by omega)]
        have : HT.sIx (z ++ backT z).length 0 none = 0 := rfl
        rw [this, ← len_tl]
        show min (61 - 0) ((z ++ backT z).length - 0) = 61
        omega
      have hf61 : Wd (cutS (z ++ backT z) none (some 61)) := (hz.app (backT_wd hz)).cut
      generalize cutS (z ++ backT z) none (some 61) = u at lf hf61
      walk_at "go"
      refine w_newT (by walk_at "sz") (fun t1 H6 ht1 nt1 => ?_)
      walk_at "go"
      refine w_newT (by walk_at "sz") (fun t2 H7 ht2 nt2 => ?_)
      walk_at "go"
      refine w_newL (by walk_at "sz") (fun p H8 hp np => ?_)
      have ht1' := np.at (nt2.at ht1)
      have ht2' := np.at ht2
      walk_at "go"
      refine ⟨p, z, [.ref t2], [.ref t1], [.there 0 z], rfl, hp, hz, by omega, .cons ⟨t2, rfl, ht2'⟩ .nil, Chn.nil.snoc hfit (by show z.length ≤ 2000; omega), ?_, by show 1 ≤ 1000; decide, .inr ⟨_, _, rfl, t1, _, _, rfl, ht1', .inl rfl, by decide +kernel, ?_, by show 2 ≤ 10; decide, ?_⟩, fun p5 H19 v1 v2 s19 n5 hp5 hv => ?_⟩
      · show (Sp3.does (.there 0 z) z).length ≤ 2000
        rw [hdoes, len_app, len_app, backT_len]
        omega
      · intro v hv
        simp only [List.mem_cons, List.not_mem_nil, or_false] at hv
        rcases hv with rfl | rfl
        · exact sv_int _
        · exact sv_wd hf61 (by omega)
      · rintro ⟨s4, e4, hf4⟩
        have : s4 = .there 0 u := Sp3.vs_inj e4.symm
        subst this
        have := hf4.ok.2.2
        omega
      have hv : v1 = .str (Str.ofString "badstep") ∧ v2 = .int 1 := by
        rcases hv with ⟨h, _⟩ | ⟨_, h1, h2⟩
        · cases h
        · exact ⟨h1, h2⟩
      obtain ⟨rfl, rfl⟩ := hv
      walk_at "go"
      refine w_newL (by walk_at "sz") (fun p6 H20 hp6 np6 => ?_)
      walk_at "go"
      exact ⟨_, _, rfl, eqv_pair (np6.at hp5) hp6 rfl rfl, fun H21 s21 => q _⟩
end
end Sf
namespace Sf
open PySem PySem.Spec PyProof.Rows L2 TL
theorem all_mk {P : Program} {w : World} {K : PySem.W.Frag} {h : Heap} {mg : Str → Option Value} {fa f : Addr} (X : K.In h) (G : h.Ns mainGlobals mg) (hfa : mg "law" = some (.ref fa))
    {od an : Option Addr} {sl : Array (Option Value)} {oc kV dc pm cd ct : Value}
    (aL : PySem.W.nsIn K mainGlobals "law" = some (some (.ref f))) (lL : K.lookup f = some ⟨oc, od, .func (PySem.W.fnOf "law" "law" (defArgs s_law) (defBody s_law) (defScope s_law) .none kV dc pm an cd ct), sl⟩) (cL : PySem.W.codeIn K cd "law" = true) (kL : PySem.W.keepIn K (.ref f) = true)
    (F_law_pull : FnAt K mg "_law_pull" s__law_pull ["_law_bag", "_law_many"])
    (F_law_begin : FnAt K mg "_law_begin" s__law_begin ["_law_script"])
    (F_law_flip : FnAt K mg "_law_flip" s__law_flip ["_law_sign_here"])
    (F_law_sign : FnAt K mg "_law_sign" s__law_sign ["_law_bag", "_law_many"])
    (F_law_word : FnAt K mg "_law_word" s__law_word ["_law_bag", "_law_upto", "_law_many"])
    (F_law_any_word : FnAt K mg "_law_any_word" s__law_any_word ["_law_bag", "_law_upto"])
    (Fis_word : FnAt K mg "is_word" s_is_word ["text"])
    (Fneed_word : FnAt K mg "need_word" s_need_word ["text"])
    (Fis_upto : FnAt K mg "is_upto" s_is_upto ["thing", "most"])
    (Fturned : FnAt K mg "turned" s_turned ["word"])
    (F_law_back : FnAt K mg "_law_back" s__law_back ["_law_word_here"])
    (F_law_same : FnAt K mg "_law_same" s__law_same ["_law_found", "_law_due"])
    (Floop : FnAt K mg "loop" s_loop ["way"])
    (Fis_way : FnAt K mg "is_way" s_is_way ["thing"])
    (Fis_step : FnAt K mg "is_step" s_is_step ["step", "most"])
    (Fsides : FnAt K mg "sides" s_sides ["step"])
    (Freplaced : FnAt K mg "replaced" s_replaced ["word", "step", "number"])
    (Fwalked : FnAt K mg "walked" s_walked ["word", "steps"])
    (F_law_stepped : FnAt K mg "_law_stepped" s__law_stepped ["_law_word_here", "_law_step"])
    (F_law_drawn_step : FnAt K mg "_law_drawn_step" s__law_drawn_step ["_law_bag", "_law_word_here"])
    (F_law_pick : FnAt K mg "_law_pick" s__law_pick ["_law_bag", "_law_row"])
    (F_law_told : FnAt K mg "_law_told" s__law_told ["_law_word_here", "_law_steps"])
    (B : Blt mg) (Nenumerate : mg "enumerate" = none) {t_MOST_WORD : Tok} (C_MOST_WORD : mg "MOST_WORD" = some (.int 60 t_MOST_WORD)) {t_SIGNS : Tok} (C_SIGNS : mg "SIGNS" = some (.str (Str.ofString "aAbBcCdDeEfFgGhH") t_SIGNS))
    {CS fS : Addr} (S_ : SE K mg CS fS) (FS_ : FbD K "__init__" "SpoorError.__init__" s_SpoorError___init__ fS ["self", "word", "message"])
    {CBadStep fBadStep : Addr} (EBadStep : EC K mg "BadStep" CBadStep fBadStep) (IBadStep : Fb K "__init__" "BadStep.__init__" s_BadStep___init__ fBadStep ["self", "at"])
    {pT : Addr} (T_TH : TH K mg w pT)
    (nA : PySem.W.findIn K (.ref CBadStep) "at" = some none) :
    ∃ fd : FuncData, (∀ (s : Shared) (v : Value), BindsTo s fd ⟨[v], []⟩ [("_law_script", v)]) ∧ ∀ base : Heap, K.In base → base.Ns mainGlobals mg → FnOk P w K mg base CX0 7 fa fd ["_law_script"] (spLaw K) := by
  have e := hfa.symm.trans (PySem.W.mg_of X G aL)
  cases e
  have FL := fun_mk (st := s_law) lL cL kL
  refine ⟨PySem.W.fnOf "law" "law" (defArgs s_law) (defBody s_law) (defScope s_law) .none kV dc pm an cd ct, fun s v => .of_eq rfl, fun base _ _ => ?_⟩
  obtain ⟨fdS, FS, bS⟩ := FS_
  obtain ⟨fdB, FB, bB⟩ := IBadStep
  have G_B := ok_bst (P := P) (w := w) (base := base) FB S_ FS bS
  have h_Pu := has_pull (P := P) (w := w) (base := base) F_law_pull B
  have h_Be := has_begin (P := P) (w := w) (base := base) F_law_begin B
  have h_Fl := has_flip (P := P) (w := w) (base := base) F_law_flip
  have h_Si := has_sign (P := P) (w := w) (base := base) F_law_sign h_Pu
  have h_Wo := has_word (P := P) (w := w) (base := base) F_law_word B h_Pu h_Si h_Fl
  have h_An := has_any (P := P) (w := w) (base := base) F_law_any_word h_Pu h_Wo
  have h_Iw := has_isword (P := P) (w := w) (base := base) Fis_word B C_MOST_WORD C_SIGNS
  have h_Ne := has_need (P := P) (w := w) (base := base) Fneed_word h_Iw
  have h_Up := has_up (P := P) (w := w) (base := base) Fis_upto B
  have hT := has_turned (P := P) (w := w) (base := base) Fturned
  have h_Ba := has_back (P := P) (w := w) (base := base) F_law_back h_Fl
  have h_Lo := has_lo (P := P) (w := w) (base := base) Floop hT
  have h_Sds := has_sds (P := P) (w := w) (base := base) Fsides h_Lo
  have h_Iy := has_iyG (P := P) (w := w) (base := base) Fis_way B h_Iw
  have h_Is := has_isG (P := P) (w := w) (base := base) Fis_step B T_TH h_Up h_Iy
  have h_Rp := has_rpX (P := P) (w := w) (base := base) Freplaced B h_Is h_Sds EBadStep nA G_B bB
  have h_Wk := has_wk (P := P) (w := w) (base := base) Fwalked Nenumerate h_Ne h_Rp
  have h_Lst := has_lstG (P := P) (w := w) (base := base) F_law_stepped B h_Ba
  have h_Lpk := has_lpk (P := P) (w := w) (base := base) F_law_pick B h_Pu
  have h_Dr := has_dr (P := P) (w := w) (base := base) F_law_drawn_step B h_Pu h_Lst h_Lpk
  have h_Tld := has_tlw (P := P) (w := w) (base := base) F_law_told h_Wk EBadStep nA
  have h_Sa := has_same (P := P) (w := w) (base := base) F_law_same B
  exact ok_law FL B h_Be h_Pu h_An h_Ba h_Lst h_Dr h_Tld (h_Sa 1)
end Sf
open PySem PySem.W PyProof.Rows
set_option maxRecDepth 100000 in
set_option maxHeartbeats 0 in
theorem PySem.Challenge.cw_spoorfold_k13_rows_of_steps_holds : PySem.Challenge.rw_spoorfold_k13_rows_of_steps.Holds := by
  w_on; o_law; k_head; (case hw => w_witness2)
  k_fill
  refine L2.walk_of (l := PySem.Challenge.rw_spoorfold_k13_rows_of_steps) (n := 63) (k := 7) (x := "_law_script") (CX := fun _ => L2.CX0) (sp := fun w => Sf.spLaw _) rfl (by decide) rfl ⟨rfl, by decide, by decide⟩ (fun w h Y => PySem.W.kIn_of Y) ?F (fun _ _ a ns hl _ hS => ⟨a, ns, rfl, hS, hl, fun _ => rfl⟩) (fun _ _ _ _ _ h => h)
  case F =>
    intro w mg fa h KX G hmg
    refine' Sf.all_mk KX G hmg ?aL ?lL ?cL ?kL (Sf.fnAt_mk KX G ?a0 ?l0 ?c0 ?k0 (fun _ _ _ _ _ _ us hl => match us, hl with | [_, _], _ => rfl)) (Sf.fnAt_mk KX G ?a1 ?l1 ?c1 ?k1 (fun _ _ _ _ _ _ us hl => match us, hl with | [_], _ => rfl)) (Sf.fnAt_mk KX G ?a2 ?l2 ?c2 ?k2 (fun _ _ _ _ _ _ us hl => match us, hl with | [_], _ => rfl)) (Sf.fnAt_mk KX G ?a3 ?l3 ?c3 ?k3 (fun _ _ _ _ _ _ us hl => match us, hl with | [_, _], _ => rfl)) (Sf.fnAt_mk KX G ?a4 ?l4 ?c4 ?k4 (fun _ _ _ _ _ _ us hl => match us, hl with | [_, _, _], _ => rfl)) (Sf.fnAt_mk KX G ?a5 ?l5 ?c5 ?k5 (fun _ _ _ _ _ _ us hl => match us, hl with | [_, _], _ => rfl)) (Sf.fnAt_mk KX G ?a6 ?l6 ?c6 ?k6 (fun _ _ _ _ _ _ us hl => match us, hl with | [_], _ => rfl)) (Sf.fnAt_mk KX G ?a7 ?l7 ?c7 ?k7 (fun _ _ _ _ _ _ us hl => match us, hl with | [_], _ => rfl)) (Sf.fnAt_mk KX G ?a8 ?l8 ?c8 ?k8 (fun _ _ _ _ _ _ us hl => match us, hl with | [_, _], _ => rfl)) (Sf.fnAt_mk KX G ?a9 ?l9 ?c9 ?k9 (fun _ _ _ _ _ _ us hl => match us, hl with | [_], _ => rfl)) (Sf.fnAt_mk KX G ?a10 ?l10 ?c10 ?k10 (fun _ _ _ _ _ _ us hl => match us, hl with | [_], _ => rfl)) (Sf.fnAt_mk KX G ?a11 ?l11 ?c11 ?k11 (fun _ _ _ _ _ _ us hl => match us, hl with | [_, _], _ => rfl)) (Sf.fnAt_mk KX G ?a12 ?l12 ?c12 ?k12 (fun _ _ _ _ _ _ us hl => match us, hl with | [_], _ => rfl)) (Sf.fnAt_mk KX G ?a13 ?l13 ?c13 ?k13 (fun _ _ _ _ _ _ us hl => match us, hl with | [_], _ => rfl)) (Sf.fnAt_mk KX G ?a14 ?l14 ?c14 ?k14 (fun _ _ _ _ _ _ us hl => match us, hl with | [_, _], _ => rfl)) (Sf.fnAt_mk KX G ?a15 ?l15 ?c15 ?k15 (fun _ _ _ _ _ _ us hl => match us, hl with | [_], _ => rfl)) (Sf.fnAt_mk KX G ?a16 ?l16 ?c16 ?k16 (fun _ _ _ _ _ _ us hl => match us, hl with | [_, _, _], _ => rfl)) (Sf.fnAt_mk KX G ?a17 ?l17 ?c17 ?k17 (fun _ _ _ _ _ _ us hl => match us, hl with | [_, _], _ => rfl)) (Sf.fnAt_mk KX G ?a18 ?l18 ?c18 ?k18 (fun _ _ _ _ _ _ us hl => match us, hl with | [_, _], _ => rfl)) (Sf.fnAt_mk KX G ?a19 ?l19 ?c19 ?k19 (fun _ _ _ _ _ _ us hl => match us, hl with | [_, _], _ => rfl)) (Sf.fnAt_mk KX G ?a20 ?l20 ?c20 ?k20 (fun _ _ _ _ _ _ us hl => match us, hl with | [_, _], _ => rfl)) (Sf.fnAt_mk KX G ?a21 ?l21 ?c21 ?k21 (fun _ _ _ _ _ _ us hl => match us, hl with | [_, _], _ => rfl)) ⟨PySem.W.mg_none_of KX G ?z0, PySem.W.mg_none_of KX G ?z1, PySem.W.mg_none_of KX G ?z2, PySem.W.mg_none_of KX G ?z3, PySem.W.mg_none_of KX G ?z4, PySem.W.mg_none_of KX G ?z5, PySem.W.mg_none_of KX G ?z6, PySem.W.mg_none_of KX G ?z7, PySem.W.mg_none_of KX G ?z8, PySem.W.mg_none_of KX G ?z9, PySem.W.mg_none_of KX G ?z10, PySem.W.mg_none_of KX G ?z11⟩ (PySem.W.mg_none_of KX G ?y0) (PySem.W.mg_of KX G ?d0) (PySem.W.mg_of KX G ?d1) (Sf.SE.mk (PySem.W.mg_of KX G ?seC) ?serd ?sega ?seat ?sevV (PySem.W.mg_none_of KX G ?semV)) (Sf.fbD_mk ?sel ?sec ?sek (Sf.se_binds ?seo ?seo2)) (Sf.EC.mk (Sf.oex_mk ?xBadSteplk ?xBadSteprv ?xBadStepsa ?xBadStepex ?xBadStepty ?xBadStepkC) ?xBadStepiC ?xBadSteptI (PySem.W.mg_of KX G ?xBadStepgC) ⟨?xBadStepga, ?xBadStepgg, ?xBadStepex2, ?xBadStephd⟩ ?xBadStepnw (Sf.exm_self ?xBadStepex3 ?xBadStepcl ?xBadStepty2 ?xBadStepsub)) (Sf.fb_mk ?xBadStepil ?xBadStepic ?xBadStepik (fun _ _ _ _ _ _ us hl => match us, hl with | [_, _], _ => rfl)) (Sf.th_mk KX G ?thA ?thL ?thK ?thW ?th1 ?th2 ?th3) ?nA
    (case aL => k_is)
    (case lL => k_is)
    (case cL => k_is)
    (case kL => k_is)
    (case a0 => k_is)
    (case l0 => k_is)
    (case c0 => k_is)
    (case k0 => k_is)
    (case a1 => k_is)
    (case l1 => k_is)
    (case c1 => k_is)
    (case k1 => k_is)
    (case a2 => k_is)
    (case l2 => k_is)
    (case c2 => k_is)
    (case k2 => k_is)
    (case a3 => k_is)
    (case l3 => k_is)
    (case c3 => k_is)
    (case k3 => k_is)
    (case a4 => k_is)
    (case l4 => k_is)
    (case c4 => k_is)
    (case k4 => k_is)
    (case a5 => k_is)
    (case l5 => k_is)
    (case c5 => k_is)
    (case k5 => k_is)
    (case a6 => k_is)
    (case l6 => k_is)
    (case c6 => k_is)
    (case k6 => k_is)
    (case a7 => k_is)
    (case l7 => k_is)
    (case c7 => k_is)
    (case k7 => k_is)
    (case a8 => k_is)
    (case l8 => k_is)
    (case c8 => k_is)
    (case k8 => k_is)
    (case a9 => k_is)
    (case l9 => k_is)
    (case c9 => k_is)
    (case k9 => k_is)
    (case a10 => k_is)
    (case l10 => k_is)
    (case c10 => k_is)
    (case k10 => k_is)
    (case a11 => k_is)
    (case l11 => k_is)
    (case c11 => k_is)
    (case k11 => k_is)
    (case a12 => k_is)
    (case l12 => k_is)
    (case c12 => k_is)
    (case k12 => k_is)
    (case a13 => k_is)
    (case l13 => k_is)
    (case c13 => k_is)
    (case k13 => k_is)
    (case a14 => k_is)
    (case l14 => k_is)
    (case c14 => k_is)
    (case k14 => k_is)
    (case a15 => k_is)
    (case l15 => k_is)
    (case c15 => k_is)
    (case k15 => k_is)
    (case a16 => k_is)
    (case l16 => k_is)
    (case c16 => k_is)
    (case k16 => k_is)
    (case a17 => k_is)
    (case l17 => k_is)
    (case c17 => k_is)
    (case k17 => k_is)
    (case a18 => k_is)
    (case l18 => k_is)
    (case c18 => k_is)
    (case k18 => k_is)
    (case a19 => k_is)
    (case l19 => k_is)
    (case c19 => k_is)
    (case k19 => k_is)
    (case a20 => k_is)
    (case l20 => k_is)
    (case c20 => k_is)
    (case k20 => k_is)
    (case a21 => k_is)
    (case l21 => k_is)
    (case c21 => k_is)
    (case k21 => k_is)
    (case z0 => k_is)
    (case z1 => k_is)
    (case z2 => k_is)
    (case z3 => k_is)
    (case z4 => k_is)
    (case z5 => k_is)
    (case z6 => k_is)
    (case z7 => k_is)
    (case z8 => k_is)
    (case z9 => k_is)
    (case z10 => k_is)
    (case z11 => k_is)
    (case y0 => k_is)
    (case d0 => k_is)
    (case d1 => k_is)
    (case seC => k_is)
    (case serd => k_is)
    (case sega => k_is)
    (case seat => k_is)
    (case sevV => k_is)
    (case semV => k_is)
    (case sel => k_is)
    (case sec => k_is)
    (case sek => k_is)
    (case seo => k_is)
    (case seo2 => rfl)
    (case xBadStepgC => k_is)
    (case xBadSteplk => k_is)
    (case xBadStepsa => k_is)
    (case xBadStepex => k_is)
    (case xBadStepty => k_is)
    (case xBadStepkC => k_is)
    (case xBadStepiC => k_is)
    (case xBadSteptI => k_is)
    (case xBadStepga => k_is)
    (case xBadStepgg => k_is)
    (case xBadStepex2 => k_is)
    (case xBadStephd => k_is)
    (case xBadStepnw => k_is)
    (case xBadStepex3 => k_is)
    (case xBadStepcl => k_is)
    (case xBadStepty2 => k_is)
    (case xBadStepsub => k_is)
    (case xBadStepil => k_is)
    (case xBadStepic => k_is)
    (case xBadStepik => k_is)
    (case xBadSteprv => decide +kernel)
    (case thA => k_is)
    (case thL => k_is)
    (case thK => k_keys)
    (case thW => decide)
    (case th1 => k_is)
    (case th2 => k_is)
    (case th3 => k_is)
    (case nA => k_is)
