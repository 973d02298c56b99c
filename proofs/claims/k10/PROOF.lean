import PyProof.Rows.All
import Wide.All
import OpenK.AllK
import Wide.FinOn
import HandS.ForMost
import HandS.IsInst
import HandS.Zip
import HandS.More
import KE.LtData
import HandS.DictComp
import KE.SortKeyHeap
import HandS.SortKw
import HandS.OwnEq
import PySem.Challenge.RW_spoorfold_k10_whole_tracks_joined_in_any
set_option Elab.async false
set_option linter.all false
set_option maxRecDepth 100000
namespace Sf
open PySem PySem.Spec PyProof.Rows L2
/-! the text of the law by places -/
def topS (i : Nat) : Stmt := PySem.Challenge.pw_spoorfold_k10_whole_tracks_joined_in_any.main.body.getD i (.Pass ⟨0, 0, 0, 0⟩)
abbrev s__wall : Stmt := topS 0
abbrev s_SpoorError___init__ : Stmt := inClass (topS 2) 0
abbrev s_BadWord___init__ : Stmt := inClass (topS 3) 0
abbrev s_is_word : Stmt := topS 7
abbrev s_need_word : Stmt := topS 8
abbrev s_rank : Stmt := topS 9
abbrev s_turned : Stmt := topS 10
abbrev s_glued : Stmt := topS 11
abbrev s_Track___init__ : Stmt := inClass (topS 13) 0
abbrev s_Track_spots : Stmt := inClass (topS 13) 1
abbrev s_Track_end : Stmt := inClass (topS 13) 2
abbrev s_Track_plain : Stmt := inClass (topS 13) 3
abbrev s_Track_joined : Stmt := inClass (topS 13) 4
abbrev s_Track_back : Stmt := inClass (topS 13) 5
abbrev s_Track_within : Stmt := inClass (topS 13) 6
abbrev s_Track___eq__ : Stmt := inClass (topS 13) 7
abbrev s_Track___len__ : Stmt := inClass (topS 13) 8
abbrev s_Track___str__ : Stmt := inClass (topS 13) 9
abbrev s_Track___repr__ : Stmt := inClass (topS 13) 10
abbrev s_moved : Stmt := topS 14
abbrev s_track_of : Stmt := topS 15
abbrev s__law_begin : Stmt := topS 17
abbrev s__law_pull : Stmt := topS 18
abbrev s__law_sign : Stmt := topS 19
abbrev s__law_flip : Stmt := topS 20
abbrev s__law_word : Stmt := topS 21
abbrev s__law_any_word : Stmt := topS 22
abbrev s__law_same : Stmt := topS 23
abbrev s__law_rank : Stmt := topS 24
abbrev s__law_rise : Stmt := topS 25
abbrev s__law_short : Stmt := topS 26
abbrev s__law_spots : Stmt := topS 27
abbrev s__law_back : Stmt := topS 28
abbrev s_law : Stmt := topS 29
end Sf
namespace Sf
open PySem PySem.Spec PyProof.Rows L2 TL
/-! ### helpers of heaps and blocks -/
theorem same_upd {H : Hp} {p : Addr} {o : HO} (h : H p = none) : Same H (upd H p o) := fun b x e => by
  rw [upd_ne (ne_of_none e h)]
  exact e
/-- all but what stands at b stands -/
def Fx (b : Addr) (H H' : Hp) : Prop := ∀ a o, H a = some o → a ≠ b → H' a = some o
theorem Fx.refl {b : Addr} {H : Hp} : Fx b H H := fun _ _ h _ => h
theorem Fx.of {b : Addr} {H H' : Hp} (h : Same H H') : Fx b H H' := fun a o e _ => h a o e
theorem Fx.trans {b : Addr} {H H1 H2 : Hp} (h : Fx b H H1) (k : Fx b H1 H2) : Fx b H H2 := fun a o e n => k a o (h a o e n) n
theorem Fx.same {b : Addr} {H H1 H2 : Hp} (h : Fx b H H1) (k : Same H1 H2) : Fx b H H2 := h.trans (.of k)
theorem Fx.upd {b : Addr} {H H1 : Hp} {o : HO} (h : Fx b H H1) : Fx b H (upd H1 b o) := fun a u e n => by
  rw [upd_ne n]
  exact h a u e n
theorem Fx.new {b p : Addr} {H H1 : Hp} {o : HO} (h : Fx b H H1) (n : H1 p = none) : Fx b H (L2.upd H1 p o) := h.same (same_upd n)
theorem Fx.seq {b a : Addr} {H H1 : Hp} {xs : List V} {K : PySem.W.Frag} (h : Fx b H H1) (n : a ≠ b) (s : SqL K H a xs) : SqL K H1 a xs := by
  rcases s with (s | ⟨o, s⟩) | s
  · exact .inl (.inl (h _ _ s n))
  · exact .inl (.inr ⟨o, h _ _ s n⟩)
  · exact .inr s
theorem seq_by {X : Cx} {st : Stmt} {rest : List Stmt} {D : Ends} {σ : L2.St} {H : Hp} (J : L2.St → Hp → Prop) (hr : ∃ u, PSs X rest u ∧ ∀ σ' H', J σ' H' → u D σ' H')
    (hs : ∀ u : TS, (∀ σ' H', J σ' H' → u D σ' H') → ∃ t, PS X st t ∧ t { D with nx := u D } σ H) : ∃ t, PSs X (st :: rest) t ∧ t D σ H := by
  obtain ⟨u, hu, k⟩ := hr
  obtain ⟨t, ht, h⟩ := hs u k
  exact ⟨tSeq t u, pss_cons ht hu, h⟩
theorem line_of {n : Nat} (h : n ≤ 100000) : n ≤ sizeLine := Nat.le_trans h (by decide)
theorem lineLt_of {n : Nat} (h : n ≤ 100000) : n < sizeLine := Nat.lt_of_le_of_lt h (by decide)
/-! ### the bag of the laws: its list at l, three numbers -/
structure BagL (H : Hp) (b l : Addr) (ns : List Int) (k z r : Int) : Prop where
  hb : H b = some (.lst [.ref l, .int k, .int z, .int r])
  hl : H l = some (.lst (ns.map V.int))
  k0 : 0 ≤ k
  z0 : 0 ≤ z
  r0 : 0 ≤ r
  r1 : r < 2147483647
def Bag (H : Hp) (b : Addr) : Prop := ∃ (l : Addr) (ns : List Int) (k z r : Int), BagL H b l ns k z r
theorem bag_ne {l : Addr} {ns : List Int} {vs : List V} : HO.lst (.ref l :: vs) ≠ HO.lst (ns.map V.int) := fun e => by
  cases ns with
  | nil => cases e
  | cons x r => cases e
theorem BagL.ne {H : Hp} {b l : Addr} {ns : List Int} {k z r : Int} (h : BagL H b l ns k z r) : l ≠ b := fun e => by
  have h1 := h.hb
  have h2 := h.hl
  rw [e, h1] at h2
  exact bag_ne (Option.some.inj h2)
theorem BagL.set {H : Hp} {b l : Addr} {ns : List Int} {k z r k' z' r' : Int} (h : BagL H b l ns k z r) (hk : 0 ≤ k') (hz : 0 ≤ z') (h0 : 0 ≤ r') (h1 : r' < 2147483647) :
    BagL (upd H b (.lst [.ref l, .int k', .int z', .int r'])) b l ns k' z' r' :=
  ⟨upd_same, by rw [upd_ne h.ne]; exact h.hl, hk, hz, h0, h1⟩
theorem Bag.same {H H' : Hp} {b : Addr} (s : Same H H') : Bag H b → Bag H' b
  | ⟨l, ns, k, z, r, h⟩ => ⟨l, ns, k, z, r, s _ _ h.hb, s _ _ h.hl, h.k0, h.z0, h.r0, h.r1⟩
theorem Bag.new {H : Hp} {b p : Addr} {o : HO} (h : Bag H b) (n : H p = none) : Bag (upd H p o) b := h.same (same_upd n)
theorem Bag.ne {H : Hp} {b p : Addr} (h : Bag H b) (n : H p = none) : p ≠ b := fun e => by
  obtain ⟨l, ns, k, z, r, h⟩ := h
  rw [e, h.hb] at n
  cases n
theorem len_eq {α : Type} {xs : List α} {n : Nat} (h : xs.length = n) : ((xs.length : Nat) : Int) = (n : Int) := by rw [h]
theorem int_at {ns : List Int} {k : Int} (h0 : 0 ≤ k) (h1 : k < ((ns.map V.int).length : Nat)) : ∃ v : Int, atI (ns.map V.int) k = some (.int v) := by
  rw [List.length_map] at h1
  refine ⟨ns[k.toNat]'(by omega), at_of (j := k.toNat) (by omega) ?_⟩
  rw [List.getElem?_map, List.getElem?_eq_getElem (by omega)]
  rfl
end Sf
namespace Sf
open PySem PySem.Spec PyProof.Rows L2 TL
/-! ### what stands at the top: a def of the text; a def that keeps a promise; a constant; built-in names -/
def FnAt (K : PySem.W.Frag) (mg : Str → Option Value) (x : Str) (st : Stmt) (ps : List Str) : Prop := ∃ (f : Addr) (fd : FuncData), mg x = some (.ref f) ∧ Fun K x x st f fd ∧ Binds K fd ps []
def Has (P : Program) (w : World) (K : PySem.W.Frag) (mg : Str → Option Value) (base : Heap) (k : Nat) (x : Str) (ps : List Str) (sp : Sp) : Prop :=
  ∃ (f : Addr) (fd : FuncData), mg x = some (.ref f) ∧ PySem.W.keepIn K (.ref f) = true ∧ Binds K fd ps [] ∧ FnOk P w K mg base CX0 k f fd ps sp
theorem FnAt.has {P : Program} {w : World} {K : PySem.W.Frag} {mg : Str → Option Value} {base : Heap} {k : Nat} {x : Str} {st : Stmt} {ps : List Str} {sp : Sp} (h : FnAt K mg x st ps)
    (ok : ∀ {f : Addr} {fd : FuncData}, Fun K x x st f fd → FnOk P w K mg base CX0 k f fd ps sp) : Has P w K mg base k x ps sp := by
  obtain ⟨f, fd, g, F, b⟩ := h
  exact ⟨f, fd, g, F.kp, b, ok F⟩
theorem fnAt_mk {K : PySem.W.Frag} {h : Heap} {mg : Str → Option Value} {x : Str} {st : Stmt} {ps : List Str} {f : Addr} {oc : Value} {od an : Option Addr} {osl : Array (Option Value)} {kV doc pm cdv ct : Value} (X : K.In h) (G : h.Ns mainGlobals mg)
    (a : PySem.W.nsIn K mainGlobals x = some (some (.ref f))) (l : K.lookup f = some ⟨oc, od, .func (PySem.W.fnOf x x (defArgs st) (defBody st) (defScope st) .none kV doc pm an cdv ct), osl⟩)
    (c : PySem.W.codeIn K cdv x = true) (k : PySem.W.keepIn K (.ref f) = true)
    (b : ∀ (kV doc pm : Value) (an : Option Addr) (cdv ct : Value) (us : List Value), us.length = ps.length → bindArgs (PySem.W.fnOf x x (defArgs st) (defBody st) (defScope st) .none kV doc pm an cdv ct) ⟨us, []⟩ = pure (ps.zip us)) : FnAt K mg x st ps :=
  ⟨f, _, PySem.W.mg_of X G a, fun_mk l c k, (fun_mk l c k).binds b⟩
structure Blt (mg : Str → Option Value) : Prop where
  len : mg "len" = none
  range : mg "range" = none
  isinstance : mg "isinstance" = none
  list : mg "list" = none
  tuple : mg "tuple" = none
  bool : mg "bool" = none
  int : mg "int" = none
  str : mg "str" = none
  all : mg "all" = none
  zip : mg "zip" = none
  min : mg "min" = none
  sorted : mg "sorted" = none
theorem lc_gen {J : It} {n : Nat} {g : TG} {tt : TT} {te : TE} {vs : List Nat} {σ : L2.St} {H1 : Hp} {D : Addr} {Qd : Hp → Prop} (Pv : Nat → Hp → Prop) (h0 : Pv 0 (upd H1 D (.lst [])))
    (hgo : ∀ i H, i < n → Pv i H → J.go i H) (hst : ∀ H, Pv n H → J.stop n H)
    (hs : ∀ i x H H', i < n → Pv i H → J.yld i H x H' → g x (wipe σ vs) H' fun σ2 H2 => wipe σ2 vs = wipe σ vs ∧ tt σ2 H2 fun b H3 =>
      if b = true then te σ2 H3 fun y H4 => ∃ acc, H4 D = some (.lst acc) ∧ acc.length < sizeLine ∧ Pv (i + 1) (upd H4 D (.lst (acc ++ [y]))) else Pv (i + 1) H3) (hd : ∀ H, Pv n H → Qd H) :
    ∃ W : Nat → Nat → Hp → Prop, (∃ m, W 0 m (upd H1 D (.lst []))) ∧ ∀ i m H, W i m H →
      (J.stop i H ∧ Qd H) ∨ (J.go i H ∧ ∃ Nx : Hp → Prop, (∀ H', Nx H' → ∃ m', m' < m ∧ W (i + 1) m' H') ∧ ∀ x H', J.yld i H x H' → g x (wipe σ vs) H' fun σ2 H2 => wipe σ2 vs = wipe σ vs ∧ tt σ2 H2 fun b H3 =>
        if b = true then te σ2 H3 fun y H4 => ∃ acc, H4 D = some (.lst acc) ∧ acc.length < sizeLine ∧ Nx (upd H4 D (.lst (acc ++ [y]))) else Nx H3) := by
  refine ⟨fun i m H => m = n - i ∧ i ≤ n ∧ Pv i H, ⟨n, rfl, Nat.zero_le _, h0⟩, ?_⟩
  rintro i m H ⟨rfl, hi, p⟩
  by_cases hlt : i < n
  · exact .inr ⟨hgo i H hlt p, Pv (i + 1), fun H' p' => ⟨n - (i + 1), by omega, rfl, hlt, p'⟩, fun x H' y => hs i x H H' hlt p y⟩
  · have e : i = n := by omega
    subst e
    exact .inl ⟨hst H p, hd H p⟩
theorem for_gen {J : It} {n : Nat} {g : TG} {tb : TS} {D : Ends} {σ : L2.St} {H : Hp} (Pv : Nat → L2.St → Hp → Prop) (h0 : Pv 0 σ H) (hgo : ∀ i σ H, i < n → Pv i σ H → J.go i H) (hst : ∀ σ H, Pv n σ H → J.stop n H)
    (hs : ∀ i x σ H H', i < n → Pv i σ H → J.yld i H x H' → g x σ H' fun σ2 H2 => tb { D with nx := Pv (i + 1), ct := Pv (i + 1), bk := D.nx } σ2 H2) (hd : ∀ σ H, Pv n σ H → D.nx σ H) :
    ∃ W : Nat → Nat → L2.St → Hp → Prop, (∃ m, W 0 m σ H) ∧ ∀ i m σ H, W i m σ H →
      (J.stop i H ∧ D.nx σ H) ∨ (J.go i H ∧ ∃ N : L2.St → Hp → Prop, (∀ σ' H', N σ' H' → ∃ m', m' < m ∧ W (i + 1) m' σ' H') ∧ ∀ x H', J.yld i H x H' → g x σ H' fun σ2 H2 => tb { D with nx := N, ct := N, bk := D.nx } σ2 H2) := by
  refine ⟨fun i m σ H => m = n - i ∧ i ≤ n ∧ Pv i σ H, ⟨n, rfl, Nat.zero_le _, h0⟩, ?_⟩
  rintro i m σ H ⟨rfl, hi, p⟩
  by_cases hlt : i < n
  · exact .inr ⟨hgo i σ H hlt p, Pv (i + 1), fun σ' H' p' => ⟨n - (i + 1), by omega, rfl, hlt, p'⟩, fun x H' y => hs i x σ H H' hlt p y⟩
  · have e : i = n := by omega
    subst e
    exact .inl ⟨hst σ H p, hd σ H p⟩
theorem yes_if {σ : L2.St} {H : Hp} {A B : Hp → Prop} (h : A H) : tYes σ H (fun b H3 => if b = true then A H3 else B H3) := by
  show if true = true then A H else B H
  exact iteT h
/-! ### signs and words -/
def sgn (c : Nat) : Bool := (decide (97 ≤ c) && decide (c ≤ 104)) || (decide (65 ≤ c) && decide (c ≤ 72))
theorem sgn_iff {c : Nat} : sgn c = true ↔ (97 ≤ c ∧ c ≤ 104) ∨ (65 ≤ c ∧ c ≤ 72) := by
  unfold sgn
  simp only [Bool.or_eq_true, Bool.and_eq_true, decide_eq_true_eq]
def flipC (c : Nat) : Nat := if 97 ≤ c then c - 32 else c + 32
def Wd (x : Str) : Prop := ∀ c ∈ tl x, sgn c = true
abbrev one (c : Nat) : Str := ⟨#[c]⟩
theorem tl_one (c : Nat) : tl (one c) = [c] := rfl
theorem len_one (c : Nat) : (one c).length = 1 := rfl
theorem len_app (x y : Str) : (x ++ y).length = x.length + y.length := by
  rw [len_tl, len_tl, len_tl, tl_append, List.length_append]
theorem Wd.app {x y : Str} (hx : Wd x) (hy : Wd y) : Wd (x ++ y) := fun c hc => by
  rw [tl_append, List.mem_append] at hc
  exact hc.elim (hx c) (hy c)
theorem wd_one {c : Nat} (h : sgn c = true) : Wd (one c) := fun d hd => by
  rw [tl_one, List.mem_singleton] at hd
  rw [hd]
  exact h
theorem tl_small : (Str.ofString "abcdefgh").cps.toList = [97, 98, 99, 100, 101, 102, 103, 104] := by decide +kernel
theorem tl_great : (Str.ofString "ABCDEFGH").cps.toList = [65, 66, 67, 68, 69, 70, 71, 72] := by decide +kernel
theorem tl_signs : (Str.ofString "aAbBcCdDeEfFgGhH").cps.toList = [97, 65, 98, 66, 99, 67, 100, 68, 101, 69, 102, 70, 103, 71, 104, 72] := by decide +kernel
theorem in_small {c : Nat} : (c ∈ (Str.ofString "abcdefgh").cps.toList) ↔ (97 ≤ c ∧ c ≤ 104) := by
  rw [tl_small]
  simp only [List.mem_cons, List.not_mem_nil, or_false]
  omega
theorem in_signs {c : Nat} : (c ∈ (Str.ofString "aAbBcCdDeEfFgGhH").cps.toList) ↔ sgn c = true := by
  rw [tl_signs, sgn_iff]
  simp only [List.mem_cons, List.not_mem_nil, or_false]
  omega
theorem upper_one {c : Nat} (h : 97 ≤ c ∧ c ≤ 104) : Txt.upper (one c) = one (c - 32) := by
  have : c = 97 ∨ c = 98 ∨ c = 99 ∨ c = 100 ∨ c = 101 ∨ c = 102 ∨ c = 103 ∨ c = 104 := by omega
  rcases this with rfl | rfl | rfl | rfl | rfl | rfl | rfl | rfl <;> decide +kernel
theorem lower_one {c : Nat} (h : 65 ≤ c ∧ c ≤ 72) : Txt.lower (one c) = one (c + 32) := by
  have : c = 65 ∨ c = 66 ∨ c = 67 ∨ c = 68 ∨ c = 69 ∨ c = 70 ∨ c = 71 ∨ c = 72 := by omega
  rcases this with rfl | rfl | rfl | rfl | rfl | rfl | rfl | rfl <;> decide +kernel
theorem flip_sgn {c : Nat} (h : sgn c = true) : sgn (flipC c) = true := by
  rw [sgn_iff] at h ⊢
  unfold flipC
  split <;> omega
theorem at_small {e : Int} (h0 : 0 ≤ e) (h1 : e < 8) : atI (Str.ofString "abcdefgh").cps.toList e = some (97 + e.toNat) := by
  have : e = 0 ∨ e = 1 ∨ e = 2 ∨ e = 3 ∨ e = 4 ∨ e = 5 ∨ e = 6 ∨ e = 7 := by omega
  rw [tl_small]
  rcases this with rfl | rfl | rfl | rfl | rfl | rfl | rfl | rfl <;> rfl
theorem at_great {e : Int} (h0 : 0 ≤ e) (h1 : e < 8) : atI (Str.ofString "ABCDEFGH").cps.toList e = some (65 + e.toNat) := by
  have : e = 0 ∨ e = 1 ∨ e = 2 ∨ e = 3 ∨ e = 4 ∨ e = 5 ∨ e = 6 ∨ e = 7 := by omega
  rw [tl_great]
  rcases this with rfl | rfl | rfl | rfl | rfl | rfl | rfl | rfl <;> rfl
theorem at_end {x : List Nat} (h : x ≠ []) : ∃ c, atI x (-1) = some c ∧ c ∈ x := by
  refine ⟨x.getLast h, ?_, List.getLast_mem h⟩
  have e := atI_last x.dropLast (x.getLast h)
  rw [List.dropLast_concat_getLast h] at e
  exact e
theorem str_ne {x : Str} (h : ¬ V.str x = V.str "") : tl x ≠ [] := fun e => h (by
  have : x = "" := ext_tl (by rw [e]; decide +kernel)
  rw [this])
theorem wd_nil : Wd "" := fun c hc => by
  have e : tl "" = [] := by decide +kernel
  rw [e] at hc
  cases hc
/-! ### two values of the same data -/
def flat4 : V → Bool
  | .non => true
  | .bl _ => true
  | .int _ => true
  | .str _ => true
  | _ => false
def Eqv (H : Hp) : Nat → V → V → Prop
  | 0, x, y => flat4 x = true ∧ x = y
  | n + 1, x, y => (flat4 x = true ∧ x = y) ∨ ∃ (p q : Addr) (xs ys : List V), x = .ref p ∧ y = .ref q ∧ ((H p = some (.lst xs) ∧ H q = some (.lst ys)) ∨ (H p = some (.tup xs) ∧ H q = some (.tup ys))) ∧
      xs.length = ys.length ∧ xs.length ≤ 100000 ∧ ∀ (i : Nat) (x y : V), xs[i]? = some x → ys[i]? = some y → Eqv H n x y
theorem Eqv.same {H H' : Hp} (s : Same H H') : ∀ {n : Nat} {x y : V}, Eqv H n x y → Eqv H' n x y
  | 0, _, _, h => h
  | _ + 1, _, _, .inl h => .inl h
  | _ + 1, _, _, .inr ⟨p, q, xs, ys, ex, ey, hp, hl, hz, k⟩ => .inr ⟨p, q, xs, ys, ex, ey, hp.elim (fun h => .inl ⟨s _ _ h.1, s _ _ h.2⟩) (fun h => .inr ⟨s _ _ h.1, s _ _ h.2⟩), hl, hz, fun i x y hx hy => Eqv.same s (k i x y hx hy)⟩
theorem Eqv.flat {H : Hp} {n : Nat} {x : V} (h : flat4 x = true) : Eqv H n x x := by
  cases n with
  | zero => exact ⟨h, rfl⟩
  | succ n => exact .inl ⟨h, rfl⟩
theorem flat_kit {K : PySem.W.Frag} {H : Hp} {x : V} (h : flat4 x = true) : ∃ (T : String) (b1 b2 b3 : Bool), TyX K H x (.type T) ∧ kitB T "list" = some false ∧ kitB T "tuple" = some false ∧ kitB T "bool" = some b1 ∧ kitB T "int" = some b2 ∧ kitB T "str" = some b3 := by
  cases x with
  | non => exact ⟨"NoneType", false, false, false, .base .non, by decide +kernel, by decide +kernel, by decide +kernel, by decide +kernel, by decide +kernel⟩
  | bl b => exact ⟨"bool", true, true, false, .base (.bl b), by decide +kernel, by decide +kernel, by decide +kernel, by decide +kernel, by decide +kernel⟩
  | int b => exact ⟨"int", false, true, false, .base (.int b), by decide +kernel, by decide +kernel, by decide +kernel, by decide +kernel, by decide +kernel⟩
  | str b => exact ⟨"str", false, false, true, .base (.str b), by decide +kernel, by decide +kernel, by decide +kernel, by decide +kernel, by decide +kernel⟩
  | byt b => cases h
  | flt b => cases h
  | ref b => cases h
  | ty b => cases h
theorem TyX.same {K : PySem.W.Frag} {H H' : Hp} {x : V} {T : String} (s : Same H H') (f : flat4 x = true) (h : TyX K H x (.type T)) : TyX K H' x (.type T) := by
  cases x with
  | non => cases h with | base h => cases h with | non => exact .base .non
  | bl b => cases h with | base h => cases h with | bl => exact .base (.bl b)
  | int b => cases h with | base h => cases h with | int => exact .base (.int b)
  | str b => cases h with | base h => cases h with | str => exact .base (.str b)
  | byt b => cases f
  | flt b => cases f
  | ref b => cases f
  | ty b => cases f
theorem kit2 {K : PySem.W.Frag} {T : String} (h1 : kitB T "list" = some false) (h2 : kitB T "tuple" = some false) : PySem.W.kitAny K (.type T) [.type "list", .type "tuple"] = some false :=
  kitAny_cons (kit_ty h1) (fun _ => kitAny_cons (kit_ty h2) (fun _ => kitAny_nil) (fun q => nomatch q)) (fun q => nomatch q)
theorem scal_flat {x : V} (h : flat4 x = true) : scal x x = true := by
  cases x <;> first | rfl | cases h
theorem ne_bl (b : Bool) : (!decide (V.bl b = V.bl b)) = false := by simp
end Sf
namespace Sf
open PySem PySem.Spec PyProof.Rows L2 TL
/-! ### blocks by what holds ahead and behind -/
def Stp {ι : Type} (X : Cx) (st : Stmt) (pre post : ι → L2.St → Hp → Prop) : Prop := ∃ t, PS X st t ∧ ∀ (i : ι) (D : Ends) (σ : L2.St) (H : Hp), pre i σ H → (∀ σ' H', post i σ' H' → D.nx σ' H') → t D σ H
def Blk {ι : Type} (X : Cx) (sts : List Stmt) (pre post : ι → L2.St → Hp → Prop) : Prop := ∃ t, PSs X sts t ∧ ∀ (i : ι) (D : Ends) (σ : L2.St) (H : Hp), pre i σ H → (∀ σ' H', post i σ' H' → D.nx σ' H') → t D σ H
theorem Blk.cons {ι : Type} {X : Cx} {st : Stmt} {rest : List Stmt} {pre post : ι → L2.St → Hp → Prop} (mid : ι → L2.St → Hp → Prop) (a : Stp X st pre mid) (b : Blk X rest mid post) : Blk X (st :: rest) pre post := by
  obtain ⟨t, ht, h⟩ := a
  obtain ⟨u, hu, k⟩ := b
  exact ⟨tSeq t u, pss_cons ht hu, fun i D σ H hp hq => h i _ σ H hp fun σ' H' hm => k i D σ' H' hm hq⟩
theorem Blk.one {ι : Type} {X : Cx} {st : Stmt} {pre post : ι → L2.St → Hp → Prop} (a : Stp X st pre post) : Blk X [st] pre post := by
  obtain ⟨t, ht, h⟩ := a
  exact ⟨t, pss_one ht, h⟩
/-- the same within a block -/
theorem Stp.rng {ι : Type} {X : Cx} {tg iter : Expr} {body : List Stmt} {pos : Pos} {wi : TI} {k : Nat} {pre post : ι → L2.St → Hp → Prop} (Pv : ι → Nat → Nat → L2.St → Hp → Prop) (hp : PassesOwn (model X.prog X.w) X.A X.env X.xe) (hc : X.calm = true) (hi : PI X tg iter wi) (hg : PG X tg (gName k))
    (hk : ∀ (j : ι) (σ : L2.St) (H : Hp) (R : It → Hp → Prop), pre j σ H → (∀ n H1, Pv j n 0 σ H1 → R (Itr 0 n) H1) → wi σ H R)
    (hb : Blk (ι := ι × Nat × Nat) X body (fun i σ H => i.2.2 < i.2.1 ∧ ∃ σ0, Pv i.1 i.2.1 i.2.2 σ0 H ∧ σ = σ0.set k (some (.int (0 + (i.2.2 : Int))))) (fun i σ H => Pv i.1 i.2.1 (i.2.2 + 1) σ H))
    (hr : ∀ j n σ H, Pv j n n σ H → post j σ H) (hs : ∀ x, foldedSetIterable iter X.env x = pure x := by intro _; rfl) : Stp X (.For tg iter body [] pos) pre post := by
  obtain ⟨tb, hb, kb⟩ := hb
  refine ⟨_, ps_for hp hc hi hg hb hs, fun j D σ H h0 hq => ?_⟩
  refine hk j σ H _ h0 fun n H1 h0 => ?_
  exact for_range (lo := 0) (n := n) (Pv j n) h0 (fun i σ1 H2 hlt hv => kb (j, n, i) _ _ _ ⟨hlt, σ1, hv, rfl⟩ fun σ' H' h => h) (fun σ1 H2 hv => hq σ1 H2 (hr j n σ1 H2 hv))
/-- the rest of a def's body -/
def Tl (X : Cx) (sts : List Stmt) (D : Ends) (J : L2.St → Hp → Prop) : Prop := ∃ u, PSs X sts u ∧ ∀ σ H, J σ H → u D σ H
theorem Tl.start {X : Cx} {sts : List Stmt} {D : Ends} {σ : L2.St} {H : Hp} (h : Tl X sts D (fun σ' H' => σ' = σ ∧ H' = H)) : ∃ t, PSs X sts t ∧ t D σ H := by
  obtain ⟨u, hu, k⟩ := h
  exact ⟨u, hu, k σ H ⟨rfl, rfl⟩⟩
theorem Tl.cons {X : Cx} {st : Stmt} {rest : List Stmt} {D : Ends} {J : L2.St → Hp → Prop} (mid : L2.St → Hp → Prop) (a : Stp (ι := Unit) X st (fun _ => J) (fun _ => mid)) (b : Tl X rest D mid) : Tl X (st :: rest) D J := by
  obtain ⟨t, ht, h⟩ := a
  obtain ⟨u, hu, k⟩ := b
  exact ⟨tSeq t u, pss_cons ht hu, fun σ H hj => h () _ σ H hj k⟩
end Sf
namespace Sf
open PySem PySem.Spec PyProof.Rows L2 TL
section
variable {P : Program} {w : World} {K : PySem.W.Frag} {mg : Str → Option Value} {base : Heap}
/-! ### _law_pull: some number below many -/
def spPull : Sp := fun vs H Q _ => ∃ (b : Addr) (n : Int), vs = [.ref b, .int n] ∧ Bag H b ∧ 0 < n ∧ n < 1073741824 ∧
  ∀ (d : Int) (H' : Hp), 0 ≤ d → d < n → Bag H' b → Fx b H H' → Q (.int d) H'
theorem sc_pull : FnScope ["_law_bag", "_law_many", "_law_cell", "_law_digit"] ["_law_bag", "_law_many"] (defScope s__law_pull) := ⟨rfl, rfl, rfl, by decide +kernel, rfl, by decide +kernel, by decide +kernel⟩
theorem ok_pull {f : Addr} {fd : FuncData} {j : Nat} (F : Fun K "_law_pull" "_law_pull" s__law_pull f fd) (ml : mg "len" = none) : FnOk P w K mg base CX0 (j + 1) f fd ["_law_bag", "_law_many"] spPull := by
  refine F.ok sc_pull (fun vs H Q E h => ?_) (fun cdv A outer s H vs Q E hr h => ?_)
  · obtain ⟨b, n, rfl, _⟩ := h
    rfl
  · obtain ⟨b, n, rfl, ⟨l, ns, k, z, r, hB⟩, hn0, hn1, q⟩ := h
    refine seq_by (fun σ H1 => ∃ (y2 : Option V) (k z r : Int), σ = [some (.ref b), some (.int n), y2, none] ∧ BagL H1 b l ns k z r ∧ Fx b H H1) ?_ ?_
    · refine ⟨_, pss_cons (ps_if (pt_cmpR op_gt (pe_ix ix_list (pv 0) pe_int (fun _ _ => rfl)) pe_int (nomark _))
          (pss_cons (ps_set (i := 3) sc_pull.nd rfl (.inl rfl) (pe_op op_mod (pe_ix ix_list (pv 0) pe_int (fun _ _ => rfl)) (pv 1)))
          (pss_cons (ps_asg (pe_op op_fdiv (pe_ix ix_list (pv 0) pe_int (fun _ _ => rfl)) (pv 1)) (pg_sub (pv 0) pe_int set_list))
          (pss_one (ps_ret (pv 3))))) pss_nil)
        (pss_cons (ps_asg (pe_op op_mod (pe_op op_add (pe_op op_add (pe_op op_mul (pe_op op_mod (pe_op op_mul (pe_ix ix_list (pv 0) pe_int (fun _ _ => rfl)) (pe_ix ix_list (pv 0) pe_int (fun _ _ => rfl))) pe_int) pe_int)
            (pe_op op_mul (pe_ix ix_list (pv 0) pe_int (fun _ _ => rfl)) pe_int)) pe_int) pe_int) (pg_sub (pv 0) pe_int set_list))
        (pss_one (ps_ret (pe_op op_mod (pe_op op_add (pe_op op_fdiv (pe_ix ix_list (pv 0) pe_int (fun _ _ => rfl)) pe_int) (pe_op op_mul (pe_op op_mod (pe_ix ix_list (pv 0) pe_int (fun _ _ => rfl)) pe_int) pe_int)) (pv 1))))), ?_⟩
      rintro σ H1 ⟨y2, k, z, r, rfl, B, fx⟩
      have hS := SqL.of (K := K) B.hb
      have rr0 := B.r0
      have rr1 := B.r1
      have zz0 := B.z0
      refine ⟨_, rfl, b, _, 2, _, rfl, rfl, hS, at_of (j := 2) rfl rfl, z, 0, rfl, rfl, _, rfl, ite2 (fun e => ?_) (fun e => ?_)⟩
      · have zp : 0 < z := of_decide_eq_true e
        refine ⟨_, rfl, b, _, 2, _, rfl, rfl, hS, at_of (j := 2) rfl rfl, _, rfl, z, n, rfl, rfl, hn0, ?_⟩
        refine ⟨_, rfl, b, _, 2, _, rfl, rfl, hS, at_of (j := 2) rfl rfl, _, rfl, z, n, rfl, rfl, ⟨hn0, hn1⟩, ?_⟩
        refine ⟨_, rfl, b, _, 2, 2, rfl, rfl, B.hb, rfl, ?_⟩
        refine ⟨_, rfl, ?_⟩
        refine q _ _ (Int.emod_nonneg _ (by omega)) (Int.emod_lt_of_pos _ hn0) ⟨l, ns, k, z / n, r, B.set B.k0 (Int.ediv_nonneg B.z0 (by omega)) B.r0 B.r1⟩ fx.upd
      · refine ⟨_, rfl, b, _, 3, _, rfl, rfl, hS, at_of (j := 3) rfl rfl, _, rfl, b, _, 3, _, rfl, rfl, hS, at_of (j := 3) rfl rfl, r, r, rfl, rfl, .inl ⟨by omega, by omega⟩,
          _, 2147483629, rfl, rfl, (by show (0 : Int) < 2147483629; decide), _, 5, rfl, rfl, .inr ⟨by decide, by decide⟩,
          _, rfl, b, _, 3, _, rfl, rfl, hS, at_of (j := 3) rfl rfl, r, 16807, rfl, rfl, .inr ⟨by decide, by decide⟩, _, _, rfl, rfl, _, 2531011, rfl, rfl, _, 2147483647, rfl, rfl, (by show (0 : Int) < 2147483647; decide), ?_⟩
        refine ⟨_, rfl, b, _, 3, 3, rfl, rfl, B.hb, rfl, ?_⟩
        have h0 : 0 ≤ (r * r % 2147483629 * 5 + r * 16807 + 2531011) % 2147483647 := Int.emod_nonneg _ (by decide)
        have h1 : (r * r % 2147483629 * 5 + r * 16807 + 2531011) % 2147483647 < 2147483647 := Int.emod_lt_of_pos _ (by decide)
        have B' : BagL (upd H1 b (.lst [.ref l, .int k, .int z, .int ((r * r % 2147483629 * 5 + r * 16807 + 2531011) % 2147483647)])) b l ns k z ((r * r % 2147483629 * 5 + r * 16807 + 2531011) % 2147483647) := B.set B.k0 B.z0 h0 h1
        have hS' := SqL.of (K := K) B'.hb
        refine ⟨_, rfl, b, _, 3, _, rfl, rfl, hS', at_of (j := 3) rfl rfl, _, 61, rfl, rfl, ⟨by decide, by decide⟩,
          _, rfl, b, _, 3, _, rfl, rfl, hS', at_of (j := 3) rfl rfl, _, 8191, rfl, rfl, (by show (0 : Int) < 8191; decide), _, 31, rfl, rfl, .inr ⟨by decide, by decide⟩, _, _, rfl, rfl, _, rfl, _, n, rfl, rfl, hn0, ?_⟩
        exact q _ _ (Int.emod_nonneg _ (by omega)) (Int.emod_lt_of_pos _ hn0) ⟨l, ns, k, z, _, B'⟩ fx.upd
    · intro u hu
      have hS := SqL.of (K := K) hB.hb
      have hS2 := SqL.of (K := K) hB.hl
      have rr0 := hB.r0
      have rr1 := hB.r1
      have zz0 := hB.z0
      have kk0 := hB.k0
      refine ⟨_, ps_if (PW.pt (pw_and (pt_cmpR op_eq (pe_ix ix_list (pv 0) pe_int (fun _ _ => rfl)) pe_int (nomark _))
            (pw_and1 (pt_cmpR op_lt (pe_ix ix_list (pv 0) pe_int (fun _ _ => rfl)) (pe_callB call_len_seq (by rfl) ml PySem.boot_len (pa_cons (pe_ix ix_list (pv 0) pe_int (fun _ _ => rfl)) pa_nil)) (nomark _)))))
          (pss_cons (ps_set (i := 2) sc_pull.nd rfl (.inl rfl) (pe_ix ix_list (pe_ix ix_list (pv 0) pe_int (fun _ _ => rfl)) (pe_ix ix_list (pv 0) pe_int (fun _ _ => rfl)) (fun _ _ => rfl)))
          (pss_cons (ps_asg (pe_op op_add (pe_ix ix_list (pv 0) pe_int (fun _ _ => rfl)) pe_int) (pg_sub (pv 0) pe_int set_list))
          (pss_one (ps_if (pt_cmpR op_ge (pv 2) (pe_op op_pow pe_int pe_int) (nomark _))
            (pss_one (ps_asg (pv 2) (pg_sub (pv 0) pe_int set_list)))
            (pss_one (ps_asg (pe_op op_mod (pe_op op_add (pe_op op_add (pe_op op_mul (pe_ix ix_list (pv 0) pe_int (fun _ _ => rfl)) pe_int) (pe_op op_mul (pe_op op_mod (pv 2) pe_int) pe_int)) pe_int) pe_int) (pg_sub (pv 0) pe_int set_list)))))))
          pss_nil, ?_⟩
      refine ⟨_, rfl, b, _, 2, _, rfl, rfl, hS, at_of (j := 2) rfl rfl, rfl, _, rfl, ite2 (fun e => ?_) (fun e => ?_)⟩
      · refine ⟨_, rfl, b, _, 1, _, rfl, rfl, hS, at_of (j := 1) rfl rfl, _, rfl, b, _, 0, _, rfl, rfl, hS, at_of (j := 0) rfl rfl, l, _, rfl, .inl hS2, k, _, rfl, rfl, _, rfl, ite2 (fun e2 => ?_) (fun e2 => ?_)⟩
        · obtain ⟨v, hv⟩ := int_at (ns := ns) kk0 (of_decide_eq_true e2)
          refine ⟨_, rfl, b, _, 0, _, rfl, rfl, hS, at_of (j := 0) rfl rfl, _, rfl, b, _, 1, _, rfl, rfl, hS, at_of (j := 1) rfl rfl, l, _, k, _, rfl, rfl, hS2, hv, ?_⟩
          refine ⟨_, rfl, b, _, 1, _, rfl, rfl, hS, at_of (j := 1) rfl rfl, k, 1, rfl, rfl, _, rfl, b, _, 1, 1, rfl, rfl, hB.hb, rfl, ?_⟩
          have B' : BagL (upd H b (.lst [.ref l, .int (k + 1), .int z, .int r])) b l ns (k + 1) z r := hB.set (by omega) zz0 rr0 rr1
          have hS' := SqL.of (K := K) B'.hb
          refine ⟨_, rfl, 10, 18, rfl, rfl, ⟨by decide, by decide, by decide⟩, v, _, rfl, rfl, _, rfl, ite2 (fun e3 => ?_) (fun e3 => ?_)⟩
          · have hv0 : 0 ≤ v := by
              have := of_decide_eq_true e3
              have h18 : (10 : Int) ^ (18 : Int).toNat = 1000000000000000000 := by decide +kernel
              rw [h18] at this
              omega
            refine ⟨_, rfl, _, rfl, b, _, 2, 2, rfl, rfl, B'.hb, rfl, ?_⟩
            exact hu _ _ ⟨some (.int v), k + 1, v, r, rfl, B'.set B'.k0 hv0 rr0 rr1, Fx.refl.upd.upd⟩
          · refine ⟨_, rfl, b, _, 3, _, rfl, rfl, hS', at_of (j := 3) rfl rfl, r, 48271, rfl, rfl, .inr ⟨by decide, by decide⟩, _, rfl, v, 2147483629, rfl, rfl, (by show (0 : Int) < 2147483629; decide), _, 69621, rfl, rfl, .inr ⟨by decide, by decide⟩,
              _, _, rfl, rfl, _, 12345, rfl, rfl, _, 2147483647, rfl, rfl, (by show (0 : Int) < 2147483647; decide), ?_⟩
            refine ⟨_, rfl, b, _, 3, 3, rfl, rfl, B'.hb, rfl, ?_⟩
            exact hu _ _ ⟨some (.int v), k + 1, z, _, rfl, B'.set B'.k0 B'.z0 (Int.emod_nonneg _ (by decide)) (Int.emod_lt_of_pos _ (by decide)), Fx.refl.upd.upd⟩
        · exact hu _ _ ⟨none, k, z, r, rfl, hB, .refl⟩
      · exact iteF (hu _ _ ⟨none, k, z, r, rfl, hB, .refl⟩)
end
end Sf
namespace Sf
open PySem PySem.Spec PyProof.Rows L2 TL
section
variable {P : Program} {w : World} {K : PySem.W.Frag} {mg : Str → Option Value} {base : Heap}
abbrev HasPull (P : Program) (w : World) (K : PySem.W.Frag) (mg : Str → Option Value) (base : Heap) : Prop := Has P w K mg base 1 "_law_pull" ["_law_bag", "_law_many"] spPull
theorem has_pull (F : FnAt K mg "_law_pull" s__law_pull ["_law_bag", "_law_many"]) (B : Blt mg) : HasPull P w K mg base := F.has fun F => ok_pull F B.len
/-! ### _law_flip -/
def spFlip : Sp := fun vs H Q _ => ∃ c : Nat, vs = [.str (one c)] ∧ sgn c = true ∧ Q (.str (one (flipC c))) H
abbrev HasFlip (P : Program) (w : World) (K : PySem.W.Frag) (mg : Str → Option Value) (base : Heap) : Prop := Has P w K mg base 1 "_law_flip" ["_law_sign_here"] spFlip
theorem sc_flip : FnScope ["_law_sign_here"] ["_law_sign_here"] (defScope s__law_flip) := ⟨rfl, rfl, rfl, by decide +kernel, rfl, by decide +kernel, by decide +kernel⟩
theorem has_flip (F : FnAt K mg "_law_flip" s__law_flip ["_law_sign_here"]) : HasFlip P w K mg base := F.has fun F => by
  refine F.ok sc_flip (fun vs H Q E h => ?_) (fun cdv A outer s H vs Q E hr h => ?_)
  · obtain ⟨c, rfl, _⟩ := h
    rfl
  · obtain ⟨c, rfl, hc, q⟩ := h
    refine ⟨_, pss_one (ps_ret (pe_ifExp (pt_cmpR op_in_sign (pv 0) pe_str rfl) (pe_upper (pv 0)) (pe_lower (pv 0)))), ?_⟩
    refine ⟨_, rfl, c, _, rfl, rfl, _, rfl, ite2 (fun e => ?_) (fun e => ?_)⟩
    · have h := in_small.mp (of_decide_eq_true e)
      refine ⟨_, rfl, ⟨_, rfl⟩, _, rfl, rfl, by rw [len_one]; decide, ?_⟩
      rw [upper_one h]
      rw [flipC, if_pos h.1] at q
      exact q
    · have h : ¬ (97 ≤ c ∧ c ≤ 104) := fun z => e (decide_eq_true (in_small.mpr z))
      rw [sgn_iff] at hc
      refine ⟨_, rfl, ⟨_, rfl⟩, _, rfl, rfl, by rw [len_one]; decide, ?_⟩
      rw [lower_one (by omega)]
      rw [flipC, if_neg (by omega)] at q
      exact q
/-! ### _law_sign -/
def spSign : Sp := fun vs H Q _ => ∃ (b : Addr) (n : Int), vs = [.ref b, .int n] ∧ Bag H b ∧ 0 < n ∧ n ≤ 8 ∧
  ∀ (c : Nat) (H' : Hp), sgn c = true → Bag H' b → Fx b H H' → Q (.str (one c)) H'
abbrev HasSign (P : Program) (w : World) (K : PySem.W.Frag) (mg : Str → Option Value) (base : Heap) : Prop := Has P w K mg base 2 "_law_sign" ["_law_bag", "_law_many"] spSign
theorem sc_sign : FnScope ["_law_bag", "_law_many"] ["_law_bag", "_law_many"] (defScope s__law_sign) := ⟨rfl, rfl, rfl, by decide +kernel, rfl, by decide +kernel, by decide +kernel⟩
theorem has_sign (F : FnAt K mg "_law_sign" s__law_sign ["_law_bag", "_law_many"]) (hP : HasPull P w K mg base) : HasSign P w K mg base := F.has fun F => by
  obtain ⟨fP, fdP, gP, kP, bP, GP⟩ := hP
  refine F.ok sc_sign (fun vs H Q E h => ?_) (fun cdv A outer s H vs Q E hr h => ?_)
  · obtain ⟨b, n, rfl, _⟩ := h
    rfl
  · obtain ⟨b, n, rfl, hB, hn0, hn1, q⟩ := h
    refine ⟨_, pss_one (ps_ret (pe_ix ix_str (pe_ix ix_list (pe_lst (pa_cons pe_str (pa_cons pe_str pa_nil))) (pe_call GP hr (by rfl) gP kP bP .nil pass0 (pa_cons (pv 0) (pa_cons pe_int pa_nil))) (fun _ _ => rfl))
      (pe_call GP hr (by rfl) gP kP bP .nil pass0 (pa_cons (pv 0) (pa_cons (pv 1) pa_nil))) (fun _ _ => rfl))), ?_⟩
    refine ⟨by decide, fun p np => ?_⟩
    refine ⟨_, rfl, b, 2, rfl, hB.new np, by decide, by decide, fun d H1 d0 d1 B1 f1 => ?_⟩
    have hp : H1 p = some (.lst [.str "abcdefgh", .str "ABCDEFGH"]) := f1 _ _ upd_same (hB.ne np)
    have hd : d = 0 ∨ d = 1 := by omega
    rcases hd with rfl | rfl
    · refine ⟨p, _, 0, _, rfl, rfl, SqL.of hp, at_of (j := 0) rfl rfl, ?_⟩
      refine ⟨_, rfl, _, rfl, b, n, rfl, B1, hn0, by omega, fun e H2 e0 e1 B2 f2 => ?_⟩
      refine ⟨_, e, _, rfl, rfl, (by decide +kernel), at_small e0 (by omega), ?_⟩
      exact q _ _ (sgn_iff.mpr (by omega)) B2 ((Fx.new .refl np).trans (f1.trans f2))
    · refine ⟨p, _, 1, _, rfl, rfl, SqL.of hp, at_of (j := 1) rfl rfl, ?_⟩
      refine ⟨_, rfl, _, rfl, b, n, rfl, B1, hn0, by omega, fun e H2 e0 e1 B2 f2 => ?_⟩
      refine ⟨_, e, _, rfl, rfl, (by decide +kernel), at_great e0 (by omega), ?_⟩
      exact q _ _ (sgn_iff.mpr (by omega)) B2 ((Fx.new .refl np).trans (f1.trans f2))
/-! ### _law_word -/
def spWord : Sp := fun vs H Q _ => ∃ (b : Addr) (u n : Int), vs = [.ref b, .int u, .int n] ∧ Bag H b ∧ 0 ≤ u ∧ u ≤ 1000 ∧ 0 < n ∧ n ≤ 8 ∧
  ∀ (x : Str) (H' : Hp), Wd x → x.length ≤ u.toNat → Bag H' b → Fx b H H' → Q (.str x) H'
abbrev HasWord (P : Program) (w : World) (K : PySem.W.Frag) (mg : Str → Option Value) (base : Heap) : Prop := Has P w K mg base 3 "_law_word" ["_law_bag", "_law_upto", "_law_many"] spWord
theorem sc_word : FnScope ["_law_bag", "_law_upto", "_law_many", "_law_found", "_law_turn", "_law_sign_here"] ["_law_bag", "_law_upto", "_law_many"] (defScope s__law_word) := ⟨rfl, rfl, rfl, by decide +kernel, rfl, by decide +kernel, by decide +kernel⟩
theorem has_word (F : FnAt K mg "_law_word" s__law_word ["_law_bag", "_law_upto", "_law_many"]) (B : Blt mg) (hP : HasPull P w K mg base) (hS : HasSign P w K mg base) (hF : HasFlip P w K mg base) : HasWord P w K mg base := F.has fun F => by
  obtain ⟨fP, fdP, gP, kP, bP, GP⟩ := hP
  obtain ⟨fS, fdS, gS, kS, bS, GS⟩ := hS
  obtain ⟨fF, fdF, gF, kF, bF, GF⟩ := hF
  refine F.ok sc_word (fun vs H Q E h => ?_) (fun cdv A outer s H vs Q E hr h => ?_)
  · obtain ⟨b, u, n, rfl, _⟩ := h
    rfl
  · obtain ⟨b, u, n, rfl, hB, hu0, hu1, hn0, hn1, q⟩ := h
    have hr1 : Room 1 _ := hr.mono (by decide)
    refine ⟨_, pss_cons (ps_set (i := 3) sc_word.nd rfl (.inl rfl) pe_str)
      (pss_cons (ps_for PassesOwn.never rfl (pi_range1 rfl B.range (pa_cons (pe_call GP hr1 (by rfl) gP kP bP .nil pass0 (pa_cons (pv 0) (pa_cons (pe_op op_add (pv 1) pe_int) pa_nil))) pa_nil)) (pg_name (i := 4) sc_word.nd rfl (.inl rfl))
        (pss_cons (ps_set (i := 5) sc_word.nd rfl (.inl rfl) (pe_call GS hr (by rfl) gS kS bS .nil pass0 (pa_cons (pv 0) (pa_cons (pv 2) pa_nil))))
        (pss_cons (ps_if (PW.pt (pw_and (pt_cmpR op_ne (pv 3) pe_str (nomark _)) (pw_and1 (pt_cmpR op_eq (pe_call GP hr1 (by rfl) gP kP bP .nil pass0 (pa_cons (pv 0) (pa_cons pe_int pa_nil))) pe_int (nomark _)))))
          (pss_one (ps_set (i := 5) sc_word.nd rfl (.inl rfl) (pe_call GF hr1 (by rfl) gF kF bF .nil pass0 (pa_cons (pe_ix ix_str (pv 3) (pe_un un_neg pe_int) (fun _ _ => rfl)) pa_nil)))) pss_nil)
        (pss_one (ps_set (i := 3) sc_word.nd rfl (.inl rfl) (pe_op op_add_str (pv 3) (pv 5)))))))
      (pss_one (ps_ret (pv 3)))), ?_⟩
    refine ⟨_, rfl, _, rfl, u, 1, rfl, rfl, b, u + 1, rfl, hB, by omega, by omega, fun d H1 d0 d1 B1 f1 => ?_⟩
    refine ⟨d, rfl, by omega, by omega, for_range (lo := 0) (n := d.toNat) (fun i σ H2 => ∃ (x : Str) (y4 y5 : Option V), σ = [some (.ref b), some (.int u), some (.int n), some (.str x), y4, y5] ∧ Wd x ∧ x.length ≤ i ∧ Bag H2 b ∧ Fx b H H2)
      ⟨"", none, none, rfl, wd_nil, (by decide +kernel), B1, f1⟩ ?_ ?_⟩
    · rintro i σ H2 hi ⟨x, y4, y5, rfl, hx, hlen, B2, f2⟩
      have hsz : x.length + 1 ≤ sizeLine := Nat.le_trans (Nat.add_le_add_right (Nat.le_trans hlen (by omega : i ≤ 1000)) 1) (by decide)
      refine ⟨_, rfl, _, rfl, b, n, rfl, B2, hn0, hn1, fun c H3 hc B3 f3 => ?_⟩
      have fin : ∀ (c : Nat) (H4 : Hp), sgn c = true → Bag H4 b → Fx b H H4 → ∃ (x' : Str) (y4 y5 : Option V), [some (V.ref b), some (.int u), some (.int n), some (.str (x ++ one c)), some (.int (0 + i)), some (.str (one c))] = [some (.ref b), some (.int u), some (.int n), some (.str x'), y4, y5] ∧ Wd x' ∧ x'.length ≤ i + 1 ∧ Bag H4 b ∧ Fx b H H4 :=
        fun c H4 hc B4 f4 => ⟨_, _, _, rfl, hx.app (wd_one hc), by rw [len_app, len_one]; omega, B4, f4⟩
      refine ⟨_, rfl, rfl, _, rfl, ite2 (fun e => ?_) (fun e => ?_)⟩
      · refine ⟨_, rfl, b, 4, rfl, B3, by decide, by decide, fun d2 H4 _ _ B4 f4 => ?_⟩
        refine ⟨rfl, _, rfl, ite2 (fun e2 => ?_) (fun e2 => ?_)⟩
        · have hne : tl x ≠ [] := str_ne fun z => by
            rw [z] at e
            simp at e
          obtain ⟨c2, hc2, hm⟩ := at_end hne
          refine ⟨_, rfl, 1, rfl, x, _, c2, rfl, rfl, by omega, hc2, c2, rfl, hx c2 hm, ?_⟩
          exact ⟨_, rfl, _, rfl, x, _, rfl, rfl, hsz, fin _ _ (flip_sgn (hx c2 hm)) B4 (f2.trans (f3.trans f4))⟩
        · exact ⟨_, rfl, _, rfl, x, _, rfl, rfl, hsz, fin _ _ hc B4 (f2.trans (f3.trans f4))⟩
      · exact iteF ⟨_, rfl, _, rfl, x, _, rfl, rfl, hsz, fin _ _ hc B3 (f2.trans f3)⟩
    · rintro σ H2 ⟨x, y4, y5, rfl, hx, hlen, B2, f2⟩
      exact ⟨_, rfl, q x H2 hx (by omega) B2 f2⟩
/-! ### _law_any_word -/
def spAny : Sp := fun vs H Q _ => ∃ (b : Addr) (u : Int), vs = [.ref b, .int u] ∧ Bag H b ∧ 0 ≤ u ∧ u ≤ 1000 ∧
  ∀ (x : Str) (H' : Hp), Wd x → x.length ≤ u.toNat → Bag H' b → Fx b H H' → Q (.str x) H'
abbrev HasAny (P : Program) (w : World) (K : PySem.W.Frag) (mg : Str → Option Value) (base : Heap) : Prop := Has P w K mg base 4 "_law_any_word" ["_law_bag", "_law_upto"] spAny
theorem sc_any : FnScope ["_law_bag", "_law_upto"] ["_law_bag", "_law_upto"] (defScope s__law_any_word) := ⟨rfl, rfl, rfl, by decide +kernel, rfl, by decide +kernel, by decide +kernel⟩
theorem has_any (F : FnAt K mg "_law_any_word" s__law_any_word ["_law_bag", "_law_upto"]) (hP : HasPull P w K mg base) (hW : HasWord P w K mg base) : HasAny P w K mg base := F.has fun F => by
  obtain ⟨fP, fdP, gP, kP, bP, GP⟩ := hP
  obtain ⟨fW, fdW, gW, kW, bW, GW⟩ := hW
  refine F.ok sc_any (fun vs H Q E h => ?_) (fun cdv A outer s H vs Q E hr h => ?_)
  · obtain ⟨b, u, rfl, _⟩ := h
    rfl
  · obtain ⟨b, u, rfl, hB, hu0, hu1, q⟩ := h
    refine ⟨_, pss_one (ps_ret (pe_call GW hr (by rfl) gW kW bW .nil pass0 (pa_cons (pv 0) (pa_cons (pv 1) (pa_cons (pe_ix ix_list (pe_lst (pa_cons pe_int (pa_cons pe_int (pa_cons pe_int (pa_cons pe_int pa_nil)))))
      (pe_call GP (hr.mono (by decide)) (by rfl) gP kP bP .nil pass0 (pa_cons (pv 0) (pa_cons pe_int pa_nil))) (fun _ _ => rfl)) pa_nil))))), ?_⟩
    refine ⟨_, rfl, _, rfl, by decide, fun p np => ?_⟩
    refine ⟨_, rfl, b, 4, rfl, hB.new np, by decide, by decide, fun d H1 d0 d1 B1 f1 => ?_⟩
    have hp : H1 p = some (.lst [.int 2, .int 1, .int 3, .int 8]) := f1 _ _ upd_same (hB.ne np)
    have hv : ∃ v : Int, atI [V.int 2, .int 1, .int 3, .int 8] d = some (.int v) ∧ 0 < v ∧ v ≤ 8 := by
      have hd : d = 0 ∨ d = 1 ∨ d = 2 ∨ d = 3 := by omega
      rcases hd with rfl | rfl | rfl | rfl
      · exact ⟨2, rfl, by decide, by decide⟩
      · exact ⟨1, rfl, by decide, by decide⟩
      · exact ⟨3, rfl, by decide, by decide⟩
      · exact ⟨8, rfl, by decide, by decide⟩
    obtain ⟨v, hv, v0, v1⟩ := hv
    refine ⟨p, _, d, _, rfl, rfl, SqL.of hp, hv, b, u, v, rfl, B1, hu0, hu1, v0, v1, fun x H2 hx hl B2 f2 => ?_⟩
    exact q x H2 hx hl B2 ((Fx.new .refl np).trans (f1.trans f2))
/-! ### _law_begin -/
def spBegin (K : PySem.W.Frag) : Sp := fun vs H Q _ => ∃ (a : Addr) (ns : List Int), vs = [.ref a] ∧ SqL K H a (ns.map V.int) ∧ ∀ (b : Addr) (H' : Hp), H b = none → Bag H' b → Same H H' → Q (.ref b) H'
abbrev HasBegin (P : Program) (w : World) (K : PySem.W.Frag) (mg : Str → Option Value) (base : Heap) : Prop := Has P w K mg base 1 "_law_begin" ["_law_script"] (spBegin K)
theorem sc_begin : FnScope ["_law_script", "_law_salt", "_law_cell"] ["_law_script"] (defScope s__law_begin) := ⟨rfl, rfl, rfl, by decide +kernel, rfl, by decide +kernel, by decide +kernel⟩
theorem cut_ints (ns : List Int) (lo hi : Option Int) : ∃ ms : List Int, cutV (ns.map V.int) lo hi = ms.map V.int := by
  refine ⟨(ns.drop (HT.sIx (ns.map V.int).length 0 lo)).take (HT.sIx (ns.map V.int).length (ns.map V.int).length hi - HT.sIx (ns.map V.int).length 0 lo), ?_⟩
  unfold cutV
  rw [List.map_take, List.map_drop]
theorem has_begin (F : FnAt K mg "_law_begin" s__law_begin ["_law_script"]) (B : Blt mg) : HasBegin P w K mg base := F.has fun F => by
  refine F.ok sc_begin (fun vs H Q E h => ?_) (fun cdv A outer s H vs Q E hr h => ?_)
  · obtain ⟨a, ns, rfl, _⟩ := h
    rfl
  · obtain ⟨a, ns, rfl, hS, q⟩ := h
    refine ⟨_, pss_cons (ps_set (i := 1) sc_begin.nd rfl (.inl rfl) pe_int)
      (pss_cons (ps_for PassesOwn.never rfl (pi_list (pe_slice sl_list (pv 0) po_none (po_some pe_int))) (pg_name (i := 2) sc_begin.nd rfl (.inl rfl))
        (pss_one (ps_set (i := 1) sc_begin.nd rfl (.inl rfl) (pe_op op_mod (pe_op op_add (pe_op op_add (pe_op op_mul (pv 1) pe_int) (pe_op op_mod (pv 2) pe_int)) pe_int) pe_int))))
      (pss_one (ps_ret (pe_lst (pa_cons (pe_callTy call_list_of (by rfl) B.list (by decide +kernel) (pa_cons (pe_slice sl_list (pv 0) po_none (po_some pe_int)) pa_nil)) (pa_cons pe_int (pa_cons pe_int (pa_cons (pv 1) pa_nil)))))))), ?_⟩
    obtain ⟨ms, em⟩ := cut_ints ns none (some 63)
    refine ⟨_, rfl, 63, rfl, a, _, rfl, hS, fun p np => ?_⟩
    have s1 : Same H (upd H p (.lst (cutV (ns.map V.int) none (some 63)))) := same_upd np
    have hp : SqL K (upd H p (.lst (cutV (ns.map V.int) none (some 63)))) p (ms.map V.int) := SqL.of (by rw [upd_same, em])
    refine ⟨p, rfl, ⟨_, hp⟩, for_list (K := K) (a := p) (xs := ms.map V.int) (fun i σ H2 => ∃ (r : Int) (y : Option V), σ = [some (.ref a), some (.int r), y] ∧ 0 ≤ r ∧ r < 2147483647 ∧ H2 = upd H p (.lst (cutV (ns.map V.int) none (some 63))))
      ⟨977, none, rfl, by decide, by decide, rfl⟩ (fun i σ H2 _ ⟨_, _, _, _, _, e⟩ => by rw [e]; exact hp) ?_ ?_⟩
    · rintro i v σ H2 hi ⟨r, y, rfl, r0, r1, rfl⟩
      obtain ⟨z, rfl⟩ : ∃ z, v = V.int z := by
        rw [List.getElem?_map] at hi
        cases e : ms[i]? with
        | none =>
          rw [e] at hi
          cases hi
        | some z =>
          rw [e] at hi
          exact ⟨z, (Option.some.inj hi).symm⟩
      refine ⟨_, rfl, r, 1009, rfl, rfl, .inr ⟨by decide, by decide⟩, _, rfl, z, 2147483629, rfl, rfl, (by show (0 : Int) < 2147483629; decide), _, _, rfl, rfl, _, 7, rfl, rfl, _, 2147483629, rfl, rfl, (by show (0 : Int) < 2147483629; decide), ?_⟩
      have h0 : 0 ≤ (r * 1009 + z % 2147483629 + 7) % 2147483629 := Int.emod_nonneg _ (by decide)
      have h1 : (r * 1009 + z % 2147483629 + 7) % 2147483629 < 2147483629 := Int.emod_lt_of_pos _ (by decide)
      exact ⟨_, _, rfl, h0, by omega, rfl⟩
    · rintro σ H2 ⟨r, y, rfl, r0, r1, rfl⟩
      refine ⟨_, rfl, 63, rfl, a, _, rfl, s1.seq hS, fun p2 np2 => ?_⟩
      have hp2 : SqL K (upd (upd H p (.lst (cutV (ns.map V.int) none (some 63)))) p2 (.lst (cutV (ns.map V.int) none (some 63)))) p2 (ms.map V.int) := SqL.of (by rw [upd_same, em])
      have s2 := s1.trans (same_upd (o := .lst (cutV (ns.map V.int) none (some 63))) np2)
      refine ⟨p2, _, rfl, .inl hp2, fun l nl => ?_⟩
      have s3 := s2.trans (same_upd (o := .lst (ms.map V.int)) nl)
      refine ⟨_, rfl, (by show 4 ≤ sizeLine; decide), fun b nb => ?_⟩
      have s4 := s3.trans (same_upd (o := .lst [.ref l, .int 0, .int 0, .int r]) nb)
      refine q b _ (s3.free nb) ⟨l, ms, 0, 0, r, upd_same, ?_, by decide, by decide, r0, r1⟩ s4
      have nlb : l ≠ b := fun z => by
        rw [← z, upd_same] at nb
        cases nb
      rw [upd_ne nlb, upd_same]
end
end Sf
namespace Sf
open PySem PySem.Spec PyProof.Rows L2 TL
section
variable {P : Program} {w : World} {K : PySem.W.Frag} {mg : Str → Option Value} {base : Heap}
/-! ### _law_same: True of two values of the same data -/
def spSame (n : Nat) : Sp := fun vs H Q _ => ∃ x y : V, vs = [x, y] ∧ Eqv H n x y ∧ ∀ H', Same H H' → Q (.bl true) H'
abbrev HasSame (P : Program) (w : World) (K : PySem.W.Frag) (mg : Str → Option Value) (base : Heap) (n : Nat) : Prop := Has P w K mg base (n + 1) "_law_same" ["_law_found", "_law_due"] (spSame n)
theorem sc_same : FnScope ["_law_found", "_law_due", "_law_one", "_law_other"] ["_law_found", "_law_due"] (defScope s__law_same) := ⟨rfl, rfl, rfl, by decide +kernel, rfl, by decide +kernel, by decide +kernel⟩
theorem all_true (n : Nat) : (List.replicate n true).all id = true := by
  induction n with
  | zero => rfl
  | succ n ih => rw [List.replicate_succ, List.all_cons, ih]; rfl
theorem has_same (F : FnAt K mg "_law_same" s__law_same ["_law_found", "_law_due"]) (B : Blt mg) : ∀ n, HasSame P w K mg base n := by
  intro n
  induction n with
  | zero =>
    refine F.has fun F => ?_
    refine F.ok sc_same (fun vs H Q E h => ?_) (fun cdv A outer s H vs Q E hr h => ?_)
    · obtain ⟨x, y, rfl, _⟩ := h
      rfl
    · obtain ⟨x, y, rfl, ⟨fx, rfl⟩, q⟩ := h
      obtain ⟨T, b1, b2, b3, ty, k1, k2, k3, k4, k5⟩ := flat_kit (K := K) (H := H) fx
      refine ⟨_, pss_cons (ps_if (pt_val (pe_callB call_isiT (by rfl) B.isinstance (by decide +kernel) (pa_cons (pv 1) (pa_cons (pe_tup (pa_cons (pe_bltn (v := .ty "list") (by rfl) B.list (by decide +kernel) rfl) (pa_cons (pe_bltn (v := .ty "tuple") (by rfl) B.tuple (by decide +kernel) rfl) pa_nil))) pa_nil)))) pss_never pss_nil)
        (pss_cons (ps_if (PW.pt (pw_or (pt_cmpR op_isN (pv 1) pe_non (nomark _)) (pw_or1 (pt_cmpR op_isN (pv 0) pe_non (nomark _))))) (pss_one (ps_ret (pe_and (pe_cmpR op_isN (pv 0) pe_non (nomark _)) (pe_one (pe_cmpR op_isN (pv 1) pe_non (nomark _)))))) pss_nil)
        (pss_cons (ps_if (PW.pt (pw_or (pt_cmpR op_ne (pe_callB call_isi (by rfl) B.isinstance (by decide +kernel) (pa_cons (pv 0) (pa_cons (pe_bltn (v := .ty "bool") (by rfl) B.bool (by decide +kernel) rfl) pa_nil))) (pe_callB call_isi (by rfl) B.isinstance (by decide +kernel) (pa_cons (pv 1) (pa_cons (pe_bltn (v := .ty "bool") (by rfl) B.bool (by decide +kernel) rfl) pa_nil))) (nomark _))
            (pw_or1 (pt_cmpR op_ne (pe_callB call_isi (by rfl) B.isinstance (by decide +kernel) (pa_cons (pv 0) (pa_cons (pe_bltn (v := .ty "int") (by rfl) B.int (by decide +kernel) rfl) pa_nil))) (pe_callB call_isi (by rfl) B.isinstance (by decide +kernel) (pa_cons (pv 1) (pa_cons (pe_bltn (v := .ty "int") (by rfl) B.int (by decide +kernel) rfl) pa_nil))) (nomark _))))) pss_never pss_nil)
        (pss_one (ps_ret (pe_and (pe_cmpR op_eq (pe_callB call_isi (by rfl) B.isinstance (by decide +kernel) (pa_cons (pv 0) (pa_cons (pe_bltn (v := .ty "str") (by rfl) B.str (by decide +kernel) rfl) pa_nil))) (pe_callB call_isi (by rfl) B.isinstance (by decide +kernel) (pa_cons (pv 1) (pa_cons (pe_bltn (v := .ty "str") (by rfl) B.str (by decide +kernel) rfl) pa_nil))) (nomark _)) (pe_one (pe_cmpR op_eq (pv 0) (pv 1) (nomark _)))))))), ?_⟩
      refine ⟨x, rfl, (by show 2 ≤ sizeLine; decide), fun p np => ?_⟩
      have s1 := same_upd (o := .tup [.ty "list", .ty "tuple"]) np
      have ty1 := TyX.same s1 fx ty
      refine ⟨x, p, _, _, [.type "list", .type "tuple"], false, rfl, upd_same, .cons (.ty _) (.cons (.ty _) .nil), ty1, kit2 k1 k2, _, rfl, iteF ?_⟩
      refine ⟨x, rfl, rfl, _, rfl, ite2 (fun e => ?_) (fun e => ?_)⟩
      · have ex : x = .non := of_decide_eq_true e
        subst ex
        refine iteT ⟨_, rfl, rfl, _, rfl, ite2 (fun _ => ⟨_, rfl, rfl, ?_⟩) (fun z => absurd (decide_eq_true rfl) z)⟩
        exact q _ s1
      · refine ⟨x, rfl, rfl, _, rfl, ite2 (fun e2 => absurd e2 e) (fun _ => ?_)⟩
        refine ⟨x, rfl, x, _, _, _, b1, rfl, .ty "bool", ty1, kit_ty k3, x, rfl, x, _, _, _, b1, rfl, .ty "bool", ty1, kit_ty k3, rfl, _, rfl, ite2 (fun z => ?_) (fun _ => ?_)⟩
        · rw [ne_bl] at z
          cases z
        · refine ⟨x, rfl, x, _, _, _, b2, rfl, .ty "int", ty1, kit_ty k4, x, rfl, x, _, _, _, b2, rfl, .ty "int", ty1, kit_ty k4, rfl, _, rfl, ite2 (fun z => ?_) (fun _ => ?_)⟩
          · rw [ne_bl] at z
            cases z
          · refine ⟨x, rfl, x, _, _, _, b3, rfl, .ty "str", ty1, kit_ty k5, x, rfl, x, _, _, _, b3, rfl, .ty "str", ty1, kit_ty k5, rfl, _, rfl, ite2 (fun z => ?_) (fun z => absurd (decide_eq_true rfl) z)⟩
            refine ⟨x, rfl, x, rfl, scal_flat fx, ?_⟩
            rw [decide_eq_true rfl]
            exact q _ s1
  | succ n ih =>
    obtain ⟨fR, fdR, gR, kR, bR, GR⟩ := ih
    refine F.has fun F => ?_
    refine F.ok sc_same (fun vs H Q E h => ?_) (fun cdv A outer s H vs Q E hr h => ?_)
    · obtain ⟨x, y, rfl, _⟩ := h
      rfl
    · obtain ⟨x, y, rfl, hE, q⟩ := h
      refine seq_by (fun σ H1 => σ = [some x, some x, none, none] ∧ flat4 x = true ∧ Same H H1) ?_ ?_
      · refine ⟨_, (pss_cons (ps_if (PW.pt (pw_or (pt_cmpR op_isN (pv 1) pe_non (nomark _)) (pw_or1 (pt_cmpR op_isN (pv 0) pe_non (nomark _))))) (pss_one (ps_ret (pe_and (pe_cmpR op_isN (pv 0) pe_non (nomark _)) (pe_one (pe_cmpR op_isN (pv 1) pe_non (nomark _)))))) pss_nil)
        (pss_cons (ps_if (PW.pt (pw_or (pt_cmpR op_ne (pe_callB call_isi (by rfl) B.isinstance (by decide +kernel) (pa_cons (pv 0) (pa_cons (pe_bltn (v := .ty "bool") (by rfl) B.bool (by decide +kernel) rfl) pa_nil))) (pe_callB call_isi (by rfl) B.isinstance (by decide +kernel) (pa_cons (pv 1) (pa_cons (pe_bltn (v := .ty "bool") (by rfl) B.bool (by decide +kernel) rfl) pa_nil))) (nomark _))
            (pw_or1 (pt_cmpR op_ne (pe_callB call_isi (by rfl) B.isinstance (by decide +kernel) (pa_cons (pv 0) (pa_cons (pe_bltn (v := .ty "int") (by rfl) B.int (by decide +kernel) rfl) pa_nil))) (pe_callB call_isi (by rfl) B.isinstance (by decide +kernel) (pa_cons (pv 1) (pa_cons (pe_bltn (v := .ty "int") (by rfl) B.int (by decide +kernel) rfl) pa_nil))) (nomark _))))) pss_never pss_nil)
        (pss_one (ps_ret (pe_and (pe_cmpR op_eq (pe_callB call_isi (by rfl) B.isinstance (by decide +kernel) (pa_cons (pv 0) (pa_cons (pe_bltn (v := .ty "str") (by rfl) B.str (by decide +kernel) rfl) pa_nil))) (pe_callB call_isi (by rfl) B.isinstance (by decide +kernel) (pa_cons (pv 1) (pa_cons (pe_bltn (v := .ty "str") (by rfl) B.str (by decide +kernel) rfl) pa_nil))) (nomark _)) (pe_one (pe_cmpR op_eq (pv 0) (pv 1) (nomark _)))))))), ?_⟩
        rintro σ H1 ⟨rfl, fx, s1⟩
        obtain ⟨T, b1, b2, b3, ty1, k1, k2, k3, k4, k5⟩ := flat_kit (K := K) (H := H1) fx
        refine ⟨x, rfl, rfl, _, rfl, ite2 (fun e => ?_) (fun e => ?_)⟩
        · have ex : x = .non := of_decide_eq_true e
          subst ex
          refine iteT ⟨_, rfl, rfl, _, rfl, ite2 (fun _ => ⟨_, rfl, rfl, ?_⟩) (fun z => absurd (decide_eq_true rfl) z)⟩
          exact q _ s1
        · refine ⟨x, rfl, rfl, _, rfl, ite2 (fun e2 => absurd e2 e) (fun _ => ?_)⟩
          refine ⟨x, rfl, x, _, _, _, b1, rfl, .ty "bool", ty1, kit_ty k3, x, rfl, x, _, _, _, b1, rfl, .ty "bool", ty1, kit_ty k3, rfl, _, rfl, ite2 (fun z => ?_) (fun _ => ?_)⟩
          · rw [ne_bl] at z
            cases z
          · refine ⟨x, rfl, x, _, _, _, b2, rfl, .ty "int", ty1, kit_ty k4, x, rfl, x, _, _, _, b2, rfl, .ty "int", ty1, kit_ty k4, rfl, _, rfl, ite2 (fun z => ?_) (fun _ => ?_)⟩
            · rw [ne_bl] at z
              cases z
            · refine ⟨x, rfl, x, _, _, _, b3, rfl, .ty "str", ty1, kit_ty k5, x, rfl, x, _, _, _, b3, rfl, .ty "str", ty1, kit_ty k5, rfl, _, rfl, ite2 (fun z => ?_) (fun z => absurd (decide_eq_true rfl) z)⟩
              refine ⟨x, rfl, x, rfl, scal_flat fx, ?_⟩
              rw [decide_eq_true rfl]
              exact q _ s1
      · intro u hu
        refine ⟨_, ps_if (pt_val (pe_callB call_isiT (by rfl) B.isinstance (by decide +kernel) (pa_cons (pv 1) (pa_cons (pe_tup (pa_cons (pe_bltn (v := .ty "list") (by rfl) B.list (by decide +kernel) rfl) (pa_cons (pe_bltn (v := .ty "tuple") (by rfl) B.tuple (by decide +kernel) rfl) pa_nil))) pa_nil))))
          (pss_cons (ps_if (PW.pt (pw_or (pt_cmpR op_ne (pe_callB call_isi (by rfl) B.isinstance (by decide +kernel) (pa_cons (pv 0) (pa_cons (pe_bltn (v := .ty "list") (by rfl) B.list (by decide +kernel) rfl) pa_nil))) (pe_callB call_isi (by rfl) B.isinstance (by decide +kernel) (pa_cons (pv 1) (pa_cons (pe_bltn (v := .ty "list") (by rfl) B.list (by decide +kernel) rfl) pa_nil))) (nomark _)) (pw_or1 (pt_cmpR op_ne (pe_callB call_isi (by rfl) B.isinstance (by decide +kernel) (pa_cons (pv 0) (pa_cons (pe_bltn (v := .ty "tuple") (by rfl) B.tuple (by decide +kernel) rfl) pa_nil))) (pe_callB call_isi (by rfl) B.isinstance (by decide +kernel) (pa_cons (pv 1) (pa_cons (pe_bltn (v := .ty "tuple") (by rfl) B.tuple (by decide +kernel) rfl) pa_nil))) (nomark _))))) pss_never pss_nil)
          (pss_one (ps_ret (pe_and (pe_cmpR op_eq (pe_callB call_len_seq (by rfl) B.len PySem.boot_len (pa_cons (pv 0) pa_nil)) (pe_callB call_len_seq (by rfl) B.len PySem.boot_len (pa_cons (pv 1) pa_nil)) (nomark _))
            (pe_one (pe_callB (cr_all rfl) (by rfl) B.all (by decide +kernel) (pa_cons (pe_lc (own := [("_law_one", 2), ("_law_other", 3)]) (g := gTup K 2 (gCons (gName 2) (gCons (gName 3) gNil))) (tt := tYes) (by rfl) sc_same.nd (RZ.pi_zipA (by rfl) B.zip (pa_cons (pv 0) (pa_cons (pv 1) pa_nil)))
              (blkOk_by (own := [("_law_one", 2), ("_law_other", 3)]) (N := ["_law_found", "_law_due", "_law_one", "_law_other"]) (sc := defScope s__law_same) (by decide +kernel))
              (fun _ _ _ _ _ => pg_tup rfl (pgs_cons (pg_name (i := 2) sc_same.nd rfl (.inl rfl)) (pgs_cons (pg_name (i := 3) sc_same.nd rfl (.inl rfl)) pgs_nil))) (fun _ _ _ _ _ => pts_nil)
              (fun _ _ _ _ _ => pe_call GR hr (by rfl) gR kR bR .nil pass0 (pa_cons (pv 2) (pa_cons (pv 3) pa_nil)))) pa_nil))))))) pss_nil, ?_⟩
        refine ⟨y, rfl, (by show 2 ≤ sizeLine; decide), fun p np => ?_⟩
        have s1 := same_upd (o := .tup [.ty "list", .ty "tuple"]) np
        rcases hE with ⟨fx, rfl⟩ | ⟨pa, pb, xs, ys, rfl, rfl, hxy, hlen, hsz, hEach⟩
        · obtain ⟨T, b1, b2, b3, ty, k1, k2, k3, k4, k5⟩ := flat_kit (K := K) (H := upd H p (.tup [.ty "list", .ty "tuple"])) fx
          exact ⟨x, p, _, _, [.type "list", .type "tuple"], false, rfl, upd_same, .cons (.ty _) (.cons (.ty _) .nil), ty, kit2 k1 k2, _, rfl, iteF (hu _ _ ⟨rfl, fx, s1⟩)⟩
        · obtain ⟨T, bl, bt, tyx, tyy, kany, kl, kt⟩ : ∃ (T : String) (bl bt : Bool), TyX K (upd H p (.tup [.ty "list", .ty "tuple"])) (.ref pa) (.type T) ∧ TyX K (upd H p (.tup [.ty "list", .ty "tuple"])) (.ref pb) (.type T) ∧
              PySem.W.kitAny K (.type T) [.type "list", .type "tuple"] = some true ∧ kitB T "list" = some bl ∧ kitB T "tuple" = some bt := by
            rcases hxy with ⟨ha, hb⟩ | ⟨ha, hb⟩
            · exact ⟨"list", true, false, .base (.lst (s1 _ _ ha)), .base (.lst (s1 _ _ hb)), kitAny_cons (kit_ty (b := "list") (r := true) (by decide +kernel)) (fun q => nomatch q) (fun _ => rfl), by decide +kernel, by decide +kernel⟩
            · exact ⟨"tuple", false, true, .base (.tup (s1 _ _ ha)), .base (.tup (s1 _ _ hb)), kitAny_cons (kit_ty (b := "list") (r := false) (by decide +kernel)) (fun _ => kitAny_cons (kit_ty (b := "tuple") (r := true) (by decide +kernel)) (fun q => nomatch q) (fun _ => rfl)) (fun q => nomatch q), by decide +kernel, by decide +kernel⟩
          refine ⟨_, p, _, _, [.type "list", .type "tuple"], true, rfl, upd_same, .cons (.ty _) (.cons (.ty _) .nil), tyy, kany, _, rfl, iteT ?_⟩
          refine ⟨_, rfl, _, _, _, _, bl, rfl, .ty "list", tyx, kit_ty kl, _, rfl, _, _, _, _, bl, rfl, .ty "list", tyy, kit_ty kl, rfl, _, rfl, ite2 (fun z => ?_) (fun _ => ?_)⟩
          · rw [ne_bl] at z
            cases z
          refine ⟨_, rfl, _, _, _, _, bt, rfl, .ty "tuple", tyx, kit_ty kt, _, rfl, _, _, _, _, bt, rfl, .ty "tuple", tyy, kit_ty kt, rfl, _, rfl, ite2 (fun z => ?_) (fun _ => ?_)⟩
          · rw [ne_bl] at z
            cases z
          have sqx : SqL K (upd H p (.tup [.ty "list", .ty "tuple"])) pa xs ∨ SqT K (upd H p (.tup [.ty "list", .ty "tuple"])) pa xs := hxy.elim (fun h => .inl (SqL.of (s1 _ _ h.1))) (fun h => .inr (SqT.of (s1 _ _ h.1)))
          have sqy : SqL K (upd H p (.tup [.ty "list", .ty "tuple"])) pb ys ∨ SqT K (upd H p (.tup [.ty "list", .ty "tuple"])) pb ys := hxy.elim (fun h => .inl (SqL.of (s1 _ _ h.2))) (fun h => .inr (SqT.of (s1 _ _ h.2)))
          refine ⟨_, rfl, pa, xs, rfl, sqx, _, rfl, pb, ys, rfl, sqy, rfl, _, rfl, ite2 (fun _ => ?_) (fun z => absurd (decide_eq_true (by rw [hlen])) z)⟩
          refine ⟨_, rfl, _, rfl, pa, pb, xs, ys, rfl, ?_⟩
          have turn : ∀ (i : Nat) (x y : V) (D T : Addr) (H2 : Hp), (upd H p (.tup [.ty "list", .ty "tuple"])) D = none → xs[i]? = some x → ys[i]? = some y → Same (upd H p (.tup [.ty "list", .ty "tuple"])) H2 → H2 D = some (.lst (List.replicate i (V.bl true))) → H2 T = none →
              ∃ x' y' : V, [x, y] ++ [] = [x', y'] ∧ Eqv (upd H2 T (.tup [x, y])) n x' y' ∧ ∀ H', Same (upd H2 T (.tup [x, y])) H' → ∃ acc, H' D = some (.lst acc) ∧ acc.length < sizeLine ∧ (Same (upd H p (.tup [.ty "list", .ty "tuple"])) (upd H' D (.lst (acc ++ [.bl true]))) ∧ (upd H' D (.lst (acc ++ [.bl true]))) D = some (.lst (List.replicate (i + 1) (V.bl true)))) := by
            intro i x y D T H2 nD hx hy s2 hD nT
            have s3 : Same H2 (upd H2 T (.tup [x, y])) := same_upd nT
            have hi : i < xs.length := (List.getElem?_eq_some_iff.mp hx).1
            refine ⟨x, y, rfl, (hEach i x y hx hy).same (s1.trans (s2.trans s3)), fun H' s4 => ⟨_, s4 _ _ (s3 _ _ hD), ?_, fun a o e => ?_, ?_⟩⟩
            · rw [List.length_replicate]
              exact lineLt_of (by omega)
            · rw [upd_ne (ne_of_none e nD)]
              exact s4 _ _ (s3 _ _ (s2 _ _ e))
            · rw [upd_same, List.replicate_succ']
          have fin : ∀ (D : Addr) (H2 : Hp), Same (upd H p (.tup [.ty "list", .ty "tuple"])) H2 → H2 D = some (.lst (List.replicate xs.length (V.bl true))) → ∃ (a : Addr) (bs : List Bool), [V.ref D] = [V.ref a] ∧ SqL K H2 a (bs.map V.bl) ∧ Q (.bl (bs.all id)) H2 := by
            intro D H2 s2 hD
            refine ⟨D, List.replicate xs.length true, rfl, SqL.of (by rw [hD, List.map_replicate]), ?_⟩
            rw [all_true]
            exact q _ (s1.trans s2)
          rcases hxy with ⟨ha, hb⟩ | ⟨ha, hb⟩
          · refine .inl ⟨SqL.of (s1 _ _ ha), SqL.of (s1 _ _ hb), fun D nD => ?_⟩
            refine lc_gen (n := xs.length) (fun i H2 => Same (upd H p (.tup [.ty "list", .ty "tuple"])) H2 ∧ H2 D = some (.lst (List.replicate i (V.bl true)))) ⟨same_upd nD, upd_same⟩ ?_ ?_ ?_ ?_
            · rintro i H2 hi ⟨s2, hD⟩
              exact ⟨xs, ys, _, _, SqL.of (s2 _ _ (s1 _ _ ha)), SqL.of (s2 _ _ (s1 _ _ hb)), List.getElem?_eq_getElem hi, List.getElem?_eq_getElem (by omega)⟩
            · rintro H2 ⟨s2, hD⟩
              exact ⟨xs, ys, SqL.of (s2 _ _ (s1 _ _ ha)), SqL.of (s2 _ _ (s1 _ _ hb)), .inl (Nat.le_refl _)⟩
            · rintro i v H2 H3 hi ⟨s2, hD⟩ ⟨T, x, y, rfl, nT, rfl, f1, f2⟩
              refine ⟨T, [x, y], rfl, .inl (.inl upd_same), rfl, x, [y], rfl, y, [], rfl, rfl, rfl, ?_⟩
              refine yes_if ?_
              exact ⟨_, rfl, _, rfl, turn i x y D T H2 nD (f1 xs (SqL.of (s2 _ _ (s1 _ _ ha)))) (f2 ys (SqL.of (s2 _ _ (s1 _ _ hb)))) s2 hD nT⟩
            · rintro H2 ⟨s2, hD⟩
              exact fin D H2 s2 hD
          · refine .inr ⟨SqT.of (s1 _ _ ha), SqT.of (s1 _ _ hb), fun D nD => ?_⟩
            refine lc_gen (n := xs.length) (fun i H2 => Same (upd H p (.tup [.ty "list", .ty "tuple"])) H2 ∧ H2 D = some (.lst (List.replicate i (V.bl true)))) ⟨same_upd nD, upd_same⟩ ?_ ?_ ?_ ?_
            · rintro i H2 hi ⟨s2, hD⟩
              exact ⟨xs, ys, _, _, SqT.of (s2 _ _ (s1 _ _ ha)), SqT.of (s2 _ _ (s1 _ _ hb)), List.getElem?_eq_getElem hi, List.getElem?_eq_getElem (by omega)⟩
            · rintro H2 ⟨s2, hD⟩
              exact ⟨xs, ys, SqT.of (s2 _ _ (s1 _ _ ha)), SqT.of (s2 _ _ (s1 _ _ hb)), .inl (Nat.le_refl _)⟩
            · rintro i v H2 H3 hi ⟨s2, hD⟩ ⟨T, x, y, rfl, nT, rfl, f1, f2⟩
              refine ⟨T, [x, y], rfl, .inl (.inl upd_same), rfl, x, [y], rfl, y, [], rfl, rfl, rfl, ?_⟩
              refine yes_if ?_
              exact ⟨_, rfl, _, rfl, turn i x y D T H2 nD (f1 xs (SqT.of (s2 _ _ (s1 _ _ ha)))) (f2 ys (SqT.of (s2 _ _ (s1 _ _ hb)))) s2 hD nT⟩
            · rintro H2 ⟨s2, hD⟩
              exact fin D H2 s2 hD
end
end Sf
namespace Sf
open PySem PySem.Spec PyProof.Rows L2 TL
section
variable {P : Program} {w : World} {K : PySem.W.Frag} {mg : Str → Option Value} {base : Heap}
/-! ### is_word -/
def isW (x : Str) : Bool := decide (x.length ≤ 60) && (tl x).all sgn
def spIsWord : Sp := fun vs H Q _ => ∃ x : Str, vs = [.str x] ∧ x.length ≤ 100000 ∧ ∀ H', Same H H' → Q (.bl (isW x)) H'
abbrev HasIsWord (P : Program) (w : World) (K : PySem.W.Frag) (mg : Str → Option Value) (base : Heap) : Prop := Has P w K mg base 1 "is_word" ["text"] spIsWord
theorem sc_isword : FnScope ["text", "sign"] ["text"] (defScope s_is_word) := ⟨rfl, rfl, rfl, by decide +kernel, rfl, by decide +kernel, by decide +kernel⟩
theorem dec_signs {c : Nat} : decide (c ∈ (Str.ofString "aAbBcCdDeEfFgGhH").cps.toList) = sgn c := by
  rw [Bool.eq_iff_iff, decide_eq_true_eq]
  exact in_signs
theorem getElem?_of_cps {x : Str} {i c : Nat} (h : x.cps[i]? = some c) : (tl x)[i]? = some c := by
  rw [← h]
  exact Array.getElem?_toList
theorem has_isword (F : FnAt K mg "is_word" s_is_word ["text"]) (B : Blt mg) {t1 t2 : Tok} (mM : mg "MOST_WORD" = some (.int 60 t1)) (mS : mg "SIGNS" = some (.str (Str.ofString "aAbBcCdDeEfFgGhH") t2)) : HasIsWord P w K mg base := F.has fun F => by
  refine F.ok sc_isword (fun vs H Q E h => ?_) (fun cdv A outer s H vs Q E hr h => ?_)
  · obtain ⟨x, rfl, _⟩ := h
    rfl
  · obtain ⟨x, rfl, hlen, q⟩ := h
    have hz : x.cps.size = (tl x).length := len_tl x
    refine ⟨_, pss_one (ps_ret (pe_and (pe_cmpR op_le (pe_callB call_len_str (by rfl) B.len PySem.boot_len (pa_cons (pv 0) pa_nil)) (pe_glob (v := .int 60) (by rfl) mM ⟨_, rfl⟩) (nomark _))
      (pe_one (pe_callB (cr_all rfl) (by rfl) B.all (by decide +kernel) (pa_cons (pe_lc (own := [("sign", 1)]) (g := gName 1) (tt := tYes) (by rfl) sc_isword.nd (pi_str (pv 0))
        (blkOk_by (own := [("sign", 1)]) (N := ["text", "sign"]) (sc := defScope s_is_word) (by decide +kernel)) (fun _ _ _ _ _ => pg_name (i := 1) sc_isword.nd rfl (.inl rfl)) (fun _ _ _ _ _ => pts_nil)
        (fun _ _ _ _ _ => pe_cmpR op_in_sign (pv 1) (pe_glob (v := .str (Str.ofString "aAbBcCdDeEfFgGhH")) (by rfl) mS ⟨_, rfl⟩) rfl)) pa_nil))))), ?_⟩
    refine ⟨_, rfl, x, rfl, line_of hlen, _, 60, rfl, rfl, _, rfl, ite2 (fun e => ?_) (fun e => ?_)⟩
    · refine ⟨_, rfl, x, rfl, fun D nD => ?_⟩
      refine lc_gen (n := x.cps.size) (fun i H2 => Same H H2 ∧ H2 D = some (.lst (((tl x).take i).map fun c => V.bl (sgn c)))) ⟨same_upd nD, upd_same⟩ ?_ ?_ ?_ ?_
      · rintro i H2 hi ⟨s2, hD⟩
        exact hi
      · rintro H2 ⟨s2, hD⟩
        exact Nat.le_refl _
      · rintro i v H2 H3 hi ⟨s2, hD⟩ ⟨rfl, c, hc, rfl⟩
        refine ⟨rfl, yes_if ?_⟩
        refine ⟨_, rfl, c, _, rfl, rfl, _, hD, ?_, fun a o e => ?_, ?_⟩
        · rw [List.length_map, List.length_take]
          exact lineLt_of (Nat.le_trans (Nat.min_le_right _ _) (by rw [← hz]; exact hlen))
        · rw [upd_ne (ne_of_none e nD)]
          exact s2 _ _ e
        · have ed : decide (c ∈ (Str.ofString "aAbBcCdDeEfFgGhH").cps.toList) = sgn c := dec_signs
          rw [upd_same, List.take_add_one, getElem?_of_cps hc, List.map_append, ed]
          rfl
      · rintro H2 ⟨s2, hD⟩
        refine ⟨D, (tl x).map sgn, rfl, SqL.of ?_, ?_⟩
        · rw [hD, List.take_of_length_le (by rw [hz]; exact Nat.le_refl _), List.map_map]
          rfl
        · have h1 := q H2 s2
          have e1 : decide (x.length ≤ 60) = true := decide_eq_true (by have := of_decide_eq_true e; omega)
          have e2 : ((tl x).map sgn).all id = (tl x).all sgn := by
            rw [List.all_map]
            rfl
          rw [e2]
          unfold isW at h1
          rw [e1, Bool.true_and] at h1
          exact h1
    · have h1 := q H (.refl H)
      have e1 : decide (x.length ≤ 60) = false := decide_eq_false (fun z => e (decide_eq_true (by omega)))
      unfold isW at h1
      rw [e1, Bool.false_and] at h1
      exact h1
theorem isW_true {x : Str} (h : Wd x) (hl : x.length ≤ 60) : isW x = true := by
  unfold isW
  rw [decide_eq_true hl, Bool.true_and, List.all_eq_true]
  exact h
end
end Sf
namespace Sf
open PySem PySem.Spec PyProof.Rows L2 TL
section
variable {X : Cx}
/-! ### text * int -/
theorem op_mul_str : OpR X (binaryOp .Mult) (fun x y H Q => ∃ (a : Str) (n : Int), x = .str a ∧ y = .int n ∧ 0 ≤ n ∧ n ≤ 1000 ∧ a.length ≤ 1000 ∧ Q (.str (Txt.mul a n)) H) := by
  intro pins s σ H x y v u Q I rx ry h
  obtain ⟨a, n, rfl, rfl, h0, h1, h2, q⟩ := h
  obtain ⟨t, rfl⟩ := rx
  obtain ⟨t', rfl⟩ := ry
  refine PySem.SB.mul ⟨?_, fun hn _ => ?_, fun _ _ => ?_⟩ fun t' k => ⟨.str _, H, I.tok k, ⟨t', rfl⟩, q⟩
  · rw [decide_eq_false (by omega), decide_eq_false (by omega)]
    rfl
  · have h3 : (2 ^ 63 - 1) / n ≥ 9223372036854775807 / 1000 := by
      show (9223372036854775807 : Int) / 1000 ≤ (2 ^ 63 - 1) / n
      have e : (2 ^ 63 - 1 : Int) = 9223372036854775807 := by decide
      rw [e]
      refine (Int.le_ediv_iff_mul_le (by omega)).mpr ?_
      have : (9223372036854775807 : Int) / 1000 * n ≤ (9223372036854775807 : Int) / 1000 * 1000 := Int.mul_le_mul_of_nonneg_left h1 (by decide)
      have e2 : (9223372036854775807 : Int) / 1000 * 1000 ≤ 9223372036854775807 := by decide
      omega
    have e3 : (9223372036854775807 : Int) / 1000 = 9223372036854775 := by decide
    omega
  · refine PyProof.Rows.short24 ?_
    have h5 : n.toNat ≤ 1000 := by omega
    exact Nat.le_trans (Nat.mul_le_mul h2 h5) (by decide)
theorem mul_len {a : Str} {n : Int} (h : 0 ≤ n) : (Txt.mul a n).length = a.length * n.toNat := by
  obtain ⟨m, rfl⟩ : ∃ m : Nat, n = (m : Int) := ⟨n.toNat, by omega⟩
  have h1 := PyProof.Rows.len_mul a (m : Int)
  rw [decide_eq_false (by omega)] at h1
  have e : (if false = true then (0 : Int) else (m : Int)) = (m : Int) := rfl
  rw [e, ← Int.natCast_mul] at h1
  rw [Int.toNat_natCast]
  exact Int.ofNat.inj h1
theorem foldl_app (a : Array Nat) : ∀ (k : Nat) (acc : Array Nat) (c : Nat), c ∈ ((List.replicate k a).foldl (· ++ ·) acc).toList → c ∈ acc.toList ∨ c ∈ a.toList
  | 0, acc, c, h => .inl h
  | k + 1, acc, c, h => by
    rw [List.replicate_succ, List.foldl_cons] at h
    rcases foldl_app a k (acc ++ a) c h with h | h
    · rw [Array.toList_append, List.mem_append] at h
      exact h
    · exact .inr h
theorem mul_mem {a : Str} {n : Int} {c : Nat} (h : c ∈ tl (Txt.mul a n)) : c ∈ tl a := by
  unfold Txt.mul at h
  split at h
  · cases h
  · split at h
    · exact h
    · rcases foldl_app a.cps n.toNat #[] c h with h | h
      · cases h
      · exact h
theorem Wd.mul {a : Str} {n : Int} (h : Wd a) : Wd (Txt.mul a n) := fun c hc => h c (mul_mem hc)
theorem tl_cut (z : Str) (lo hi : Option Int) : tl (cutS z lo hi) = ((tl z).drop (HT.sIx z.length 0 lo)).take (HT.sIx z.length z.length hi - HT.sIx z.length 0 lo) := by
  unfold cutS
  rfl
theorem Wd.cut {z : Str} {lo hi : Option Int} (h : Wd z) : Wd (cutS z lo hi) := fun c hc => by
  rw [tl_cut] at hc
  exact h c (List.mem_of_mem_drop (List.mem_of_mem_take hc))
end
end Sf
namespace Sf
open PySem PySem.Spec PyProof.Rows L2 TL
section
variable {X : Cx}
/-! ### text[::-1] -/
def revS (z : Str) : Str := ⟨(tl z).reverse.toArray⟩
theorem tl_revS (z : Str) : tl (revS z) = (tl z).reverse := rfl
theorem rev_picked (z : Str) : ((Builtin.Str.strSliceIndices none none (-1) z.length).filterMap (z.cps[·]?)) = (tl z).reverse := by
  rw [picked_rev]
  apply List.ext_getElem?
  intro i
  have hz : z.length = (tl z).length := len_tl z
  rw [PyProof.Rows.filterMap_get _ _ (fun k hk => by
    obtain ⟨j, hj, rfl⟩ := List.mem_map.mp hk
    have := List.mem_range.mp hj
    show z.length - 1 - j < z.length
    omega), List.map_map]
  by_cases h : i < z.length
  · rw [List.getElem?_reverse (by omega), List.getElem?_map, List.getElem?_range h]
    show some (z.cps.getD (z.length - 1 - i) 0) = _
    have h2 : z.length - 1 - i < z.cps.size := by show z.length - 1 - i < z.length; omega
    rw [← hz, Array.getElem?_toList]
    simp [Array.getD, h2]
  · rw [List.getElem?_eq_none (by rw [List.length_map, List.length_range]; omega), List.getElem?_eq_none (by rw [List.length_reverse, ← hz]; omega)]
def tRevS (te : TE) : TE := fun σ H Q => te σ H fun x H1 => ∃ z, x = .str z ∧ z.length ≤ sizeLine ∧ Q (.str (revS z)) H1
theorem pe_revS {e : Expr} {te : TE} {k : Nat} {p1 p2 p3 pos : Pos} (he : PE X e te) : PE X (.Subscript e (.Slice none none (some (.UnaryOp .USub (.Constant (.int 1) k p1) p2)) p3) pos) (tRevS te) := by
  refine ⟨fun pins s σ H Q I h => ?_⟩
  refine Subscript_ (thn (he.run pins s σ H _ I h) fun v s1 ⟨x, H1, I1, r1, q1⟩ => ?_)
  obtain ⟨z, ex, hz, q⟩ := q1
  subst ex
  obtain ⟨tz, rfl⟩ := r1
  have hst : PO X (some (.UnaryOp .USub (.Constant (.int 1) k p1) p2)) (tPart (tUn (rU fun i => .int (-i)) (tC (.int 1)))) := po_some (pe_un un_neg pe_int)
  refine wpAny_Slice (thn (po_none.run pins s1 σ H1 (fun o H2 => o = none ∧ H2 = H1) I1 ⟨rfl, rfl⟩) fun vl s2 ⟨l, H2, I2, pl, el, e2⟩ => ?_)
  subst el e2
  refine thn (po_none.run pins s2 σ H2 (fun o H3 => o = none ∧ H3 = H2) I2 ⟨rfl, rfl⟩) fun vu s3 ⟨u, H3, I3, pu, eu, e3⟩ => ?_
  subst eu e3
  refine thn (hst.run pins s3 σ H3 (fun o H4 => o = some (-1) ∧ H4 = H3) I3 ⟨1, rfl, -1, rfl, rfl, rfl⟩) fun vs s4 ⟨o, H4, I4, ps, eo, e4⟩ => ?_
  subst eo e4
  cases pl
  cases pu
  cases ps with
  | int _ ts =>
  have I5 : Inv X pins σ H4 { s4 with heap := s4.heap.push { cls := .type "slice", data := .fields #[.none, .none, .int (-1) ts] } } := I4.kept (t' := s4.toks) fun b ob q => Heap.get?_push_of_some _ q
  show wpAny (model X.prog X.w) X.A (subscriptTail e (.Slice none none (some (.UnaryOp .USub (.Constant (.int 1) k p1) p2)) p3) (.str z tz) (.ref s4.heap.objs.size)) (EP X pins σ Q) X.xe { s4 with heap := s4.heap.push { cls := .type "slice", data := .fields #[.none, .none, .int (-1) ts] } }
  refine tail_any (ops := [.str z tz, .ref s4.heap.objs.size]) (typeIs_str _ _ _) (PySem.F.slot_str_getitem.lookup) ?_ (by with_unfolding_all rfl)
  refine wpAny_getItem_str_slice (l := none) (u := none) (st := some (-1, ts)) ⟨_, Heap.get?_push_size _ rfl, rfl, rfl⟩ rfl ?_
  have e1 : sliceMade z tz none none (some (-1, ts)) = Made.str (revS z) := by
    unfold sliceMade slicePicked
    have h1 : ¬ (((((some ((-1 : Int), ts)).map (·.1)).getD 1 == 1) && ((Builtin.Str.strSliceIndices ((none : Option (Int × Tok)).map (·.1)) ((none : Option (Int × Tok)).map (·.1)) (((some ((-1 : Int), ts)).map (·.1)).getD 1) z.length).length == z.length)) = true) := by
      have : ((((some ((-1 : Int), ts)).map (·.1)).getD 1 == 1)) = false := rfl
      rw [this]
      simp
    rw [if_neg h1]
    show Made.str ⟨((Builtin.Str.strSliceIndices none none (-1) z.length).filterMap (z.cps[·]?)).toArray⟩ = _
    rw [rev_picked]
    rfl
  rw [e1]
  refine ⟨?_, .str _, H4, I5.tok _, ⟨_, rfl⟩, q⟩
  rw [len_tl, tl_revS, List.length_reverse, ← len_tl]
  exact hz
/-! ### text.swapcase() -/
theorem mt_swapcase : MtR X "str.swapcase" (fun x xs H Q => ∃ a, x = .str a ∧ xs = [] ∧ a.length ≤ 5592405 ∧ Q (.str (Txt.swapcase a)) H) :=
  mt0 (C := fun a => a.length ≤ 5592405) (g := fun a => .str (Txt.swapcase a)) fun a _ s _ hc h =>
    PySem.SC.swapcase (PyProof.Rows.fit_swapcase hc) (h _ (s.toks + 1) ⟨_, rfl⟩)
theorem pe_swapcase {o : Expr} {to : TE} {apos pos : Pos} (ho : PE X o to) (hbase : attributeBase o "swapcase" X.env (eval o X.env) = eval o X.env := by rfl) (hline : (apos.endLine == pos.line) = true := by rfl) :
    PE X (.Call (.Attribute o "swapcase" apos) [] [] pos) (tM0 (fun x xs H Q => ∃ a, x = .str a ∧ xs = [] ∧ a.length ≤ 5592405 ∧ Q (.str (Txt.swapcase a)) H) to) :=
  pe_m0 PySem.F.slot_str_swapcase PySem.F.type_str_swapcase mt_swapcase ho hbase hline
theorem case_sgn : ∀ c, c < 128 → sgn c = true → (if Unicode.isUpper c then PyProof.Rows.lo1 c else if Unicode.isLower c then PyProof.Rows.up1 c else c) = flipC c := by decide +kernel
theorem sgn_lt {c : Nat} (h : sgn c = true) : c < 128 := by
  rw [sgn_iff] at h
  omega
def flipS (x : Str) : Str := ⟨((tl x).map flipC).toArray⟩
theorem swap_wd {x : Str} (h : Wd x) : Txt.swapcase x = flipS x := by
  unfold Txt.swapcase
  rw [PyProof.Rows.placed_single x _ flipC fun i c hc => by
    have hc' : x.cps[i]? = some c := by simpa using hc
    have hs := h c (List.mem_of_getElem? hc)
    have hlt := sgn_lt hs
    have hk := case_sgn c hlt hs
    unfold Unicode.lowerAt
    rw [hc']
    have hne : (c == 0x3A3) = false := by rw [beq_eq_false_iff_ne]; omega
    simp only [hne, Bool.false_and, Bool.false_eq_true, if_false]
    rw [PyProof.Rows.lowerOf_ascii c hlt, PyProof.Rows.upperOf_ascii c hlt, ← hk]
    by_cases h1 : Unicode.isUpper c = true
    · rw [if_pos h1, if_pos h1]
    · rw [if_neg h1, if_neg h1]
      by_cases h2 : Unicode.isLower c = true
      · rw [if_pos h2, if_pos h2]
      · rw [if_neg h2, if_neg h2]]
  apply ext_tl
  show (x.cps.map flipC).toList = (tl x).map flipC
  rw [Array.toList_map]
theorem flipS_one (c : Nat) : flipS (one c) = one (flipC c) := rfl
theorem tl_flipS (x : Str) : tl (flipS x) = (tl x).map flipC := rfl
theorem rev_wd {x : Str} (h : Wd x) : Wd (revS x) := fun c hc => h c (List.mem_reverse.mp hc)
theorem revS_len (x : Str) : (revS x).length = x.length := by rw [len_tl, tl_revS, List.length_reverse, ← len_tl]
end
end Sf
namespace Sf
open PySem PySem.Spec PyProof.Rows L2 TL
/-! ### words as lists of codes; the stack of a walk (its head is the last sign) -/
abbrev Sg (l : List Nat) : Prop := ∀ c ∈ l, sgn c = true
theorem flip2 {c : Nat} (h : sgn c = true) : flipC (flipC c) = c := by
  rw [sgn_iff] at h
  unfold flipC
  by_cases h1 : 97 ≤ c
  · rw [if_pos h1, if_neg (by omega)]
    omega
  · rw [if_neg h1, if_pos (by omega)]
    omega
theorem flip_inj {c d : Nat} (hc : sgn c = true) (hd : sgn d = true) (h : flipC c = flipC d) : c = d := by
  rw [← flip2 hc, ← flip2 hd, h]
def pushS (s : List Nat) (c : Nat) : List Nat :=
  match s with
  | [] => [c]
  | x :: t => if x = flipC c then t else c :: x :: t
def RedS : List Nat → Prop
  | [] => True
  | [_] => True
  | x :: y :: t => y ≠ flipC x ∧ RedS (y :: t)
theorem RedS.tail {x : Nat} {t : List Nat} (h : RedS (x :: t)) : RedS t := by
  cases t with
  | nil => trivial
  | cons y t => exact h.2
theorem RedS.suffix : ∀ {a b : List Nat}, RedS (a ++ b) → RedS b
  | [], _, h => h
  | _ :: a, _, h => RedS.suffix (a := a) (RedS.tail h)
theorem pushS_red {s : List Nat} {c : Nat} (h : RedS s) : RedS (pushS s c) := by
  cases s with
  | nil => trivial
  | cons x t =>
    unfold pushS
    by_cases e : x = flipC c
    · simp only [if_pos e]
      exact h.tail
    · simp only [if_neg e]
      exact ⟨e, h⟩
theorem pushS_sg {s : List Nat} {c : Nat} (h : Sg s) (hc : sgn c = true) : Sg (pushS s c) := by
  cases s with
  | nil =>
    intro d hd
    rw [pushS, List.mem_singleton] at hd
    rw [hd]
    exact hc
  | cons x t =>
    unfold pushS
    by_cases e : x = flipC c
    · simp only [if_pos e]
      exact fun d hd => h d (List.mem_cons_of_mem _ hd)
    · simp only [if_neg e]
      intro d hd
      rcases List.mem_cons.mp hd with rfl | hd
      · exact hc
      · exact h d hd
theorem pushS_inv {s : List Nat} {c : Nat} (h : RedS s) (hs : Sg s) (hc : sgn c = true) : pushS (pushS s c) (flipC c) = s := by
  cases s with
  | nil =>
    show (if c = flipC (flipC c) then [] else _) = ([] : List Nat)
    rw [if_pos (flip2 hc).symm]
  | cons x t =>
    by_cases e : x = flipC c
    · have e1 : pushS (x :: t) c = t := by simp only [pushS, if_pos e]
      rw [e1, e]
      cases t with
      | nil => rfl
      | cons y t =>
        have hn : ¬ y = flipC (flipC c) := by
          rw [← e]
          exact h.1
        simp only [pushS, if_neg hn]
    · have e1 : pushS (x :: t) c = c :: x :: t := by simp only [pushS, if_neg e]
      rw [e1]
      simp only [pushS, if_pos (flip2 hc).symm]
def runS (s w : List Nat) : List Nat := w.foldl pushS s
theorem runS_cons (s : List Nat) (c : Nat) (w : List Nat) : runS s (c :: w) = runS (pushS s c) w := rfl
theorem runS_app (s u v : List Nat) : runS s (u ++ v) = runS (runS s u) v := List.foldl_append
theorem runS_red : ∀ {w s : List Nat}, RedS s → RedS (runS s w)
  | [], _, h => h
  | _ :: w, _, h => runS_red (w := w) (pushS_red h)
theorem runS_sg : ∀ {w s : List Nat}, Sg s → Sg w → Sg (runS s w)
  | [], _, h, _ => h
  | c :: w, _, h, hw => runS_sg (w := w) (pushS_sg h (hw c (List.mem_cons_self ..))) (fun d hd => hw d (List.mem_cons_of_mem _ hd))
def backL (w : List Nat) : List Nat := (w.map flipC).reverse
theorem backL_cons (c : Nat) (w : List Nat) : backL (c :: w) = backL w ++ [flipC c] := by
  unfold backL
  rw [List.map_cons, List.reverse_cons]
theorem backL_app (u v : List Nat) : backL (u ++ v) = backL v ++ backL u := by
  unfold backL
  rw [List.map_append, List.reverse_append]
theorem backL_sg {w : List Nat} (h : Sg w) : Sg (backL w) := fun c hc => by
  unfold backL at hc
  rw [List.mem_reverse, List.mem_map] at hc
  obtain ⟨d, hd, rfl⟩ := hc
  exact flip_sgn (h d hd)
theorem backL_back {w : List Nat} (h : Sg w) : backL (backL w) = w := by
  unfold backL
  rw [List.map_reverse, List.reverse_reverse, List.map_map]
  have e : w.map (flipC ∘ flipC) = w.map id := List.map_congr_left fun c hc => flip2 (h c hc)
  rw [e, List.map_id]
theorem run_back : ∀ {w s : List Nat}, RedS s → Sg s → Sg w → runS (runS s w) (backL w) = s
  | [], _, _, _, _ => rfl
  | c :: w, s, h, hs, hw => by
    have hc := hw c (List.mem_cons_self ..)
    rw [runS_cons, backL_cons, runS_app, run_back (w := w) (pushS_red h) (pushS_sg hs hc) (fun d hd => hw d (List.mem_cons_of_mem _ hd))]
    exact pushS_inv h hs hc
theorem pushS_of {s : List Nat} {c : Nat} (h : RedS (c :: s)) : pushS s c = c :: s := by
  cases s with
  | nil => rfl
  | cons x t => simp only [pushS, if_neg h.1]
theorem run_of_red : ∀ {w s : List Nat}, RedS (w.reverse ++ s) → runS s w = w.reverse ++ s
  | [], _, _ => rfl
  | c :: w, s, h => by
    rw [List.reverse_cons, List.append_assoc] at h ⊢
    rw [runS_cons, pushS_of (s := s) (RedS.suffix (b := c :: s) h)]
    exact run_of_red h
/-- a word reduced, as a list from its first sign -/
def shortL (w : List Nat) : List Nat := (runS [] w).reverse
theorem shortL_sg {w : List Nat} (h : Sg w) : Sg (shortL w) := fun c hc => runS_sg (s := []) (fun _ z => by cases z) h c (List.mem_reverse.mp hc)
def push (l : List Nat) (c : Nat) : List Nat := (pushS l.reverse c).reverse
theorem shortL_snoc (w : List Nat) (c : Nat) : shortL (w ++ [c]) = push (shortL w) c := by
  unfold shortL push
  rw [runS_app, List.reverse_reverse]
  rfl
theorem push_last {l : List Nat} {c : Nat} (x : Nat) : push (l ++ [x]) c = if x = flipC c then l else l ++ [x] ++ [c] := by
  unfold push
  rw [List.reverse_append]
  show (if x = flipC c then l.reverse else c :: x :: l.reverse).reverse = _
  by_cases e : x = flipC c
  · rw [if_pos e, if_pos e, List.reverse_reverse]
  · rw [if_neg e, if_neg e]
    simp
theorem push_nil (c : Nat) : push [] c = [c] := rfl
/-- two words put together where they meet -/
def glS : List Nat → List Nat → List Nat
  | x :: s, y :: b => if x = flipC y then glS s b else (y :: b).reverse ++ (x :: s)
  | [], b => b.reverse
  | x :: s, [] => x :: s
theorem RedS.join : ∀ {a : List Nat} {y : Nat} {s : List Nat}, RedS (a ++ [y]) → RedS (y :: s) → RedS (a ++ y :: s)
  | [], _, _, _, h => h
  | [x], y, s, h, k => ⟨h.1, k⟩
  | x :: z :: a, y, s, h, k => ⟨h.1, RedS.join (a := z :: a) h.2 k⟩
theorem glS_run : ∀ {b s : List Nat}, RedS b.reverse → RedS s → glS s b = runS s b
  | [], [], _, _ => rfl
  | [], _ :: _, _, _ => rfl
  | y :: b, [], h, _ => by
    have e := run_of_red (w := y :: b) (s := []) (by rw [List.append_nil]; exact h)
    rw [List.append_nil] at e
    exact e.symm
  | y :: b, x :: s, h, k => by
    rw [List.reverse_cons] at h
    by_cases e : x = flipC y
    · have e1 : pushS (x :: s) y = s := by simp only [pushS, if_pos e]
      rw [glS, if_pos e, runS_cons, e1]
      refine glS_run ?_ k.tail
      exact RedS.prefix h
    · have e1 : pushS (x :: s) y = y :: x :: s := by simp only [pushS, if_neg e]
      rw [glS, if_neg e, runS_cons, e1, List.reverse_cons, List.append_assoc]
      exact (run_of_red (RedS.join h (show RedS (y :: x :: s) from ⟨e, k⟩))).symm
where
  RedS.prefix : ∀ {a b : List Nat}, RedS (a ++ b) → RedS a
  | [], _, _ => trivial
  | [_], _, _ => trivial
  | _ :: y :: a, _, h => ⟨h.1, RedS.prefix (a := y :: a) h.2⟩
end Sf
namespace Sf
open PySem PySem.Spec PyProof.Rows L2 TL
/-! ### texts of words -/
def mkS (l : List Nat) : Str := ⟨l.toArray⟩
theorem tl_mkS (l : List Nat) : tl (mkS l) = l := rfl
theorem mkS_tl (x : Str) : mkS (tl x) = x := mk_tl x
theorem mkS_len (l : List Nat) : (mkS l).length = l.length := by rw [len_tl, tl_mkS]
theorem eq_mkS {x : Str} {l : List Nat} (h : tl x = l) : x = mkS l := ext_tl h
/-- a word undone, reduced, glued, as texts -/
def backT (x : Str) : Str := mkS (backL (tl x))
def shortT (x : Str) : Str := mkS (shortL (tl x))
def gluT (x y : Str) : Str := mkS (glS (tl x).reverse (tl y)).reverse
theorem glS_sg : ∀ {s b : List Nat}, Sg s → Sg b → Sg (glS s b)
  | x :: s, y :: b, hs, hb => by
    unfold glS
    by_cases e : x = flipC y
    · rw [if_pos e]
      exact glS_sg (fun c hc => hs c (List.mem_cons_of_mem _ hc)) (fun c hc => hb c (List.mem_cons_of_mem _ hc))
    · rw [if_neg e]
      intro c hc
      rcases List.mem_append.mp hc with hc | hc
      · exact hb c (List.mem_reverse.mp hc)
      · exact hs c hc
  | [], b, _, hb => fun c hc => hb c (List.mem_reverse.mp (by unfold glS at hc; exact hc))
  | x :: s, [], hs, _ => hs
theorem glS_len : ∀ {s b : List Nat}, (glS s b).length ≤ s.length + b.length
  | x :: s, y :: b => by
    unfold glS
    by_cases e : x = flipC y
    · rw [if_pos e]
      have := glS_len (s := s) (b := b)
      simp only [List.length_cons]
      omega
    · rw [if_neg e]
      simp only [List.length_append, List.length_reverse, List.length_cons]
      omega
  | [], b => by
    unfold glS
    simp
  | x :: s, [] => by
    unfold glS
    simp
theorem gluT_wd {x y : Str} (hx : Wd x) (hy : Wd y) : Wd (gluT x y) := fun c hc => by
  unfold gluT at hc
  rw [tl_mkS, List.mem_reverse] at hc
  exact glS_sg (fun d hd => hx d (List.mem_reverse.mp hd)) hy c hc
theorem gluT_len (x y : Str) : (gluT x y).length ≤ x.length + y.length := by
  unfold gluT
  rw [mkS_len, List.length_reverse, len_tl, len_tl]
  have := glS_len (s := (tl x).reverse) (b := tl y)
  rw [List.length_reverse] at this
  exact this
theorem backT_wd {x : Str} (h : Wd x) : Wd (backT x) := fun c hc => backL_sg h c hc
theorem backT_len (x : Str) : (backT x).length = x.length := by
  unfold backT backL
  rw [mkS_len, List.length_reverse, List.length_map, len_tl]
theorem backT_back {x : Str} (h : Wd x) : backT (backT x) = x := by
  unfold backT
  rw [tl_mkS, backL_back h, mkS_tl]
theorem runS_len : ∀ (w s : List Nat), (runS s w).length ≤ s.length + w.length
  | [], s => by simp [runS]
  | c :: w, s => by
    have h := runS_len w (pushS s c)
    rw [runS_cons]
    have h2 : (pushS s c).length ≤ s.length + 1 := by
      cases s with
      | nil => simp [pushS]
      | cons x t =>
        unfold pushS
        by_cases e : x = flipC c
        · simp only [if_pos e, List.length_cons]
          omega
        · simp only [if_neg e, List.length_cons]
          omega
    simp only [List.length_cons]
    omega
theorem shortL_len (w : List Nat) : (shortL w).length ≤ w.length := by
  unfold shortL
  rw [List.length_reverse]
  have := runS_len w []
  simpa using this
theorem glu_one {l : List Nat} {c : Nat} : (glS l.reverse [c]).reverse = push l c := by
  unfold push
  cases h : l.reverse with
  | nil => rfl
  | cons x t =>
    unfold glS pushS
    by_cases e : x = flipC c
    · simp only [if_pos e]
      cases t <;> rfl
    · simp only [if_neg e]
      rfl
end Sf
namespace Sf
open PySem PySem.Spec PyProof.Rows L2 TL
section
variable {P : Program} {w : World} {K : PySem.W.Frag} {mg : Str → Option Value} {base : Heap}
/-! ### need_word, turned, undone -/
def spNeed : Sp := fun vs H Q _ => ∃ x : Str, vs = [.str x] ∧ Wd x ∧ x.length ≤ 60 ∧ ∀ H', Same H H' → Q .non H'
abbrev HasNeed (P : Program) (w : World) (K : PySem.W.Frag) (mg : Str → Option Value) (base : Heap) : Prop := Has P w K mg base 2 "need_word" ["text"] spNeed
theorem sc_need : FnScope ["text"] ["text"] (defScope s_need_word) := ⟨rfl, rfl, rfl, by decide +kernel, rfl, by decide +kernel, by decide +kernel⟩
theorem has_need (F : FnAt K mg "need_word" s_need_word ["text"]) (hI : HasIsWord P w K mg base) : HasNeed P w K mg base := F.has fun F => by
  obtain ⟨fI, fdI, gI, kI, bI, GI⟩ := hI
  refine F.ok sc_need (fun vs H Q E h => ?_) (fun cdv A outer s H vs Q E hr h => ?_)
  · obtain ⟨x, rfl, _⟩ := h
    rfl
  · obtain ⟨x, rfl, hx, hl, q⟩ := h
    refine ⟨_, pss_one (ps_if (pt_not (pt_val (pe_call GI hr (by rfl) gI kI bI .nil pass0 (pa_cons (pv 0) pa_nil)))) pss_never pss_nil), ?_⟩
    refine ⟨_, rfl, x, rfl, by omega, fun H' s' => ⟨_, rfl, ?_⟩⟩
    rw [isW_true hx hl]
    exact iteF (q H' s')
end
end Sf
namespace Sf
open PySem PySem.Spec PyProof.Rows L2 TL
section
variable {P : Program} {w : World} {K : PySem.W.Frag} {mg : Str → Option Value} {base : Heap}
/-! ### glued, shortened, reduced -/
def spGlued : Sp := fun vs H Q _ => ∃ x y : Str, vs = [.str x, .str y] ∧ Wd x ∧ Wd y ∧ x.length + y.length ≤ 100000 ∧ Q (.str (gluT x y)) H
abbrev HasGlued (P : Program) (w : World) (K : PySem.W.Frag) (mg : Str → Option Value) (base : Heap) : Prop := Has P w K mg base 1 "glued" ["one", "other"] spGlued
theorem sc_glued : FnScope ["one", "other", "most", "gone"] ["one", "other"] (defScope s_glued) := ⟨rfl, rfl, rfl, by decide +kernel, rfl, by decide +kernel, by decide +kernel⟩
theorem at_neg {l : List Nat} {g : Nat} (h : g < l.length) : atI l (-1 - (g : Int)) = some (l.reverse[g]'(by rw [List.length_reverse]; exact h)) := by
  unfold atI ixN
  rw [if_neg (by omega), if_pos (by omega)]
  have e : ((-1 - (g : Int)) + (l.length : Nat)).toNat = l.length - 1 - g := by omega
  rw [e, Option.bind_some, List.getElem_reverse, List.getElem?_eq_getElem]
theorem glu_step {a b : List Nat} {g : Nat} (h1 : g < a.length) (h2 : g < b.length) (e : a[g] = flipC b[g]) : glS (a.drop g) (b.drop g) = glS (a.drop (g + 1)) (b.drop (g + 1)) := by
  rw [List.drop_eq_getElem_cons h1, List.drop_eq_getElem_cons h2, glS, if_pos e]
theorem glu_stop {a b : List Nat} {g : Nat} (h : g = min a.length b.length ∨ ∃ (h1 : g < a.length) (h2 : g < b.length), a[g] ≠ flipC b[g]) : glS (a.drop g) (b.drop g) = (b.drop g).reverse ++ a.drop g := by
  rcases h with h | ⟨h1, h2, e⟩
  · rcases Nat.le_total a.length b.length with hl | hl
    · rw [List.drop_eq_nil_of_le (as := a) (by omega), glS, List.append_nil]
    · rw [List.drop_eq_nil_of_le (as := b) (by omega)]
      cases a.drop g <;> rfl
  · rw [List.drop_eq_getElem_cons h1, List.drop_eq_getElem_cons h2, glS, if_neg e]
theorem cut_to {x : Str} {n : Int} (h0 : 0 ≤ n) (h1 : n ≤ x.length) : tl (cutS x none (some n)) = (tl x).take n.toNat := by
  rw [tl_cut]
  obtain ⟨m, rfl⟩ : ∃ m : Nat, n = (m : Int) := ⟨n.toNat, by omega⟩
  rw [HT.sIx_none, HT.sIx_nat, List.drop_zero, Int.toNat_natCast, Nat.sub_zero, Nat.min_eq_left (by omega)]
theorem cut_from {x : Str} {n : Int} (h0 : 0 ≤ n) (h1 : n ≤ x.length) : tl (cutS x (some n) none) = (tl x).drop n.toNat := by
  rw [tl_cut]
  obtain ⟨m, rfl⟩ : ∃ m : Nat, n = (m : Int) := ⟨n.toNat, by omega⟩
  rw [HT.sIx_none, HT.sIx_nat, Int.toNat_natCast, Nat.min_eq_left (by omega)]
  refine List.take_of_length_le ?_
  rw [List.length_drop, ← len_tl]
  exact Nat.le_refl _
theorem has_glued (F : FnAt K mg "glued" s_glued ["one", "other"]) (B : Blt mg) (mmin : mg "min" = none) : HasGlued P w K mg base := F.has fun F => by
  refine F.ok sc_glued (fun vs H Q E h => ?_) (fun cdv A outer s H vs Q E hr h => ?_)
  · obtain ⟨x, y, rfl, _⟩ := h
    rfl
  · obtain ⟨x, y, rfl, hx, hy, hl, q⟩ := h
    have zx := len_tl x
    have zy := len_tl y
    refine ⟨_, pss_cons (ps_set (i := 2) sc_glued.nd rfl (.inl rfl) (pe_callB (call_min2 rfl) (by rfl) mmin (by decide +kernel) (pa_cons (pe_callB call_len_str (by rfl) B.len PySem.boot_len (pa_cons (pv 0) pa_nil)) (pa_cons (pe_callB call_len_str (by rfl) B.len PySem.boot_len (pa_cons (pv 1) pa_nil)) pa_nil))))
      (pss_cons (ps_set (i := 3) sc_glued.nd rfl (.inl rfl) pe_int)
      (pss_cons (ps_while PassesOwn.never (PW.pt (pw_and (pt_cmpR op_lt (pv 3) (pv 2) (nomark _)) (pw_and1 (pt_cmpR op_eq (pe_ix ix_str (pv 0) (pe_op op_sub (pe_un un_neg pe_int) (pv 3)) (fun _ _ => rfl)) (pe_swapcase (pe_ix ix_str (pv 1) (pv 3) (fun _ _ => rfl))) (nomark _)))))
        (pss_one (ps_aug (i := 3) sc_glued.nd rfl (.inl rfl) pe_int ip_add)))
      (pss_one (ps_ret (pe_op op_add_str (pe_slice sl_str (pv 0) po_none (po_some (pe_op op_sub (pe_callB call_len_str (by rfl) B.len PySem.boot_len (pa_cons (pv 0) pa_nil)) (pv 3)))) (pe_slice sl_str (pv 1) (po_some (pv 3)) po_none)))))), ?_⟩
    refine ⟨_, rfl, x, rfl, line_of (by omega), _, rfl, y, rfl, line_of (by omega), _, _, rfl, ?_⟩
    have em : (if (y.length : Int) < (x.length : Int) then (y.length : Int) else (x.length : Int)) = ((min (tl x).reverse.length (tl y).length : Nat) : Int) := by
      rw [List.length_reverse, ← zx, ← zy]
      split <;> omega
    rw [em]
    refine ⟨fun m σ H1 => ∃ g : Nat, σ = [some (.str x), some (.str y), some (.int ((min (tl x).reverse.length (tl y).length : Nat) : Int)), some (.int (g : Int))] ∧ H1 = H ∧ g ≤ min (tl x).reverse.length (tl y).length ∧ glS (tl x).reverse (tl y) = glS ((tl x).reverse.drop g) ((tl y).drop g) ∧ m = min (tl x).reverse.length (tl y).length - g, ⟨_, 0, rfl, rfl, Nat.zero_le _, rfl, rfl⟩, ?_⟩
    · rintro m σ H1 ⟨g, rfl, rfl, hg, eg, rfl⟩
      have fin : (g = min (tl x).reverse.length (tl y).length ∨ ∃ (h1 : g < (tl x).reverse.length) (h2 : g < (tl y).length), (tl x).reverse[g] ≠ flipC (tl y)[g]) → Q (.str (cutS x none (some ((x.length : Int) - (g : Int))) ++ cutS y (some (g : Int)) none)) H1 := by
        intro hstop
        have e : cutS x none (some ((x.length : Int) - (g : Int))) ++ cutS y (some (g : Int)) none = gluT x y := by
          refine eq_mkS ?_
          rw [List.length_reverse, ← zx, ← zy] at hg
          rw [eg, glu_stop hstop, tl_append, cut_to (by omega) (by omega), cut_from (by omega) (by omega), List.reverse_append, List.reverse_reverse, List.reverse_drop, List.reverse_reverse, List.length_reverse, ← zx]
          have e1 : ((x.length : Int) - (g : Int)).toNat = x.length - g := by omega
          rw [e1, Int.toNat_natCast]
        rw [e]
        exact q
      have tail : (g = min (tl x).reverse.length (tl y).length ∨ ∃ (h1 : g < (tl x).reverse.length) (h2 : g < (tl y).length), (tl x).reverse[g] ≠ flipC (tl y)[g]) → ∃ v : V, some (some (V.str x)) = some (some v) ∧ ∃ v2 : V, some (some (V.str x)) = some (some v2) ∧ ∃ z : Str, [v2] = [V.str z] ∧ z.length ≤ sizeLine ∧ ∃ v3 : V, some (some (V.int (g : Int))) = some (some v3) ∧
          ∃ i j : Int, V.int z.length = .int i ∧ v3 = .int j ∧ ∃ k : Int, V.int (i - j) = .int k ∧ ∃ z2 : Str, v = .str z2 ∧ z2.length ≤ sizeLine ∧ ∃ v4 : V, some (some (V.str y)) = some (some v4) ∧ ∃ v5 : V, some (some (V.int (g : Int))) = some (some v5) ∧ ∃ i2 : Int, v5 = .int i2 ∧ ∃ z3 : Str, v4 = .str z3 ∧ z3.length ≤ sizeLine ∧
            ∃ i3 j3 : Str, V.str (cutS z2 none (some k)) = .str i3 ∧ V.str (cutS z3 (some i2) none) = .str j3 ∧ i3.length + j3.length ≤ sizeLine ∧ Q (.str (i3 ++ j3)) H1 := fun hstop =>
        ⟨_, rfl, _, rfl, x, rfl, line_of (by omega), _, rfl, _, _, rfl, rfl, _, rfl, x, rfl, line_of (by omega), _, rfl, _, rfl, _, rfl, y, rfl, line_of (by omega), _, _, rfl, rfl, line_of (Nat.le_trans (Nat.add_le_add (cutS_length x _ _) (cutS_length y _ _)) hl), fin hstop⟩
      refine ⟨_, rfl, _, rfl, (g : Int), _, rfl, rfl, _, rfl, ite2 (fun e => ?_) (fun e => ?_)⟩
      · have hlt : g < min (tl x).reverse.length (tl y).length := by
          have := of_decide_eq_true e
          omega
        have h1 : g < (tl x).reverse.length := by omega
        have h2 : g < (tl y).length := by omega
        have h1' : g < (tl x).length := by
          rw [List.length_reverse] at h1
          exact h1
        have ay : atI (tl y) (g : Int) = some (tl y)[g] := atI_nat (List.getElem?_eq_getElem h2)
        have sy := hy _ (List.getElem_mem h2)
        refine ⟨_, rfl, 1, rfl, _, rfl, -1, (g : Int), rfl, rfl, x, _, _, rfl, rfl, line_of (by omega), at_neg h1', _, rfl, _, rfl, y, _, _, rfl, rfl, line_of (by omega), ay, ⟨_, rfl⟩, _, rfl, rfl, by rw [len_one]; decide, ?_⟩
        rw [swap_wd (wd_one sy), flipS_one]
        refine ⟨rfl, _, rfl, ite2 (fun e2 => ?_) (fun e2 => ?_)⟩
        · have e3 : (tl x).reverse[g] = flipC (tl y)[g] := by
            have := of_decide_eq_true e2
            have h5 := V.str.inj this
            have h6 := congrArg tl h5
            exact List.head_eq_of_cons_eq h6
          refine ⟨fun σ' H' => σ' = [some (.str x), some (.str y), some (.int ((min (tl x).reverse.length (tl y).length : Nat) : Int)), some (.int ((g : Int) + 1))] ∧ H' = H1, fun σ' H' hN => ?_, ?_⟩
          · obtain ⟨rfl, rfl⟩ := hN
            exact ⟨min (tl x).reverse.length (tl y).length - (g + 1), by omega, g + 1, rfl, rfl, by omega, by rw [eg, glu_step h1 h2 e3], rfl⟩
          · exact ⟨_, rfl, _, _, rfl, rfl, rfl, rfl⟩
        · exact tail (.inr ⟨h1, h2, fun z => e2 (decide_eq_true (by rw [z]))⟩)
      · have hge : g = min (tl x).reverse.length (tl y).length := by
          have : ¬ ((g : Int) < ((min (tl x).reverse.length (tl y).length : Nat) : Int)) := fun z => e (decide_eq_true z)
          omega
        exact iteF (tail (.inl hge))
end
end Sf
namespace Sf
open PySem PySem.Spec PyProof.Rows L2 TL
section
variable {P : Program} {w : World} {K : PySem.W.Frag} {mg : Str → Option Value} {base : Heap}
def spTurned : Sp := fun vs H Q _ => ∃ x : Str, vs = [.str x] ∧ Wd x ∧ x.length ≤ 100000 ∧ Q (.str (backT x)) H
abbrev HasTurned (P : Program) (w : World) (K : PySem.W.Frag) (mg : Str → Option Value) (base : Heap) : Prop := Has P w K mg base 1 "turned" ["word"] spTurned
theorem sc_turned : FnScope ["word"] ["word"] (defScope s_turned) := ⟨rfl, rfl, rfl, by decide +kernel, rfl, by decide +kernel, by decide +kernel⟩
theorem has_turned (F : FnAt K mg "turned" s_turned ["word"]) : HasTurned P w K mg base := F.has fun F => by
  refine F.ok sc_turned (fun vs H Q E h => ?_) (fun cdv A outer s H vs Q E hr h => ?_)
  · obtain ⟨x, rfl, _⟩ := h
    rfl
  · obtain ⟨x, rfl, hx, hl, q⟩ := h
    refine ⟨_, pss_one (ps_ret (pe_swapcase (pe_revS (pv 0)))), ?_⟩
    refine ⟨_, rfl, x, rfl, line_of hl, ⟨_, rfl⟩, _, rfl, rfl, by rw [revS_len]; omega, ?_⟩
    have e : Txt.swapcase (revS x) = backT x := by
      rw [swap_wd (rev_wd hx)]
      refine eq_mkS ?_
      rw [tl_flipS, tl_revS, List.map_reverse]
      rfl
    rw [e]
    exact q
end
end Sf
namespace Sf
open PySem PySem.Spec PyProof.Rows L2 TL
/-! ### str.maketrans(a text, a text) -/
theorem find_mk (K : PySem.W.Frag) : PySem.W.findCls K (.type "str") (.type "type") (PySem.Str.ofString "maketrans") = some (.val (.builtin "str.maketrans")) := by first | rfl | kernel_rfl
theorem entry_mk : entryFor table "str.maketrans" = some Builtin.«str.maketrans» := entryFor_of_tree (by kernel_rfl)
theorem plain_mk : plainId "str.maketrans" = true := by decide +kernel
theorem check_mk {u v : Value} : checkBuiltinCall "str.maketrans" ⟨[u, v], []⟩ = pure () := by first | kernel_rfl | rfl
section
variable {prog : Program} {w : World} {A : Around} {E : Value → Shared → Prop} {s : Shared} {K : PySem.W.Frag}
theorem mk_get {pl : Sem Bool} {Q : Value × List Value → Shared → Prop} (X : K.In s.heap) (h : ∀ k, Q (.builtin "str.maketrans", []) { s with toks := k }) : wpAny (model prog w) A (getMethod (.type "str") (PySem.Str.ofString "maketrans") pl) Q E s := by
  have hstub : opaqueClassAbove (.type "str") = pure none := by unfold opaqueClassAbove; dsimp only; rw [show Manifest.isStub "str" = false by decide +kernel]; rfl
  have ht : typeOf (.type "str") = pure (.type "type") := by first | rfl | kernel_rfl
  have L0 : PySem.W.Looks (model prog w) s.heap (typeOf (.type "str")) (.type "type") := PySem.W.Looks.of_pure ht
  have hg : PySem.W.findIn K (.type "type") "__getattribute__" = some (some (.builtin "type.__getattribute__")) := PySem.W.type_tga
  unfold getMethod specialOf
  refine wpAny_bind (wpAny_bind (L0.here ((PySem.W.looks_findIn X hg).here ?_)))
  dsimp only
  rw [if_pos PySem.W.canon_tga]
  refine wpAny_bind (wpAny_mono (Q := fun v => Q (v, [])) (E := E) ?_ (fun _ _ z => wpAny_pure z) fun _ _ z => z)
  have LO : PySem.W.Looks (model prog w) s.heap (opaqueClassAbove (.type "str")) none := PySem.W.Looks.of_pure hstub
  refine PySem.W.cls_open X LO L0 hg (PySem.W.looks_hook X (r := none) (by rfl)) (by show PySem.W.subIn K _ _ = _; rfl) (find_mk K) ?_
  show wpAny _ _ (ret (.builtin "str.maketrans")) _ _ _
  exact wpAny_pure (wpAny_pure (h _))
end
def sgnL : List Nat := [97, 65, 98, 66, 99, 67, 100, 68, 101, 69, 102, 70, 103, 71, 104, 72]
def lowL : List Nat := [97, 98, 99, 100, 101, 102, 103, 104, 105, 106, 107, 108, 109, 110, 111, 112]
theorem tl_low : (Str.ofString "abcdefghijklmnop").cps.toList = lowL := by decide +kernel
theorem tl_sgnL : (Str.ofString "aAbBcCdDeEfFgGhH").cps.toList = sgnL := tl_signs
def putAll (ps : List (Nat × Nat)) : List (Key × V) := ps.foldl (fun kvs p => putK kvs (Sum.inl (p.1 : Int)) (.int (p.2 : Int))) []
def tabK : List (Key × V) := (sgnL.zip lowL).map fun p => (Sum.inl (p.1 : Int), .int (p.2 : Int))
theorem tab_put : putAll (sgnL.zip lowL) = tabK := by decide +kernel
theorem putAll_snoc (ps : List (Nat × Nat)) (p : Nat × Nat) : putAll (ps ++ [p]) = putK (putAll ps) (Sum.inl (p.1 : Int)) (.int (p.2 : Int)) := by
  unfold putAll
  rw [List.foldl_append]
  rfl
theorem putAll_len : ∀ ps : List (Nat × Nat), (putAll ps).length ≤ ps.length := by
  intro ps
  unfold putAll
  suffices h : ∀ (ps : List (Nat × Nat)) (kvs : List (Key × V)), (ps.foldl (fun kvs p => putK kvs (Sum.inl (p.1 : Int)) (.int (p.2 : Int))) kvs).length ≤ kvs.length + ps.length by
    have := h ps []
    simpa using this
  intro ps
  induction ps with
  | nil => intro kvs; simp
  | cons p ps ih =>
    intro kvs
    rw [List.foldl_cons]
    have h1 := ih (putK kvs (Sum.inl (p.1 : Int)) (.int (p.2 : Int)))
    have h2 := length_putK kvs (Sum.inl (p.1 : Int)) (V.int (p.2 : Int))
    simp only [List.length_cons]
    omega
section
variable {X : Cx}
theorem dictSetA {A : Around} {pins : List (Addr × Obj)} {σ : L2.St} {H : Hp} {s : Shared} {E : Value → Shared → Prop} {D : Addr} {kvs : List (Key × V)} {k : Key} {v : V} {u r : Value} {Q : Unit → Shared → Prop} (I : Inv X pins σ H s) (hD : H D = some (.dK kvs)) (hz : kvs.length < sizeLine)
    (ry : RelV (kV k) u) (rv : RelV v r) (h : ∀ s', Inv X pins σ (upd H D (.dK (putK kvs k v))) s' → Q () s') : wpAny (model X.prog X.w) A (dictSet D u r) Q E s := by
  obtain ⟨z, hd, vs, rel, dd⟩ := dk_of I.hok hD
  have hzv : vs.length ≤ sizeLine := by rw [← rel.length]; exact z
  have hl : (putK kvs k v).length ≤ sizeLine := by have := length_putK kvs k v; omega
  refine wpAny_dictSet_pairs (hsz := hzv) (kV_is ry) dd fun h' dd' hs => h _ ?_
  have he : ∃ q, h'.get? D = some q := let ⟨q, _, _, hq, _⟩ := dd'; ⟨q, hq⟩
  exact d_write I (by rw [hD]; exact True.intro) hs he (dk_new hl hd (rel.put k rv) dd')
set_option maxHeartbeats 4000000 in
theorem mk_run {A : Around} {pins : List (Addr × Obj)} {σ : L2.St} {H : Hp} {s : Shared} {E : Value → Shared → Prop} {t u : Tok} {Q : Value → Shared → Prop} (I : Inv X pins σ H s)
    (h : ∀ s', Inv X pins σ (upd H s.heap.objs.size (.dK tabK)) s' → Q (.ref s.heap.objs.size) s') : wpAny (model X.prog X.w) A (call (.builtin "str.maketrans") [.str (Str.ofString "aAbBcCdDeEfFgGhH") t, .str (Str.ofString "abcdefghijklmnop") u]) Q E s := by
  refine wpAny_call (codeAny_call_builtin plain_mk entry_mk (wpAny_of_eq check_mk ?_))
  unfold Builtin.«str.maketrans»
  refine wpAny_bind (wpAny_of_eq (a := ()) rfl ?_)
  refine wpAny_bind (wpAny_of_eq (a := ()) rfl ?_)
  refine wpAny_bind (wpAny_of_eq (a := some (Str.ofString "abcdefghijklmnop")) rfl ?_)
  refine wpAny_bind (wpAny_of_eq (a := none) rfl ?_)
  refine wpAny_bind ?_
  show wpAny _ _ (newObj (.type "dict") (.dict #[])) _ _ _
  refine wpAny_newObj_type ?_
  dsimp only
  with_reducible refine wpAny_bind ?_
  with_reducible refine wpAny_holding ?_
  with_reducible refine wpAny_bind ?_
  refine wpAny_of_eq (a := some (Str.ofString "aAbBcCdDeEfFgGhH")) rfl ?_
  dsimp only
  rw [if_neg (by decide +kernel)]
  have I1 : Inv X pins σ (upd H s.heap.objs.size (.dK [])) { s with heap := s.heap.push { cls := .type "dict", data := .dict #[] } } := I.laid (a := s.heap.objs.size) (o := .dK []) (t' := s.toks) (fun _ _ q => Heap.get?_push_of_some _ q) (Nat.le_refl _) (dk_empty s.heap I.big)
  rw [tl_sgnL, tl_low]
  generalize hL : sgnL.zip lowL = L
  with_reducible refine wpAny_bind ?_
  refine wpAny_forIn_list _ (fun rest _ s' => ∃ past, L = past ++ rest ∧ Inv X pins σ (upd H s.heap.objs.size (.dK (putAll past))) s') _ (fun p rest b s' hI => ?_) (fun b s' hI => ?_) _ _ ⟨[], rfl, I1⟩
  · obtain ⟨past, e, I2⟩ := hI
    obtain ⟨pa, pb⟩ := p
    with_reducible refine wpAny_bind ?_
    with_reducible refine wpAny_mkInt ?_
    with_reducible refine wpAny_bind ?_
    with_reducible refine wpAny_mkInt ?_
    with_reducible refine wpAny_bind ?_
    have hlen : past.length < 17 := by
      have h1 := congrArg List.length e
      rw [List.length_append] at h1
      have h2 : (sgnL.zip lowL).length = 16 := by decide
      rw [hL] at h2
      omega
    have hz : (putAll past).length < sizeLine := Nat.lt_of_le_of_lt (putAll_len past) (Nat.lt_trans hlen (by decide))
    refine dictSetA (D := s.heap.objs.size) (kvs := putAll past) (k := Sum.inl (pa : Int)) (v := .int (pb : Int)) ((I2.tok (s'.toks + 1)).tok (s'.toks + 1 + 1)) upd_same hz ⟨_, rfl⟩ ⟨_, rfl⟩ fun s2 I3 => ?_
    rw [upd_upd, ← putAll_snoc past (pa, pb)] at I3
    exact wpAny_pure ⟨past ++ [(pa, pb)], by rw [e, List.append_assoc]; rfl, I3⟩
  · obtain ⟨past, e, I2⟩ := hI
    rw [List.append_nil] at e
    rw [← e, ← hL, tab_put] at I2
    with_reducible refine wpAny_bind ?_
    refine wpAny_of_eq (a := PUnit.unit) (by rfl) ?_
    with_reducible refine wpAny_pure ?_
    exact wpAny_pure (h _ I2)
def tMk (to : TE) (t : TA) : TE := fun σ H Q => to σ H fun x H1 => x = .ty "str" ∧ t σ H1 fun vs H2 => vs = [.str (Str.ofString "aAbBcCdDeEfFgGhH"), .str (Str.ofString "abcdefghijklmnop")] ∧ ∀ p, H2 p = none → Q (.ref p) (upd H2 p (.dK tabK))
theorem pe_maketrans {o e : Expr} {es : List Expr} {to : TE} {t : TA} {apos pos : Pos} {pl : Sem Bool} (ho : PE X o to) (ha : PA X (e :: es) t) (hst : starEach (e :: es) X.env = (false, eval e X.env) :: starEach es X.env := by rfl) (hpl : (backTo pos (starEach es X.env)).any (·.1) = false := by rfl)
    (ht : eval (.Call (.Attribute o "maketrans" apos) (e :: es) [] pos) X.env = (do
      let ov ← eval o X.env
      standAt apos.atName
      let (f, first) ← holding [ov] (getMethod ov "maketrans" pl)
      callWith pos f first (backTo pos (starEach (e :: es) X.env)) (backToKw pos (keywordEach [] X.env))) := by rfl) :
    PE X (.Call (.Attribute o "maketrans" apos) (e :: es) [] pos) (tMk to t) := by
  refine ⟨fun pins s σ H Q I h => ?_⟩
  refine PySem.W.methodCall_KW (pl := pl) (thn (ho.run pins s σ H _ I h) fun v s1 ⟨x, H1, I1, rx, ex, q⟩ => ?_) ht
  subst ex
  obtain rfl : v = Value.type "str" := rx
  refine mk_get I1.kIn fun k => ?_
  show wpAny _ _ (callWith pos (.builtin "str.maketrans") [] (backTo pos (starEach (e :: es) X.env)) []) _ _ _
  refine PyProof.Rows.callWith_builtin1 (thn (ha.run pos pins _ σ H1 _ (I1.tok k) q) fun us s2 ⟨vs, H2, I2, rv, hu, hr⟩ => ?_) hst hpl
  subst hu
  obtain ⟨u1, u2, rfl, ru1, ru2⟩ := rv.two
  obtain ⟨t1, rfl⟩ := ru1
  obtain ⟨t2, rfl⟩ := ru2
  exact mk_run I2 fun s' I' => ⟨.ref _, _, I', rfl, hr _ (I2.hok.fresh (Nat.le_refl _))⟩
end
end Sf
namespace Sf
open PySem PySem.Spec PyProof.Rows L2 TL
open PySem.Builtin PySem.Builtin.Str
/-! ### text.translate(table), every sign in the table -/
def rkC (c : Nat) : Nat := if 97 ≤ c then 97 + 2 * (c - 97) else 98 + 2 * (c - 65)
theorem rkC_lt : ∀ c, c < 128 → sgn c = true → rkC c < 128 ∧ valV tabK (Sum.inl (c : Int)) = some (.int (rkC c : Int)) := by decide +kernel
def GivesR (f : Key → Option Value) : Prop := ∀ c : Nat, sgn c = true → ∃ t, f (Sum.inl (c : Int)) = some (.int (rkC c : Int) t)
section
variable {prog : Program} {w : World} {A : Around} {E : Value → Shared → Prop} {s : Shared} {d : Addr} {c : Nat}
theorem look_r {f : Key → Option Value} {Q : Mapped → Shared → Prop} (hm : s.heap.MapOf (mixKind prog w) d f) (hk : GivesR f) (hc : sgn c = true) (h : ∀ k, Q (.char (rkC c)) { s with toks := k }) : wpAny (model prog w) A (tableLookup (.ref d) c) Q E s := by
  unfold tableLookup
  with_reducible refine wpAny_bind ?_
  with_reducible refine wpAny_attempt ?_
  with_reducible refine wpAny_bind ?_
  with_reducible refine wpAny_mkInt ?_
  obtain ⟨t, hf⟩ := hk c hc
  refine wpAny_getItem_of (knd := mixKind prog w) (k := Sum.inl (c : Int)) (mixKind_int prog w _ _) hm hf ?_
  show wpAny _ _ (do let o ← asInt? (Value.int (rkC c : Int) t); _) _ _ _
  with_reducible refine wpAny_bind ?_
  refine wpAny_of_eq (a := some (rkC c : Int)) rfl ?_
  have hr := (rkC_lt c (sgn_lt hc) hc).1
  show wpAny _ _ (if (decide ((rkC c : Int) < 0) || decide ((rkC c : Int) > 0x10FFFF)) = true then _ else pure (Mapped.char (rkC c : Int).toNat)) _ _ _
  rw [if_neg (by rw [decide_eq_false (by omega), decide_eq_false (by omega)]; decide)]
  exact wpAny_pure (h _)
end
theorem pieces_r : ∀ (l : List Nat) (acc : Array Nat), List.foldl (fun acc (p : Str) => acc ++ p.cps) acc (l.map fun c => one (rkC c)) = acc ++ (l.map rkC).toArray
  | [], acc => by
    show acc = acc ++ #[]
    rw [Array.append_empty]
  | c :: l, acc => by
    rw [List.map_cons, List.foldl_cons, pieces_r l]
    apply Array.toList_inj.mp
    simp
theorem lookup_r {c c' : Nat} {a b : Option Nat} {known : List (Nat × Option Nat)} (h : List.lookup c' ((c, a) :: known) = some b) : (c' = c ∧ b = a) ∨ List.lookup c' known = some b := by
  rw [List.lookup_cons] at h
  by_cases e : c' = c
  · rw [e, beq_self_eq_true] at h
    exact .inl ⟨e, (Option.some.inj h).symm⟩
  · have e2 : (c' == c) = false := beq_eq_false_iff_ne.mpr e
    rw [e2] at h
    exact .inr h
def TrR (x : List Nat) (s : Shared) (rest : List Nat) (st : List Str × Nat × Bool × List (Nat × Option Nat) × Bool) (s' : Shared) : Prop :=
  ∃ (past : List Nat) (pieces : List Str) (known : List (Nat × Option Nat)) (k : Nat), x = past ++ rest ∧ st = (pieces, past.length, true, known, false) ∧ pieces.reverse = past.map (fun c => one (rkC c)) ∧
    (∀ c a, List.lookup c known = some a → a = some (rkC c)) ∧ s' = { s with toks := k }
theorem TrR.next {x : List Nat} {s : Shared} {rest past : List Nat} {c : Nat} {pieces : List Str} {known : List (Nat × Option Nat)} {k : Nat} (h1 : x = past ++ c :: rest)
    (h3 : pieces.reverse = past.map (fun c => one (rkC c))) (h4 : ∀ c a, List.lookup c known = some a → a = some (rkC c)) :
    TrR x s rest (one (rkC c) :: pieces, past.length + 1, true, known, false) { s with toks := k } := by
  refine ⟨past ++ [c], one (rkC c) :: pieces, known, k, ?_, ?_, ?_, h4, rfl⟩
  · rw [h1, List.append_assoc] <;> rfl
  · rw [List.length_append] <;> rfl
  · rw [List.reverse_cons, h3, List.map_append] <;> rfl
set_option maxHeartbeats 2000000 in
theorem meets_r {prog : Program} {w : World} (x : Str) (t : Tok) (d : Addr) (hx : Wd x) (hz : x.length ≤ 1000000) : MeetsIn prog w («str.translate» ⟨[.str x t, .ref d], []⟩) (fun _ R s =>
    (∃ f, s.heap.MapOf (mixKind prog w) d f ∧ GivesR f) ∧ ∀ (v : Value) (k : Nat), (∃ t', v = .str (mkS ((tl x).map rkC)) t') → R (.ok (.ret v)) { s with toks := k }) := by
  refine .of_wp fun A R s h => ?_
  obtain ⟨⟨f, hm, hk⟩, h⟩ := h
  show wpAny _ _ (if (x.length == 0) = true then (do rule "str.translate.empty"; ret (.str x t)) else (do
    let st ← forIn x.cps (([], 0, x.cps.all fun y => decide (y < 128), [], false) : List Str × Nat × Bool × List (Nat × Option Nat) × Bool) _
    _)) _ _ s
  by_cases h0 : (x.length == 0) = true
  · rw [if_pos h0]
    have hx0 : tl x = [] := by
      rw [beq_iff_eq] at h0
      exact (len0_tl x).mp h0
    have e : mkS ((tl x).map rkC) = x := by
      rw [hx0]
      exact (eq_mkS hx0).symm
    exact wpAny_bind (wpAny_rule (wpAny_pure ⟨_, rfl, h _ s.toks ⟨t, by rw [e]⟩⟩))
  · rw [if_neg h0]
    have hf : (x.cps.all fun y => decide (y < 128)) = true := by
      rw [← Array.all_toList, List.all_eq_true]
      exact fun c hc => decide_eq_true (sgn_lt (hx c hc))
    rw [hf]
    refine wpAny_bind (MeetsSeq2.wpAny_forIn_array _ (TrR (tl x) s) _ (fun c rest st s' hI => ?turn) (fun st s' hI => ?fin) x.cps ([], 0, true, [], false) ?h0)
    case h0 =>
      refine ⟨[], [], [], s.toks, rfl, rfl, rfl, fun c a z => ?_, rfl⟩
      rw [List.lookup_nil] at z
      cases z
    case turn =>
      obtain ⟨past, pieces, known, k, e1, e2, e3, e4, e5⟩ := hI
      subst e2
      subst e5
      have hzl := len_tl x
      have hpl : past.length ≤ 1000000 := by
        have q := congrArg List.length e1
        rw [List.length_append] at q
        omega
      have hc : sgn c = true := hx c (by rw [e1]; simp)
      show wpAny _ _ (if tooLong past.length = true then _ else (if true = true then _ else _)) _ _ _
      rw [show tooLong past.length = false from PyProof.Rows.short24 (by omega), if_neg Bool.false_ne_true, if_pos rfl]
      cases hl : List.lookup c known with
      | some a =>
        have ha := e4 c a hl
        subst ha
        refine wpAny_bind (wpAny_pure ?_)
        exact wpAny_pure (TrR.next e1 e3 e4)
      | none =>
        refine wpAny_bind (look_r (s := { s with toks := k }) hm hk hc fun k2 => ?_)
        have hr := (rkC_lt c (sgn_lt hc) hc).1
        dsimp only
        rw [if_pos hr]
        refine wpAny_bind (wpAny_pure ?_)
        refine wpAny_pure ?_
        refine TrR.next (s := s) (k := k2) (known := (c, some (rkC c)) :: known) e1 e3 fun c' a z => ?_
        rcases lookup_r z with ⟨q1, q2⟩ | q
        · rw [q2, q1]
        · exact e4 c' a q
    case fin =>
      obtain ⟨past, pieces, known, k, e1, e2, e3, e4, e5⟩ := hI
      subst e2
      subst e5
      have ex : tl x = past := by rw [e1, List.append_nil]
      have hzl := len_tl x
      show wpAny _ _ (if tooLong past.length = true then _ else retStr { cps := List.foldl (fun acc (p : Str) => acc ++ p.cps) #[] pieces.reverse }) _ _ _
      rw [show tooLong past.length = false from PyProof.Rows.short24 (by rw [← ex]; omega), if_neg Bool.false_ne_true, e3, pieces_r, ← ex]
      have ev : (⟨#[] ++ ((tl x).map rkC).toArray⟩ : Str) = mkS ((tl x).map rkC) := by
        rw [Array.empty_append] <;> rfl
      rw [ev]
      exact wpAny_bind (wpAny_mkStr (wpAny_pure ⟨_, rfl, h _ _ ⟨_, rfl⟩⟩) (by rw [mkS_len, List.length_map, ← hzl, sizeLine_eq]; omega))
def rankS (x : Str) : Str := mkS ((tl x).map rkC)
section
variable {X : Cx}
theorem mt_rank : MtR X "str.translate" (fun x xs H Q => ∃ (a : Str) (d : Addr), x = .str a ∧ xs = [.ref d] ∧ H d = some (.dK tabK) ∧ Wd a ∧ a.length ≤ 1000000 ∧ Q (.str (rankS a)) H) := by
  intro pins s σ H x xs v us Q I rx rs h
  obtain ⟨a, d, rfl, rfl, hd, hw, hz, h⟩ := h
  obtain ⟨t, rfl⟩ := rx
  cases rs with
  | cons r1 rs =>
    cases rs
    cases r1
    obtain ⟨z, hds, vs, rel, dd⟩ := dk_of I.hok hd
    have hg : GivesR (valueAt vs) := fun c hc => by
      have h1 := rel.val (Sum.inl (c : Int))
      rw [(rkC_lt c (sgn_lt hc) hc).2] at h1
      obtain ⟨u, e1, t, e2⟩ := RelO.some_of h1
      exact ⟨t, by rw [e1, e2]⟩
    refine call_meetsIn F.slot_str_translate (typeIs_str _ _ _) F.entry_str_translate (F.args_str_translate_2 _ _) (meets_r a t d hw hz) ⟨⟨_, dd.mapOf, hg⟩, ?_⟩
    intro v k ⟨t', e⟩
    subst e
    exact ⟨.str _, H, I.tok k, ⟨t', rfl⟩, h⟩
end
section
variable {P : Program} {w : World} {K : PySem.W.Frag} {mg : Str → Option Value} {base : Heap}
/-! ### rank -/
def spRank : Sp := fun vs H Q _ => ∃ x : Str, vs = [.str x] ∧ Wd x ∧ x.length ≤ 1000000 ∧ ∀ (p : Addr) (H' : Hp), H p = none → Same H H' → H' p = some (.tup [.int (x.length : Int), .str (rankS x)]) → Q (.ref p) H'
abbrev HasRank (P : Program) (w : World) (K : PySem.W.Frag) (mg : Str → Option Value) (base : Heap) : Prop := Has P w K mg base 1 "rank" ["word"] spRank
theorem sc_rank : FnScope ["word"] ["word"] (defScope s_rank) := ⟨rfl, rfl, rfl, by decide +kernel, rfl, by decide +kernel, by decide +kernel⟩
theorem has_rank (F : FnAt K mg "rank" s_rank ["word"]) (B : Blt mg) : HasRank P w K mg base := F.has fun F => by
  refine F.ok sc_rank (fun vs H Q E h => ?_) (fun cdv A outer s H vs Q E hr h => ?_)
  · obtain ⟨x, rfl, _⟩ := h
    rfl
  · obtain ⟨x, rfl, hx, hl, q⟩ := h
    have hsz : x.length ≤ sizeLine := Nat.le_trans hl (by decide)
    refine ⟨_, pss_one (ps_ret (pe_tup (pa_cons (pe_callB call_len_str (by rfl) B.len PySem.boot_len (pa_cons (pv 0) pa_nil)) (pa_cons (pe_m1 PySem.F.slot_str_translate PySem.F.type_str_translate mt_rank (pv 0) (pe_maketrans (pe_bltn (v := .ty "str") (by rfl) B.str (by decide +kernel) rfl) (pa_cons pe_str (pa_cons pe_str pa_nil)))) pa_nil)))), ?_⟩
    refine ⟨_, rfl, x, rfl, hsz, _, rfl, ⟨_, rfl⟩, rfl, rfl, fun d nd => ⟨x, d, rfl, rfl, upd_same, hx, hl, (by show 2 ≤ sizeLine; decide), fun p np => ?_⟩⟩
    exact q p _ ((same_upd nd).free np) ((same_upd nd).trans (same_upd np)) upd_same
end
end Sf
namespace Sf
open PySem PySem.Spec PyProof.Rows L2 TL
section
variable {X : Cx}
/-! ### < of data -/
theorem op_ltD (hu : X.A.units + 64 < cLine) : OpR X (compareOp .Lt) (fun x y H Q => ∃ d e, Dp X.K H x d ∧ Dp X.K H y e ∧ PySem.W.alike d e = true ∧ d ≠ .none ∧ d.depth ≤ 60 ∧ Q (.bl (PySem.W.dataLt d e)) H) := by
  intro pins s σ H x y v u Q I rx ry h
  obtain ⟨d, e, hd, he, ha, hn, hdp, q⟩ := h
  obtain ⟨as, r1⟩ := Dp.reads I d x v hd rx
  obtain ⟨bs, r2⟩ := Dp.reads I e y u he ry
  exact PySem.W.rcLt_alike d e _ _ v u as bs r1 r2 ha hn (by omega) _ _ _ _ ⟨.bl _, H, I, rfl, q⟩
end
/-! ### how words rise -/
def lexI : List Int → List Int → Bool
  | [], [] => false
  | [], _ :: _ => true
  | _ :: _, [] => false
  | x :: r, y :: t => decide (x < y) || (!decide (y < x) && lexI r t)
def idxC (c : Nat) : Int := (rkC c : Int) - 97
def wlt (x y : Str) : Bool := decide ((x.length : Int) < (y.length : Int)) || (!decide ((y.length : Int) < (x.length : Int)) && lexI ((tl x).map idxC) ((tl y).map idxC))
theorem idx_lt (x y : Nat) : idxC x < idxC y ↔ rkC x < rkC y := by
  unfold idxC
  omega
theorem lex_rk : ∀ l m : List Nat, decide (l.map rkC < m.map rkC) = lexI (l.map idxC) (m.map idxC)
  | [], [] => by decide
  | [], y :: m => by simp [lexI]
  | x :: l, [] => by simp [lexI]
  | x :: l, y :: m => by
    have ih := lex_rk l m
    simp only [List.map_cons, lexI, ← ih]
    rw [Bool.eq_iff_iff]
    simp only [decide_eq_true_eq, Bool.or_eq_true, Bool.and_eq_true, Bool.not_eq_true', decide_eq_false_iff_not, List.cons_lt_cons_iff, idx_lt]
    constructor
    · rintro (h | ⟨h1, h2⟩)
      · exact .inl h
      · exact .inr ⟨by omega, h2⟩
    · rintro (h | ⟨h1, h2⟩)
      · exact .inl h
      · by_cases h3 : rkC x < rkC y
        · exact .inl h3
        · exact .inr ⟨by omega, h2⟩
open PySem.W in
theorem lt_tup (n m : Int) (r q : Str) : dataLt (.tuple [.int n, .str r]) (.tuple [.int m, .str q]) = (decide (n < m) || (!decide (m < n) && decide (tl r < tl q))) := by
  unfold dataLt
  simp only [keyToks, keyToksAll, List.cons_append, List.nil_append]
  rw [lex_cons, lex_cons, lex_cons, lex_cons, lex_cons]
  simp [itemLt, PyProof.Rows.strKind, PyProof.Rows.lexLt]
open PySem.W in
theorem lex_toks : ∀ is js : List Int, PyProof.Rows.lexLt itemOrd (keyToksAll (is.map .int) ++ [.inl 0]) (keyToksAll (js.map .int) ++ [.inl 0]) = lexI is js
  | [], [] => by decide
  | [], j :: js => by simp [keyToksAll, keyToks, PyProof.Rows.lexLt, itemLt, lexI]
  | i :: is, [] => by simp [keyToksAll, keyToks, PyProof.Rows.lexLt, itemLt, lexI]
  | i :: is, j :: js => by
    have ih := lex_toks is js
    simp only [List.map_cons, keyToksAll, keyToks, List.cons_append, List.nil_append, lexI]
    rw [lex_cons, lex_cons, ih]
    simp [itemLt]
open PySem.W in
theorem lt_lst (n m : Int) (is js : List Int) : dataLt (.list [.int n, .list (is.map .int)]) (.list [.int m, .list (js.map .int)]) = (decide (n < m) || (!decide (m < n) && lexI is js)) := by
  unfold dataLt
  simp only [keyToks, keyToksAll, List.cons_append, List.nil_append]
  rw [lex_cons, lex_cons, lex_cons, lex_toks]
  simp [itemLt]
theorem rank_lt (x y : Str) : PySem.W.dataLt (.tuple [.int (x.length : Int), .str (rankS x)]) (.tuple [.int (y.length : Int), .str (rankS y)]) = wlt x y := by
  rw [lt_tup]
  unfold wlt rankS
  rw [tl_mkS, tl_mkS, lex_rk]
theorem find_one : ∀ c, c < 128 → sgn c = true → Txt.find (Str.ofString "aAbBcCdDeEfFgGhH") (one c) = idxC c := by decide +kernel
open PySem.W in
theorem alike_ints : ∀ is js : List Int, alikeAll (is.map .int) (js.map .int) = true
  | [], _ => by simp [alikeAll]
  | _ :: _, [] => by simp [alikeAll]
  | _ :: is, _ :: js => by
    rw [List.map_cons, List.map_cons, alikeAll, alike_ints is js]
    rfl
theorem depth_ints : ∀ is : List Int, PyData.depthAll (is.map .int) = 0
  | [] => rfl
  | _ :: is => by
    rw [List.map_cons, PyData.depthAll, depth_ints is]
    rfl
theorem dp_intsL {K : PySem.W.Frag} {H : Hp} : ∀ l : List Int, DpAll K H (l.map V.int) (l.map .int)
  | [] => .nil
  | _ :: l => .cons (.int _) (dp_intsL l)
section
variable {P : Program} {w : World} {K : PySem.W.Frag} {mg : Str → Option Value} {base : Heap}
/-! ### _law_rank -/
def RkAt (H : Hp) (p : Addr) (x : Str) : Prop := ∃ q : Addr, H p = some (.lst [.int (x.length : Int), .ref q]) ∧ H q = some (.lst (((tl x).map idxC).map V.int))
theorem RkAt.same {H H' : Hp} {p : Addr} {x : Str} (s : Same H H') : RkAt H p x → RkAt H' p x
  | ⟨q, h1, h2⟩ => ⟨q, s _ _ h1, s _ _ h2⟩
/-- .. and both of its lists are new -/
def RkN (H0 H : Hp) (p : Addr) (x : Str) : Prop := ∃ q : Addr, H0 q = none ∧ H p = some (.lst [.int (x.length : Int), .ref q]) ∧ H q = some (.lst (((tl x).map idxC).map V.int))
theorem RkN.at {H0 H : Hp} {p : Addr} {x : Str} : RkN H0 H p x → RkAt H p x
  | ⟨q, _, h1, h2⟩ => ⟨q, h1, h2⟩
def rkD (x : Str) : PyData := .list [.int (x.length : Int), .list (((tl x).map idxC).map .int)]
theorem RkAt.dp {H : Hp} {p : Addr} {x : Str} : RkAt H p x → Dp K H (.ref p) (rkD x)
  | ⟨_, h1, h2⟩ => .lst (SqL.of h1) (.cons (.int _) (.cons (.lst (SqL.of h2) (dp_intsL _)) .nil))
theorem rkD_lt (x y : Str) : PySem.W.dataLt (rkD x) (rkD y) = wlt x y := by
  unfold rkD
  rw [lt_lst]
  rfl
theorem rkD_alike (x y : Str) : PySem.W.alike (rkD x) (rkD y) = true := by
  unfold rkD
  simp only [PySem.W.alike, PySem.W.alikeAll, alike_ints, Bool.and_self]
theorem rkD_depth (x : Str) : (rkD x).depth ≤ 60 := by
  unfold rkD
  simp only [PyData.depth, PyData.depthAll, depth_ints]
  decide
def spRankL : Sp := fun vs H Q _ => ∃ x : Str, vs = [.str x] ∧ Wd x ∧ x.length ≤ 50000 ∧ ∀ (p : Addr) (H' : Hp), H p = none → Same H H' → RkN H H' p x → Q (.ref p) H'
abbrev HasRankL (P : Program) (w : World) (K : PySem.W.Frag) (mg : Str → Option Value) (base : Heap) : Prop := Has P w K mg base 1 "_law_rank" ["_law_word_here"] spRankL
theorem sc_rankL : FnScope ["_law_word_here", "_law_sign_here"] ["_law_word_here"] (defScope s__law_rank) := ⟨rfl, rfl, rfl, by decide +kernel, rfl, by decide +kernel, by decide +kernel⟩
theorem has_rankL (F : FnAt K mg "_law_rank" s__law_rank ["_law_word_here"]) (B : Blt mg) : HasRankL P w K mg base := F.has fun F => by
  refine F.ok sc_rankL (fun vs H Q E h => ?_) (fun cdv A outer s H vs Q E hr h => ?_)
  · obtain ⟨x, rfl, _⟩ := h
    rfl
  · obtain ⟨x, rfl, hx, hl, q⟩ := h
    have hz : x.cps.size = (tl x).length := len_tl x
    have hzl : x.length = (tl x).length := len_tl x
    refine ⟨_, pss_one (ps_ret (pe_lst (pa_cons (pe_callB call_len_str (by rfl) B.len PySem.boot_len (pa_cons (pv 0) pa_nil)) (pa_cons (pe_lc (own := [("_law_sign_here", 1)]) (g := gName 1) (tt := tYes) (by rfl) sc_rankL.nd (pi_str (pv 0))
      (blkOk_by (own := [("_law_sign_here", 1)]) (N := ["_law_word_here", "_law_sign_here"]) (sc := defScope s__law_rank) (by decide +kernel)) (fun _ _ _ _ _ => pg_name (i := 1) sc_rankL.nd rfl (.inl rfl)) (fun _ _ _ _ _ => pts_nil)
      (fun _ _ _ _ _ => pe_m1 PySem.F.slot_str_find PySem.F.type_str_find mt_find pe_str (pv 1))) pa_nil)))), ?_⟩
    refine ⟨_, rfl, x, rfl, line_of (by omega), _, rfl, x, rfl, fun D nD => ?_⟩
    refine lc_gen (n := x.cps.size) (fun i H2 => Same H H2 ∧ H2 D = some (.lst ((((tl x).take i).map idxC).map V.int))) ⟨same_upd nD, upd_same⟩ (fun i H2 hi _ => hi) (fun H2 _ => Nat.le_refl _) ?_ ?_
    · rintro i v H2 H3 hi ⟨s2, hD⟩ ⟨rfl, c, hc, rfl⟩
      have hc' := getElem?_of_cps hc
      have hs := hx c (List.mem_of_getElem? hc')
      refine ⟨rfl, yes_if ?_⟩
      refine ⟨⟨_, rfl⟩, _, rfl, _, _, rfl, rfl, ?_⟩
      rw [find_one c (sgn_lt hs) hs]
      refine ⟨_, hD, ?_, fun a o e => ?_, ?_⟩
      · rw [List.length_map, List.length_map, List.length_take]
        exact lineLt_of (by omega)
      · rw [upd_ne (ne_of_none e nD)]
        exact s2 _ _ e
      · rw [upd_same, List.take_add_one, hc', List.map_append, List.map_append]
        rfl
    · rintro H2 ⟨s2, hD⟩
      rw [List.take_of_length_le (by rw [hz]; exact Nat.le_refl _)] at hD
      refine ⟨(by show 2 ≤ sizeLine; decide), fun p np => ?_⟩
      exact q p _ (s2.free np) (s2.trans (same_upd np)) ⟨D, nD, upd_same, by rw [upd_ne (ne_of_none hD np)]; exact hD⟩
end
end Sf
namespace Sf
open PySem PySem.Spec PyProof.Rows L2 TL
/-! ### {**a, **b} -/
section
variable {prog : Program} {w : World} {A : Around} {E : Value → Shared → Prop} {s : Shared}
theorem put_pairs {d : Addr} {kvs : List (Key × Value)} {k : Key} {key v : Value} {Q : Unit → Shared → Prop} (hkey : (mixKind prog w).is k key = true) (hm : s.heap.DictOf (mixKind prog w) d kvs)
    (hQ : ∀ h', h'.DictOf (mixKind prog w) d (stored kvs k v) → Heap.SameBut d s.heap h' → Q () { s with heap := h' })
    (hsz : kvs.length ≤ sizeLine) : wpAny (model prog w) A (dictPut d ((mixKind prog w).hash k) key v) Q E s := by
  obtain ⟨o, es, ep, ho, hc, hd, hk, hp, hn⟩ := hm
  have hes : es.size ≤ sizeLine := by
    have e1 := hp.length
    have e2 : es.toList.length = es.size := by simp
    omega
  unfold dictPut
  refine wpAny_bind (wpAny_dictFind_of hkey ho hd hk ?_)
  have hidx : (es.findIdx? fun e => (mixKind prog w).is k e.key) = kvs.findIdx? fun kv => decide (kv.1 = k) := by
    rw [← hp.findIdx k]
    obtain ⟨l⟩ := es
    simp
  cases hi : es.findIdx? fun e => (mixKind prog w).is k e.key with
  | some i =>
    refine wpAny_updateDict ho hd (hQ _ ⟨_, _, ep, Heap.get?_update_self _ ho (Obj.isFreed_of_dict (Obj.data_mapDict hd _)), hc.mapDict _, Obj.data_mapDict hd _, hk.modify _ _, ?_, ?_⟩ (Heap.SameBut.update ..))
    · rw [stored, if_pos (any_of_findIdx_some (hidx ▸ hi))]
      have hl : (es.toList.findIdx? fun e => (mixKind prog w).is k e.key) = some i := by
        rw [← hi]
        obtain ⟨l⟩ := es
        simp
      have := hp.modify hn hl v
      obtain ⟨l⟩ := es
      simpa using this
    · rw [stored, if_pos (any_of_findIdx_some (hidx ▸ hi)), keys_map_store]
      exact hn
  | none =>
    have hnot : k ∉ kvs.map (·.1) := not_mem_of_findIdx_none (hidx ▸ hi)
    have hany : ¬ (kvs.any fun kv => decide (kv.1 = k)) = true := by
      rw [List.any_eq_true]
      rintro ⟨kv, hkv, he⟩
      exact hnot (List.mem_map.mpr ⟨kv, hkv, of_decide_eq_true he⟩)
    refine wpAny_updateDictKeys (hz := hes) ho hd (hQ _ ⟨_, _, ep + 1, Heap.get?_update_self _ ho (Obj.isFreed_of_dict (Obj.data_mapDictKeys hd _)), hc.mapDictKeys _, Obj.data_mapDictKeys hd _, hk.push hkey _, ?_, ?_⟩ (Heap.SameBut.update ..))
    · rw [stored, if_neg hany]
      have := hp.append hkey ((mixKind prog w).hash k) v
      obtain ⟨l⟩ := es
      simpa using this
    · rw [stored, if_neg hany, List.map_append, List.nodup_append]
      refine ⟨hn, by simp, ?_⟩
      intro a ha b hb
      simp only [List.map_cons, List.map_nil, List.mem_singleton] at hb
      subst hb
      exact fun e => hnot (e ▸ ha)
theorem merge_pairs {d o : Addr} {kvs more : List (Key × Value)} {Q : Unit → Shared → Prop} (hdo : d ≠ o) (hoS : (o == sysModules) = false) (hd : s.heap.DictOf (mixKind prog w) d kvs) (ho : s.heap.DictOf (mixKind prog w) o more)
    (hQ : ∀ h', h'.DictOf (mixKind prog w) d (merged kvs more) → Heap.SameBut d s.heap h' → Q () { s with heap := h' }) (hsz : kvs.length + more.length ≤ sizeLine) :
    wpAny (model prog w) A (mergeMapping d (.ref o) false) Q E s := by
  obtain ⟨od, esd, epd, hod, hcd, hdd, hkd, hpd, hnd⟩ := id hd
  obtain ⟨oo, eso, epo, hoo, hco, hdo', hko, hpo, hno⟩ := id ho
  have hlen : more.length = eso.size := by rw [← hpo.length]; simp
  unfold mergeMapping
  refine wpAny_bind (wpAny_isInstance ho.typeIs isSubtype_dict_dict ?_)
  simp only [if_true]
  refine wpAny_bind (wpAny_specialOf ho.typeIs PySem.F.slot_dict_iter.lookup ?_)
  refine wpAny_bind (wpAny_pure ?_)
  simp only [beq_self_eq_true]
  rw [if_neg (by rw [hoS]; exact Bool.false_ne_true)]
  refine wpAny_bind (wpAny_dictEntries hod hdd ?_)
  have loop : wpAny (model prog w) A (do
      let l ← dictEntries o
      let epoch ← dictEpoch o
      forIn (List.range l.size) PUnit.unit fun i (_ : PUnit) => (do
          let l' ← dictEntries o
          match l'[i]? with
            | some e => do
              holding [e.key, e.val] (dictPut d e.hash e.key e.val)
              let ep' ← dictEpoch o
              if (ep' != epoch) = true then do
                  (unsupported "dict.changed-during-merge" : Sem PUnit)
                  pure (ForInStep.yield PUnit.unit)
                else pure (ForInStep.yield PUnit.unit)
            | _ => do
              (unsupported "dict.changed-during-merge" : Sem PUnit)
              pure (ForInStep.yield PUnit.unit) : Sem (ForInStep PUnit))
      pure ()) Q E s := by
    refine wpAny_bind (wpAny_dictEntries hoo hdo' ?_)
    refine wpAny_bind (wpAny_dictEpoch hoo hdo' ?_)
    refine wpAny_bind ?_
    rw [List.range_eq_range']
    refine wpAny_forIn_list _
      (fun rest _ s' => ∃ h' i, s' = { s with heap := h' } ∧ rest = List.range' i (eso.size - i) ∧ i ≤ eso.size ∧ h'.DictOf (mixKind prog w) d (merged kvs (more.take i)) ∧ h'.get? o = some oo ∧ Heap.SameBut d s.heap h')
      _ ?_ ?_ _ _ ⟨s.heap, 0, rfl, by simp, Nat.zero_le _, by simpa [merged] using hd, hoo, Heap.SameBut.refl _ _⟩
    · rintro x rest b s' ⟨h', i, rfl, hr, hi, hd', hoo', hs'⟩
      have hlt : i < eso.size := by
        rcases Nat.lt_or_ge i eso.size with h | h
        · exact h
        · rw [Nat.sub_eq_zero_of_le h] at hr
          simp at hr
      obtain ⟨rfl, hrest⟩ : x = i ∧ rest = List.range' (i + 1) (eso.size - (i + 1)) := by
        have e : eso.size - i = (eso.size - (i + 1)) + 1 := by omega
        rw [e, List.range'_succ] at hr
        injection hr with h1 h2
        exact ⟨h1, h2⟩
      refine wpAny_bind (wpAny_dictEntries hoo' hdo' ?_)
      rw [Array.getElem?_eq_getElem hlt]
      obtain ⟨kv, hkv⟩ : ∃ kv, more[x]? = some kv := ⟨more[x]'(by rw [hlen]; exact hlt), List.getElem?_eq_getElem _⟩
      obtain ⟨k, v⟩ := kv
      obtain ⟨hkey, hval⟩ := hpo.get? (e := eso[x]) (by simp [hlt]) hkv
      obtain ⟨k', hkey', hhash⟩ := hko eso[x] (Array.getElem_mem hlt)
      obtain rfl : k' = k := (mixKind prog w).inj _ _ _ hkey' hkey
      show wpAny _ _ (holding [eso[x].key, eso[x].val] (dictPut d eso[x].hash eso[x].key eso[x].val) >>= _) _ _ _
      rw [hhash, hval]
      have hmx : (merged kvs (more.take x)).length ≤ sizeLine := by
        have e1 := merged_length_le kvs (more.take x)
        have e2 : (more.take x).length ≤ more.length := by rw [List.length_take]; omega
        omega
      refine wpAny_bind (wpAny_holding (put_pairs (hsz := hmx) hkey hd' fun h'' hd'' hs'' => ?_))
      have hoo'' : h''.get? o = some oo := (hs''.2 o (Ne.symm hdo)).trans hoo'
      refine wpAny_bind (wpAny_dictEpoch hoo'' hdo' ?_)
      rw [if_neg (by simp)]
      exact wpAny_pure ⟨h'', x + 1, rfl, hrest, hlt, by rw [merged_take_succ kvs more x (k', v) hkv]; exact hd'', hoo'', hs'.trans hs''⟩
    · rintro b s' ⟨h', i, rfl, hr, hi, hd', hoo', hs'⟩
      have hin : i = eso.size := by
        rcases Nat.lt_or_ge i eso.size with h | h
        · have e : eso.size - i = (eso.size - (i + 1)) + 1 := by omega
          rw [e, List.range'_succ] at hr
          exact nomatch hr
        · exact Nat.le_antisymm hi h
      refine wpAny_pure (hQ h' ?_ hs')
      rw [hin, ← hlen, List.take_length] at hd'
      exact hd'
  split
  · refine wpAny_bind (wpAny_dictEntries hoo hdo' ?_)
    refine wpAny_bind (MeetsSeq2.wpAny_forIn_array _ (fun rest _ s' => s' = s ∧ ∀ e ∈ rest, e ∈ eso.toList) _ (fun e rest b s' hI => ?_) (fun b s' hI => ?_) _ _ ⟨rfl, fun e he => he⟩)
    · obtain ⟨rfl, hmem⟩ := hI
      obtain ⟨k', hkey', hhash⟩ := hko e (Array.mem_toList_iff.mp (hmem e (List.mem_cons_self ..)))
      have hrest : ∀ e' ∈ rest, e' ∈ eso.toList := fun e' he' => hmem e' (List.mem_cons_of_mem _ he')
      rcases keyIs_shape (show keyIs k' e.key = true from hkey') with ⟨i, t, _, ek⟩ | ⟨x, t, _, ek⟩
      · rw [ek]
        exact wpAny_pure ⟨rfl, hrest⟩
      · rw [ek]
        exact wpAny_pure ⟨rfl, hrest⟩
    · obtain ⟨rfl, _⟩ := hI
      exact loop
  · exact loop
end
section
variable {X : Cx}
theorem stored_put {kvs : List (Key × V)} {vs : List (Key × Value)} (r : KV kvs vs) : ∀ {more : List (Key × V)} {ws : List (Key × Value)}, KV more ws → KV (more.foldl (fun a p => putK a p.1 p.2) kvs) (merged vs ws) := by
  intro more ws h
  induction h generalizing kvs vs with
  | nil => exact r
  | cons p q ih =>
    rename_i a b l m
    obtain ⟨e, rv⟩ := p
    show KV (List.foldl _ (putK kvs a.1 a.2) l) (merged (stored vs b.1 b.2) m)
    rw [← e]
    exact ih (r.put a.1 rv)
def mergeV (a b : List (Key × V)) : List (Key × V) := b.foldl (fun a p => putK a p.1 p.2) a
theorem mergeV_len (a b : List (Key × V)) : (mergeV a b).length ≤ a.length + b.length := by
  unfold mergeV
  induction b generalizing a with
  | nil => simp
  | cons p b ih =>
    rw [List.foldl_cons]
    have h1 := ih (putK a p.1 p.2)
    have h2 := length_putK a p.1 p.2
    simp only [List.length_cons]
    omega
theorem merge_run {A : Around} {E : Value → Shared → Prop} {pins : List (Addr × Obj)} {σ : L2.St} {H : Hp} {s : Shared} {d o : Addr} {kvs more : List (Key × V)} {Q : Unit → Shared → Prop} (I : Inv X pins σ H s) (hdo : d ≠ o) (hd : H d = some (.dK kvs)) (ho : H o = some (.dK more)) (hsz : kvs.length + more.length ≤ sizeLine)
    (h : ∀ s', Inv X pins σ (upd H d (.dK (mergeV kvs more))) s' → Q () s') : wpAny (model X.prog X.w) A (mergeMapping d (.ref o) false) Q E s := by
  obtain ⟨z1, hs1, vs, rel, dd⟩ := dk_of I.hok hd
  obtain ⟨z2, hs2, ws, rel2, dd2⟩ := dk_of I.hok ho
  refine merge_pairs hdo hs2 dd dd2 (fun h' dd' hs => h _ ?_) (by rw [← rel.length, ← rel2.length]; exact hsz)
  have he : ∃ q, h'.get? d = some q := let ⟨q, _, _, hq, _⟩ := dd'; ⟨q, hq⟩
  exact d_write I (by rw [hd]; exact True.intro) hs he (dk_new (Nat.le_trans (mergeV_len _ _) hsz) hs1 (stored_put rel rel2) dd')
/-- {**a, **b}: a new dict first, then a into it, then b -/
def tMerge2 (ta tb : TE) : TE := fun σ H Q => ∀ p, H p = none → ta σ (upd H p (.dK [])) fun x H1 => ∃ (a : Addr) (ka : List (Key × V)), x = .ref a ∧ a ≠ p ∧ H1 a = some (.dK ka) ∧ H1 p = some (.dK []) ∧ ka.length ≤ sizeLine ∧
  tb σ (upd H1 p (.dK (mergeV [] ka))) fun y H2 => ∃ (b : Addr) (kb : List (Key × V)), y = .ref b ∧ b ≠ p ∧ H2 b = some (.dK kb) ∧ H2 p = some (.dK (mergeV [] ka)) ∧ (mergeV [] ka).length + kb.length ≤ sizeLine ∧ Q (.ref p) (upd H2 p (.dK (mergeV (mergeV [] ka) kb)))
theorem pe_merge2 {e1 e2 : Expr} {ta tb : TE} {pos : Pos} (h1 : PE X e1 ta) (h2 : PE X e2 tb) : PE X (.Dict [none, none] [e1, e2] pos) (tMerge2 ta tb) := by
  refine ⟨fun pins s σ H Q I q => ?_⟩
  show wpAny _ _ (do
    standAt pos
    dictDisplay [(none, do let x ← eval e1 X.env; standAt pos; pure x), (none, do let x ← eval e2 X.env; standAt pos; pure x)]) _ _ _
  refine wpAny_bind (wpAny_standAt ?_)
  have hn := I.hok.fresh (Nat.le_refl s.heap.objs.size)
  have I1 := I.laid (a := s.heap.objs.size) (o := .dK []) (h' := s.heap.push { cls := .type "dict", data := .dict #[] }) (t' := s.toks) (fun _ _ q => Heap.get?_push_of_some _ q) (Nat.le_refl _) (dk_empty s.heap I.big)
  have q := q _ hn
  unfold dictDisplay
  simp only [List.forIn_cons, List.forIn_nil, List.isEmpty_nil, if_true]
  refine wpAny_bind ?_
  refine wpAny_bind ?_
  refine wpAny_bind (wpAny_pure ?_)
  dsimp only
  refine wpAny_bind (wpAny_alloc ?_)
  refine wpAny_bind (wpAny_holding (wpAny_bind (thn (h1.run pins _ σ _ _ I1 q) fun v s2 ⟨x, H2, I2, rx, a, ka, ex, hap, ha, hp, hz, q2⟩ => wpAny_bind (wpAny_standAt (wpAny_pure ?_)))))
  subst ex
  cases rx
  refine wpAny_bind (wpAny_onRaise (wpAny_tryCatch (wpAny_onRaise (wpAny_holding (merge_run I2 hap.symm hp ha (by rw [List.length_nil, Nat.zero_add]; exact hz) fun s3 I3 => ?_)))))
  refine wpAny_pure ?_
  dsimp only
  refine wpAny_bind ?_
  simp only [List.isEmpty_nil, if_true]
  refine wpAny_bind (wpAny_pure ?_)
  dsimp only
  refine wpAny_bind (wpAny_pure ?_)
  refine wpAny_bind (wpAny_holding (wpAny_bind (thn (h2.run pins _ σ _ _ I3 q2) fun v s4 ⟨y, H4, I4, ry, b, kb, ey, hbp, hb, hp4, hz4, q4⟩ => wpAny_bind (wpAny_standAt (wpAny_pure ?_)))))
  subst ey
  cases ry
  refine wpAny_bind (wpAny_onRaise (wpAny_tryCatch (wpAny_onRaise (wpAny_holding (merge_run I4 hbp.symm hp4 hb hz4 fun s5 I5 => ?_)))))
  refine wpAny_pure ?_
  dsimp only
  refine wpAny_pure ?_
  simp only [List.isEmpty_nil, if_true]
  refine wpAny_bind (wpAny_pure ?_)
  exact wpAny_pure ⟨.ref _, _, I5, rfl, q4⟩
end
end Sf
namespace Sf
open PySem PySem.Spec PyProof.Rows L2 TL
/-! ### ==, != and len of an own class -/
section
variable {X : Cx} {k : Nat} {f C : Addr} {fd : FuncData} {ps : List Str} {sp : Sp}
theorem run_fnA {A : Around} {Er : Value → Shared → Prop} {pins : List (Addr × Obj)} {σ : L2.St} {H : Hp} {s : Shared} {Q : VK} {us : List Value} {vs : List V} (F : FnOk X.prog X.w X.K X.mg X.base CX0 k f fd ps sp) (hr : Room k A) (e0 : Env0 X.prog X.w X.K X.mg X.base A X.stack s H) (hb : Binds X.K fd ps [])
    (I : Inv X pins σ H s) (r : Vals vs us) (h : sp vs H Q E0) : wpAny (model X.prog X.w) A (call (.ref f) us) (EP X pins σ Q) Er s := by
  have hl : (us ++ []).length = ps.length := by rw [List.append_nil, ← r.length]; exact F.len _ _ _ _ h
  have hbd := hb s us I.kIn hl
  rw [List.append_nil] at hbd
  refine wpAny_call (codeAny_mono (F.run A X.stack s H ⟨us, []⟩ us vs Q E0 hr e0 hbd r h) fun r s' hq => ?_)
  cases r with
  | error e => exact False.elim hq
  | ok fl =>
    cases fl with
    | ret u => exact I.after hq
    | next => exact False.elim hq
    | brk => exact False.elim hq
    | cont => exact False.elim hq
/-- a == b, both of the class at C, by its __eq__ -/
theorem op_eqOwn (F : FnOk X.prog X.w X.K X.mg X.base CX0 k f fd ps sp) (hs : PySem.W.findIn X.K (.ref C) "__eq__" = some (some (.ref f))) (hf : PySem.W.isFn X.K (.ref f) = true) (hb : Binds X.K fd ps []) (hr : Room k X.A) :
    OpR X (compareOp .Eq) (fun x y H Q => ∃ a b dx dy fs gs, x = .ref a ∧ y = .ref b ∧ H a = some (.ins C dx fs) ∧ H b = some (.ins C dy gs) ∧ sp [.ref a, .ref b] H (fun v H' => ∃ t, v = .bl t ∧ Q (.bl t) H') E0) := by
  intro pins s σ H x y v u Q I rx ry h
  obtain ⟨a, b, dx, dy, fs, gs, rfl, rfl, ha, hb', h⟩ := h
  cases rx
  cases ry
  obtain ⟨mA, J, _⟩ := ins_get I.hok ha
  obtain ⟨mB, J', _⟩ := ins_get I.hok hb'
  obtain ⟨od, J, _⟩ := J.look
  obtain ⟨od', J', _⟩ := J'.look
  obtain ⟨m, hF⟩ := I.fr
  refine PySem.W.cmp_K (op := .Eq) (tb := .ref C) hr.units0 hF I.ok.mod.kin J J'.type (by simp [PySem.W.notFirst]) hs hf ?_
  refine wpAny_mono (run_fnA (Er := X.xe) F hr I.env0 hb I (show Vals [V.ref a, V.ref b] [Value.ref a, Value.ref b] from .cons rfl (.cons rfl .nil)) h) (fun v s' hv => ?_) fun _ _ z => z
  obtain ⟨z, H', I', rz, t, rfl, q⟩ := hv
  cases rz
  exact ⟨.bl t, H', I', rfl, q⟩
theorem ifBound_ne {M : Model} {A : Around} {E : Value → Shared → Prop} {s : Shared} {K : PySem.W.Frag} {x : Addr} {ox : Obj} {od : Option Obj} {args : List Value} {Q : Option Value → Shared → Prop} (X : K.In s.heap) (I : PySem.W.InstAt s.heap x ox C od) (hs : PySem.W.findIn K (.ref C) "__ne__" = some (some (.builtin "object.__ne__")))
    (h : wpAny M A (call (.builtin "object.__ne__") (.ref x :: args)) (fun v => Q (some v)) E s) : wpAny M A (callSpecialIfBound? (.ref x) "__ne__" args) Q E s := by
  simp only [callSpecialIfBound?, bindSpecialIfBound?]
  refine wpAny_holding (wpAny_bind (wpAny_bind (wpAny_bind (I.type.here ((PySem.W.looks_findIn X hs).here ?_)))))
  refine wpAny_bind (wpAny_askSetting (wpAny_ite ?_))
  have fin : wpAny M A (call (.builtin "object.__ne__") ([.ref x] ++ args) >>= fun v => pure (some v)) Q E s := wpAny_bind (wpAny_mono h (fun v s' h' => wpAny_pure h') fun _ _ h' => h')
  split
  · exact wpAny_bind (wpAny_of_eq (PySem.F.cmp_object.ne.bind _) (wpAny_pure (by exact fin)))
  · exact wpAny_tryCatch (wpAny_bind (wpAny_of_eq (PySem.F.cmp_object.ne.bind _) (wpAny_pure (by exact fin))))
/-- a != b, both of the class at C, by its __eq__ -/
theorem op_neOwn (F : FnOk X.prog X.w X.K X.mg X.base CX0 k f fd ps sp) (hs : PySem.W.findIn X.K (.ref C) "__eq__" = some (some (.ref f))) (hf : PySem.W.isFn X.K (.ref f) = true) (hb : Binds X.K fd ps []) (hn : PySem.W.findIn X.K (.ref C) "__ne__" = some (some (.builtin "object.__ne__")))
    (hm : PySem.W.mroIn X.K C (.type "object") = some true) (hr : Room (k + 1) X.A) :
    OpR X (compareOp .NotEq) (fun x y H Q => ∃ a b dx dy fs gs, x = .ref a ∧ y = .ref b ∧ H a = some (.ins C dx fs) ∧ H b = some (.ins C dy gs) ∧ sp [.ref a, .ref b] H (fun v H' => ∃ t, v = .bl t ∧ Q (.bl (!t)) H') E0) := by
  intro pins s σ H x y v u Q I rx ry h
  obtain ⟨a, b, dx, dy, fs, gs, rfl, rfl, ha, hb', h⟩ := h
  cases rx
  cases ry
  obtain ⟨mA, J, _⟩ := ins_get I.hok ha
  obtain ⟨mB, J', _⟩ := ins_get I.hok hb'
  obtain ⟨od, J, _⟩ := J.look
  obtain ⟨od', J', _⟩ := J'.look
  have hu1 : X.A.in1.units < cLine := hr.in1.units0
  have one : wpAny (model X.prog X.w) X.A (tryCompare (.ref a) (cmpInfo .NotEq).2.1 (.ref b)) (fun r s' => ∃ v, r = some v ∧ EP X pins σ Q v s') X.xe s := by
    unfold tryCompare
    refine wpAny_bind (ifBound_ne I.kIn J hn ?_)
    refine wpAny_call (codeAny_call_builtin PySem.F.cmp_object.ne.plain PySem.F.cmpEntry_ne (PySem.W.check_slot PySem.F.cmpKind_ne PySem.F.cmpSplit_ne (J.type.andThen (PySem.W.looks_mroIn I.kIn hm)) (PySem.F.cmpArgs_ne _ _) ?_))
    unfold Builtin.«object.__ne__»
    refine wpAny_bind (wpAny_of_eq (a := (.ref a, [.ref b])) rfl ?_)
    dsimp only
    refine wpAny_bind (wpAny_cRoomFor hu1 ?_)
    refine wpAny_bind (PySem.W.ifBound_K I.kIn J hs hf ?_)
    refine wpAny_mono (run_fnA F hr.in1 I.env0.in1 hb I (show Vals [V.ref a, V.ref b] [Value.ref a, Value.ref b] from .cons rfl (.cons rfl .nil)) h) (fun v s' hv => ?_) fun _ _ z => z
    obtain ⟨z, H', I', rz, t, rfl, q⟩ := hv
    cases rz
    refine wpAny_bind (wpAny_truthy_bool ?_)
    exact wpAny_pure (wpAny_pure ⟨_, rfl, .bl (!t), H', I', rfl, q⟩)
  show wpAny (model X.prog X.w) X.A (richCompare .NotEq (.ref a) (.ref b)) _ _ _
  unfold richCompare
  simp only [oneThing_ref]
  refine wpAny_holding (wpAny_bind (wpAny_cRoomFor hr.units0 ?_))
  refine wpAny_bind (J.type.here (wpAny_bind (J'.type.here ?_)))
  split
  · rename_i q
    simp at q
  · refine wpAny_bind (wpAny_pure ?_)
    simp only [Bool.false_eq_true, if_false]
    refine wpAny_bind (wpAny_mono one (fun r s' z => ?_) fun _ _ e => e)
    obtain ⟨v, rfl, hq⟩ := z
    exact wpAny_pure hq
/-- len(a), a of the class at C, by its __len__ -/
theorem call_lenOwn (F : FnOk X.prog X.w X.K X.mg X.base CX0 k f fd ps sp) (hs : PySem.W.findIn X.K (.ref C) "__len__" = some (some (.ref f))) (hf : PySem.W.isFn X.K (.ref f) = true) (hb : Binds X.K fd ps []) (hr : Room (k + 1) X.A) :
    CallR X (.builtin "len") (fun xs H Q => ∃ a dx fs, xs = [.ref a] ∧ H a = some (.ins C dx fs) ∧ sp [.ref a] H (fun v H' => ∃ n : Nat, v = .int (n : Int) ∧ n ≤ sizeLine ∧ Q (.int (n : Int)) H') E0) := by
  intro pins s σ H xs us Q I r h
  obtain ⟨a, dx, fs, rfl, ha, h⟩ := h
  obtain ⟨u1, rfl, r1⟩ := vals1 r
  cases r1
  obtain ⟨mA, J, _⟩ := ins_get I.hok ha
  obtain ⟨od, J, _⟩ := J.look
  obtain ⟨m, hF⟩ := I.fr
  refine PySem.W.len_K hF I.ok.mod.kin J hs hf ?_
  refine wpAny_mono (run_fnA F hr.in1 I.env0.in1 hb I (show Vals [V.ref a] [Value.ref a] from .cons rfl .nil) h) (fun v s' hv => ?_) fun _ _ z => z
  obtain ⟨z, H', I', rz, n, rfl, hn, q⟩ := hv
  obtain ⟨t, rfl⟩ := rz
  have h63 : (n : Int) < 2 ^ 63 := by
    have := line63
    have : n < 2 ^ 63 := Nat.lt_of_le_of_lt hn this
    exact_mod_cast this
  exact ⟨⟨Int.natCast_nonneg n, h63⟩, .int (n : Int), H', I'.tok _, ⟨_, rfl⟩, q⟩
end
end Sf
namespace Sf
open PySem PySem.Spec PyProof.Rows L2 TL
/-! ### lists of texts, joined -/
theorem joinL_nil : ∀ ps : List (List Nat), joinL [] ps = ps.flatten
  | [] => rfl
  | [p] => by simp [joinL]
  | p :: q :: r => by
    show p ++ ([] ++ joinL [] (q :: r)) = _
    rw [joinL_nil (q :: r), List.nil_append]
    rfl
theorem tl_empty : tl (Str.ofString "") = [] := by decide +kernel
theorem join_tl (ys : List Str) : Txt.join (Str.ofString "") ys = mkS (ys.map tl).flatten := by
  refine eq_mkS ?_
  rw [join_eq, tl_join, tl_empty, joinL_nil]
theorem join_ones (l : List Nat) : Txt.join (Str.ofString "") (l.map one) = mkS l := by
  rw [join_tl, List.map_map]
  congr 1
  induction l with
  | nil => rfl
  | cons c l ih =>
    rw [List.map_cons, List.flatten_cons, ih]
    rfl
theorem len_empty : (Str.ofString "").length = 0 := by decide +kernel
theorem ones_sum (l : List Nat) : ((l.map one).map (·.length)).sum = l.length := by
  induction l with
  | nil => rfl
  | cons c l ih =>
    rw [List.map_cons, List.map_cons, List.sum_cons, ih, len_one, List.length_cons]
    omega
theorem join_fit {l : List Nat} (h : l.length ≤ 100000) : ((l.map one).map (·.length)).sum + (l.map one).length * (Str.ofString "").length ≤ 16777216 := by
  rw [ones_sum, len_empty]
  omega
/-- data of a list of single signs -/
def dOnes (l : List Nat) : PyData := .list (l.map fun c => .str (one c))
theorem dp_all {K : PySem.W.Frag} {H : Hp} : ∀ l : List Nat, DpAll K H (l.map fun c => V.str (one c)) (l.map fun c => .str (one c))
  | [] => .nil
  | _ :: l => .cons (.str _) (dp_all l)
theorem ones_lay : ∀ {l : List Nat}, Sg l → PyData.canLayAll0 (l.map fun c => .str (one c)) = true
  | [], _ => rfl
  | c :: l, h => by
    have hc := h c (List.mem_cons_self ..)
    have e : PyData.canLay0 (.str (one c)) = true := by
      rw [sgn_iff] at hc
      have : ∀ d, d < 128 → PyData.canLay0 (.str (one d)) = true := by decide +kernel
      exact this c (by omega)
    rw [List.map_cons, PyData.canLayAll0, e, ones_lay fun d hd => h d (List.mem_cons_of_mem _ hd)]
    rfl
theorem ones_depth : ∀ l : List Nat, PyData.depthAll (l.map fun c => .str (one c)) = 0
  | [] => rfl
  | _ :: l => by
    rw [List.map_cons, PyData.depthAll, ones_depth l]
    rfl
theorem ones_shaped {l : List Nat} (h : Sg l) : SeqAt.shaped (dOnes l) = true := by
  unfold SeqAt.shaped dOnes
  rw [PyData.canLay0, ones_lay h, Bool.true_and, PyData.depth, ones_depth]
  rfl
theorem ones_nil {l : List Nat} : PyData.eqv (dOnes l) (.list []) = l.isEmpty := by
  unfold dOnes
  cases l with
  | nil => simp [PyData.eqv, PyData.eqvAll]
  | cons c l => simp [PyData.eqv, PyData.eqvAll]
theorem Fx.toSame {L : Addr} {H H' : Hp} (f : Fx L H H') (n : H L = none) : Same H H' := fun b o e => f b o e (ne_of_none e n)
theorem glu_take {l : List Nat} {i c : Nat} (h : l[i]? = some c) : gluT (mkS (shortL (l.take i))) (one c) = mkS (shortL (l.take (i + 1))) := by
  unfold gluT
  rw [tl_mkS, tl_one, glu_one, ← shortL_snoc, List.take_add_one, h]
  rfl
end Sf
namespace Sf
open PySem PySem.Spec PyProof.Rows L2 TL
section
variable {P : Program} {w : World} {K : PySem.W.Frag} {mg : Str → Option Value} {base : Heap}
/-! ### _law_back, _law_short -/
def spBack : Sp := fun vs H Q _ => ∃ x : Str, vs = [.str x] ∧ Wd x ∧ x.length ≤ 50000 ∧ ∀ H', Same H H' → Q (.str (backT x)) H'
abbrev HasBack (P : Program) (w : World) (K : PySem.W.Frag) (mg : Str → Option Value) (base : Heap) : Prop := Has P w K mg base 2 "_law_back" ["_law_word_here"] spBack
def spShort : Sp := fun vs H Q _ => ∃ x : Str, vs = [.str x] ∧ Wd x ∧ x.length ≤ 50000 ∧ ∀ H', Same H H' → Q (.str (shortT x)) H'
abbrev HasShort (P : Program) (w : World) (K : PySem.W.Frag) (mg : Str → Option Value) (base : Heap) : Prop := Has P w K mg base 2 "_law_short" ["_law_word_here"] spShort
end
end Sf
namespace Sf
open PySem PySem.Spec PyProof.Rows L2 TL
section
variable {P : Program} {w : World} {K : PySem.W.Frag} {mg : Str → Option Value} {base : Heap}
theorem sc_back : FnScope ["_law_word_here", "_law_sign_here"] ["_law_word_here"] (defScope s__law_back) := ⟨rfl, rfl, rfl, by decide +kernel, rfl, by decide +kernel, by decide +kernel⟩
theorem has_back (F : FnAt K mg "_law_back" s__law_back ["_law_word_here"]) (hF : HasFlip P w K mg base) : HasBack P w K mg base := F.has fun F => by
  obtain ⟨fF, fdF, gF, kF, bF, GF⟩ := hF
  refine F.ok sc_back (fun vs H Q E h => ?_) (fun cdv A outer s H vs Q E hr h => ?_)
  · obtain ⟨x, rfl, _⟩ := h
    rfl
  · obtain ⟨x, rfl, hx, hl, q⟩ := h
    have hz : (revS x).cps.size = (tl (revS x)).length := len_tl (revS x)
    have hzl := revS_len x
    refine ⟨_, pss_one (ps_ret (pe_join pe_str (pe_lc (own := [("_law_sign_here", 1)]) (g := gName 1) (tt := tYes) (by rfl) sc_back.nd (pi_str (pe_revS (pv 0)))
      (blkOk_by (own := [("_law_sign_here", 1)]) (N := ["_law_word_here", "_law_sign_here"]) (sc := defScope s__law_back) (by decide +kernel)) (fun _ _ _ _ _ => pg_name (i := 1) sc_back.nd rfl (.inl rfl)) (fun _ _ _ _ _ => pts_nil)
      (fun _ _ _ _ _ => pe_call GF hr (by rfl) gF kF bF .nil pass0 (pa_cons (pv 1) pa_nil))))), ?_⟩
    refine ⟨⟨_, rfl⟩, _, rfl, x, rfl, line_of (by omega), revS x, rfl, fun D nD => ?_⟩
    refine lc_gen (n := (revS x).cps.size) (fun i H2 => Same H H2 ∧ H2 D = some (.lst (((tl (revS x)).take i).map fun c => V.str (one (flipC c))))) ⟨same_upd nD, upd_same⟩ (fun i H2 hi _ => hi) (fun H2 _ => Nat.le_refl _) ?_ ?_
    · rintro i v H2 H3 hi ⟨s2, hD⟩ ⟨rfl, c, hc, rfl⟩
      have hc' := getElem?_of_cps hc
      have hs := rev_wd hx c (List.mem_of_getElem? hc')
      refine ⟨rfl, yes_if ?_⟩
      refine ⟨_, rfl, c, rfl, hs, _, hD, ?_, fun a o e => ?_, ?_⟩
      · rw [List.length_map, List.length_take]
        have h3 : (revS x).length = (tl (revS x)).length := len_tl (revS x)
        exact lineLt_of (by omega)
      · rw [upd_ne (ne_of_none e nD)]
        exact s2 _ _ e
      · rw [upd_same, List.take_add_one, hc', List.map_append]
        rfl
    · rintro H2 ⟨s2, hD⟩
      have e1 : (tl (revS x)).take (revS x).cps.size = tl (revS x) := List.take_of_length_le (by rw [hz]; exact Nat.le_refl _)
      rw [e1] at hD
      have e2 : (backL (tl x)).map one = (tl (revS x)).map fun c => one (flipC c) := by
        rw [tl_revS]
        unfold backL
        rw [← List.map_reverse, List.map_map]
        rfl
      refine ⟨_, D, (backL (tl x)).map one, rfl, rfl, .inl (SqL.of ?_), join_fit ?_, ?_⟩
      · rw [hD, e2, List.map_map]
        rfl
      · unfold backL
        rw [List.length_reverse, List.length_map, ← len_tl]
        omega
      · rw [join_ones]
        exact q H2 s2
end
end Sf
namespace Sf
open PySem PySem.Spec PyProof.Rows L2 TL
section
variable {P : Program} {w : World} {K : PySem.W.Frag} {mg : Str → Option Value} {base : Heap}
theorem sc_short : FnScope ["_law_word_here", "_law_left", "_law_sign_here"] ["_law_word_here"] (defScope s__law_short) := ⟨rfl, rfl, rfl, by decide +kernel, rfl, by decide +kernel, by decide +kernel⟩
theorem has_short (F : FnAt K mg "_law_short" s__law_short ["_law_word_here"]) (hF : HasFlip P w K mg base) : HasShort P w K mg base := F.has fun F => by
  obtain ⟨fF, fdF, gF, kF, bF, GF⟩ := hF
  refine F.ok sc_short (fun vs H Q E h => ?_) (fun cdv A outer s H vs Q E hr h => ?_)
  · obtain ⟨x, rfl, _⟩ := h
    rfl
  · obtain ⟨x, rfl, hx, hl, q⟩ := h
    have hz : x.cps.size = (tl x).length := len_tl x
    have hzl : x.length = (tl x).length := len_tl x
    refine ⟨_, pss_cons (ps_set (i := 1) sc_short.nd rfl (.inl rfl) (pe_lst pa_nil))
      (pss_cons (ps_for PassesOwn.never rfl (pi_str (pv 0)) (pg_name (i := 2) sc_short.nd rfl (.inl rfl))
        (pss_one (ps_if (PW.pt (pw_and (pt_cmpR (op_neD hr.units) (pv 1) (pe_lst pa_nil) (nomark _)) (pw_and1 (pt_cmpR op_eq (pe_ix ix_list (pv 1) (pe_un un_neg pe_int) (fun _ _ => rfl)) (pe_call GF hr (by rfl) gF kF bF .nil pass0 (pa_cons (pv 2) pa_nil)) (nomark _)))))
          (pss_one (ps_expr (pe_bm0 PySem.F.plainAttrs_list PySem.F.slot_list_pop PySem.F.type_list_pop mt_pop (pv 1))))
          (pss_one (ps_expr (pe_bm PySem.F.plainAttrs_list PySem.F.slot_list_append PySem.F.type_list_append mt_append (pv 1) (pa_cons (pv 2) pa_nil)))))))
      (pss_one (ps_ret (pe_join pe_str (pv 1))))), ?_⟩
    refine ⟨(by show 0 ≤ sizeLine; decide), fun L nL => ?_⟩
    refine ⟨_, rfl, x, rfl, for_gen (n := x.cps.size) (fun i σ H1 => ∃ y : Option V, σ = [some (.str x), some (.ref L), y] ∧ Fx L H H1 ∧ H1 L = some (.lst ((shortL ((tl x).take i)).map fun c => V.str (one c)))) ⟨none, rfl, Fx.of (same_upd nL), upd_same⟩ (fun i σ H1 hi _ => hi) (fun σ H1 _ => Nat.le_refl _) ?_ ?_⟩
    · rintro i v σ H1 H2 hi ⟨y, rfl, f1, hL⟩ ⟨rfl, c, hc, rfl⟩
      have hc' := getElem?_of_cps hc
      have hs := hx c (List.mem_of_getElem? hc')
      have hSg : Sg (shortL ((tl x).take i)) := shortL_sg fun d hd => hx d (List.mem_of_mem_take hd)
      have hlen : (shortL ((tl x).take i)).length ≤ 50000 := by
        have := shortL_len ((tl x).take i)
        rw [List.length_take] at this
        omega
      have hnext : shortL ((tl x).take (i + 1)) = push (shortL ((tl x).take i)) c := by
        rw [List.take_add_one, hc', ← shortL_snoc]
        rfl
      refine ⟨_, rfl, (by show 0 ≤ sizeLine; decide), fun p np => ?_⟩
      have npL : L ≠ p := ne_of_none hL np
      have hL2 : (upd H2 p (.lst [])) L = some (.lst ((shortL ((tl x).take i)).map fun c => V.str (one c))) := by
        rw [upd_ne npL]
        exact hL
      have f2 : Fx L H (upd H2 p (.lst [])) := f1.new np
      refine ⟨dOnes (shortL ((tl x).take i)), .list [], .lst (SqL.of hL2) (dp_all _), .lst (SqL.of upd_same) .nil, ones_shaped hSg, (by decide +kernel), _, rfl, ?_⟩
      rw [ones_nil, hnext]
      generalize hl0 : shortL ((tl x).take i) = l at hL hL2 hSg hlen
      have app : push l c = l ++ [c] → ∃ v : V, some (some (V.ref L)) = some (some v) ∧ tyV K "list" v (upd H2 p (.lst [])) ∧ ∃ v2 : V, some (some (V.str (one c))) = some (some v2) ∧ ∃ (l' : Addr) (xs : List V) (y : V), v = .ref l' ∧ [v2] = [y] ∧ (upd H2 p (.lst [])) l' = some (.lst xs) ∧ xs.length < sizeLine ∧
          ∃ y' : Option V, [some (V.str x), some (.ref L), some (.str (one c))] = [some (V.str x), some (.ref L), y'] ∧ Fx L H (upd (upd H2 p (.lst [])) l' (.lst (xs ++ [y]))) ∧ (upd (upd H2 p (.lst [])) l' (.lst (xs ++ [y]))) L = some (.lst ((push l c).map fun c => V.str (one c))) := by
        intro e
        refine ⟨_, rfl, .inl ⟨rfl, _, SqL.of hL2⟩, _, rfl, L, _, _, rfl, rfl, hL2, ?_, _, rfl, f2.upd, ?_⟩
        · rw [List.length_map]
          exact lineLt_of (by omega)
        · rw [upd_same, e, List.map_append]
          rfl
      rcases List.eq_nil_or_concat l with rfl | ⟨r, d, rfl⟩
      · exact iteF (app (push_nil c))
      · rw [List.concat_eq_append] at *
        have e0 : (!(r ++ [d]).isEmpty) = true := by cases r <;> rfl
        rw [e0]
        have al : atI ((r ++ [d]).map fun c => V.str (one c)) (-1) = some (V.str (one d)) := by
          rw [List.map_append]
          exact atI_last _ _
        refine iteT ⟨_, rfl, 1, rfl, L, _, -1, _, rfl, rfl, SqL.of hL2, al, _, rfl, c, rfl, hs, rfl, _, rfl, ite2 (fun e => ?_) (fun e => ?_)⟩
        · have e3 : d = flipC c := by
            have := of_decide_eq_true e
            have h6 := congrArg tl (V.str.inj this)
            exact List.head_eq_of_cons_eq h6
          refine ⟨_, rfl, .inl ⟨rfl, _, SqL.of hL2⟩, L, _, .str (one d), rfl, rfl, hL2, ?_, _, rfl, f2.upd, ?_⟩
          · rw [List.length_map, List.length_append, List.length_singleton, Nat.add_sub_cancel, List.getElem?_map, List.getElem?_append_right (Nat.le_refl _), Nat.sub_self]
            rfl
          · rw [upd_same, push_last, if_pos e3, List.map_append, List.map_singleton, List.dropLast_concat]
        · have e3 : d ≠ flipC c := fun z => e (decide_eq_true (by rw [z]))
          refine app ?_
          rw [push_last, if_neg e3]
    · rintro σ H1 ⟨y, rfl, f1, hL⟩
      rw [List.take_of_length_le (by rw [hz]; exact Nat.le_refl _)] at hL
      have h3 := shortL_len (tl x)
      refine ⟨⟨_, rfl⟩, _, rfl, _, L, (shortL (tl x)).map one, rfl, rfl, .inl (SqL.of ?_), join_fit (by omega), ?_⟩
      · rw [hL, List.map_map]
        rfl
      · rw [join_ones]
        exact q H1 (f1.toSame nL)
end
end Sf
namespace Sf
open PySem PySem.Spec PyProof.Rows L2 TL
/-! ### reduced words as a group -/
def Rdc (x : Str) : Prop := Wd x ∧ RedS (tl x).reverse
theorem runS_short {s : List Nat} (h : RedS s) (hs : Sg s) : ∀ (n : Nat) (w : List Nat), w.length = n → Sg w → runS s (shortL w) = runS s w := by
  intro n
  induction n with
  | zero =>
    intro w hw _
    rw [List.eq_nil_of_length_eq_zero hw]
    rfl
  | succ n ih =>
    intro w hw hg
    rcases List.eq_nil_or_concat w with rfl | ⟨u, c, rfl⟩
    · rfl
    · rw [List.concat_eq_append] at *
      have hu : Sg u := fun d hd => hg d (List.mem_append_left _ hd)
      have hc : sgn c = true := hg c (List.mem_append_right _ (List.mem_singleton.mpr rfl))
      have hl : u.length = n := by
        rw [List.length_append, List.length_singleton] at hw
        omega
      have ihu := ih u hl hu
      rw [shortL_snoc, runS_app]
      show runS s (push (shortL u) c) = pushS (runS s u) c
      rw [← ihu]
      rcases List.eq_nil_or_concat (shortL u) with e | ⟨r, d, e⟩
      · rw [e]
        rfl
      · rw [List.concat_eq_append] at e
        have hd : sgn d = true := shortL_sg hu d (by rw [e]; simp)
        have hr : Sg r := fun z hz => shortL_sg hu z (by rw [e]; exact List.mem_append_left _ hz)
        rw [e, push_last]
        by_cases q : d = flipC c
        · rw [if_pos q, runS_app]
          show runS s r = pushS (pushS (runS s r) d) c
          have hinv := pushS_inv (s := runS s r) (c := d) (runS_red h) (runS_sg hs hr) hd
          have e2 : flipC d = c := by rw [q, flip2 hc]
          rw [e2] at hinv
          exact hinv.symm
        · rw [if_neg q, runS_app s (r ++ [d]) [c]]
          rfl
theorem run_self {x : Str} (h : Rdc x) : runS [] (tl x) = (tl x).reverse := by
  have := run_of_red (w := tl x) (s := []) (by rw [List.append_nil]; exact h.2)
  rw [List.append_nil] at this
  exact this
theorem tl_glu {x y : Str} (hx : Rdc x) (hy : Rdc y) : tl (gluT x y) = (runS (tl x).reverse (tl y)).reverse := by
  unfold gluT
  rw [tl_mkS, glS_run hy.2 hx.2]
theorem glu_rdc {x y : Str} (hx : Rdc x) (hy : Rdc y) : Rdc (gluT x y) := by
  refine ⟨gluT_wd hx.1 hy.1, ?_⟩
  rw [tl_glu hx hy, List.reverse_reverse]
  exact runS_red hx.2
theorem rev_sg {x : Str} (h : Wd x) : Sg (tl x).reverse := fun c hc => h c (List.mem_reverse.mp hc)
theorem glu_short {x y : Str} (hx : Rdc x) (hy : Rdc y) : tl (gluT x y) = shortL (tl x ++ tl y) := by
  rw [tl_glu hx hy]
  unfold shortL
  rw [runS_app, run_self hx]
theorem glu_assoc {x y z : Str} (hx : Rdc x) (hy : Rdc y) (hz : Rdc z) : gluT (gluT x y) z = gluT x (gluT y z) := by
  refine ext_tl ?_
  rw [tl_glu (glu_rdc hx hy) hz, tl_glu hx (glu_rdc hy hz), tl_glu hx hy, List.reverse_reverse, glu_short hy hz]
  rw [runS_short hx.2 (rev_sg hx.1) _ _ rfl (fun c hc => (List.mem_append.mp hc).elim (hy.1 c) (hz.1 c)), runS_app]
theorem rdc_nil : Rdc (Str.ofString "") := ⟨wd_nil, by rw [tl_empty]; exact True.intro⟩
theorem glu_nil {x : Str} : gluT x (Str.ofString "") = x := by
  refine ext_tl ?_
  unfold gluT
  rw [tl_mkS, tl_empty]
  cases h : (tl x).reverse with
  | nil =>
    rw [List.reverse_eq_nil_iff] at h
    rw [h]
    rfl
  | cons a l =>
    show (a :: l).reverse = _
    rw [← h, List.reverse_reverse]
theorem nil_glu {x : Str} (hx : Rdc x) : gluT (Str.ofString "") x = x := by
  refine ext_tl ?_
  rw [tl_glu rdc_nil hx, tl_empty]
  show (runS [] (tl x)).reverse = _
  rw [run_self hx, List.reverse_reverse]
theorem red_npc2 : ∀ {l : List Nat}, RedS l.reverse → Sg l → RedS (l.map flipC)
  | [], _, _ => True.intro
  | [_], _, _ => True.intro
  | x :: y :: t, h, hs => by
    rw [List.reverse_cons] at h
    have h1 : RedS (y :: t).reverse := glS_run.RedS.prefix h
    rw [List.reverse_cons, List.append_assoc] at h
    have h2 : RedS [y, x] := RedS.suffix (a := t.reverse) h
    have hx := hs x (List.mem_cons_self ..)
    have ih := red_npc2 (l := y :: t) h1 (fun c hc => hs c (List.mem_cons_of_mem _ hc))
    refine ⟨?_, ih⟩
    intro e
    rw [flip2 hx] at e
    exact h2.1 e.symm
theorem back_rdc {x : Str} (hx : Rdc x) : Rdc (backT x) := by
  refine ⟨backT_wd hx.1, ?_⟩
  show RedS (backL (tl x)).reverse
  unfold backL
  rw [List.reverse_reverse]
  exact red_npc2 hx.2 hx.1
theorem glu_back {x : Str} (hx : Rdc x) : gluT x (backT x) = Str.ofString "" := by
  refine ext_tl ?_
  rw [tl_glu hx (back_rdc hx), tl_empty]
  show (runS (tl x).reverse (backL (tl x))).reverse = []
  rw [← run_self hx, run_back (s := []) True.intro (fun _ z => by cases z) hx.1]
  rfl
theorem back_glu {x : Str} (hx : Rdc x) : gluT (backT x) x = Str.ofString "" := by
  have h := glu_back (back_rdc hx)
  rw [backT_back hx.1] at h
  exact h
theorem glu_cancel {e s : Str} (he : Rdc e) (hs : Rdc s) : gluT (backT e) (gluT e s) = s := by
  rw [← glu_assoc (back_rdc he) he hs, back_glu he, nil_glu hs]
theorem glu_cancel2 {e s : Str} (he : Rdc e) (hs : Rdc s) : gluT e (gluT (backT e) s) = s := by
  rw [← glu_assoc he (back_rdc he) hs, glu_back he, nil_glu hs]
theorem glu_inj {e s t : Str} (he : Rdc e) (hs : Rdc s) (ht : Rdc t) (h : gluT e s = gluT e t) : s = t := by
  rw [← glu_cancel he hs, ← glu_cancel he ht, h]
theorem back_of_glu {x y : Str} (hx : Rdc x) (hy : Rdc y) : backT (gluT x y) = gluT (backT y) (backT x) := by
  have h1 := glu_rdc hx hy
  have h2 := glu_rdc (back_rdc hy) (back_rdc hx)
  have e : gluT (gluT x y) (gluT (backT y) (backT x)) = Str.ofString "" := by
    rw [glu_assoc hx hy h2, glu_cancel2 hy (back_rdc hx), glu_back hx]
  have e2 := glu_cancel (s := gluT (backT y) (backT x)) h1 h2
  rw [e, glu_nil] at e2
  exact e2
theorem short_rdc {w : List Nat} (h : Sg w) : Rdc (mkS (shortL w)) := by
  refine ⟨shortL_sg h, ?_⟩
  rw [tl_mkS]
  unfold shortL
  rw [List.reverse_reverse]
  exact runS_red (s := []) True.intro
/-! ### lists without doubles -/
theorem nodup_le : ∀ {ks ms : List Str}, ks.Nodup → (∀ s ∈ ks, s ∈ ms) → ks.length ≤ ms.length
  | [], _, _, _ => Nat.zero_le _
  | k :: ks, ms, hn, h => by
    obtain ⟨a, b, rfl⟩ := List.append_of_mem (h k (List.mem_cons_self ..))
    have hk := (List.nodup_cons.mp hn)
    have ih := nodup_le (ks := ks) (ms := a ++ b) hk.2 (fun s hs => by
      have h1 := h s (List.mem_cons_of_mem _ hs)
      rcases List.mem_append.mp h1 with h1 | h1
      · exact List.mem_append_left _ h1
      · rcases List.mem_cons.mp h1 with rfl | h1
        · exact absurd hs hk.1
        · exact List.mem_append_right _ h1)
    rw [List.length_append] at ih
    rw [List.length_append, List.length_cons, List.length_cons]
    omega
theorem nodup_len {ks ms : List Str} (h1 : ks.Nodup) (h2 : ms.Nodup) (h : ∀ s, s ∈ ks ↔ s ∈ ms) : ks.length = ms.length :=
  Nat.le_antisymm (nodup_le h1 fun s hs => (h s).mp hs) (nodup_le h2 fun s hs => (h s).mpr hs)
theorem nodup_map_glu {e : Str} (he : Rdc e) : ∀ {ks : List Str}, (∀ s ∈ ks, Rdc s) → ks.Nodup → (ks.map (gluT e)).Nodup
  | [], _, _ => List.nodup_nil
  | k :: ks, hr, hn => by
    have hk := List.nodup_cons.mp hn
    rw [List.map_cons, List.nodup_cons]
    refine ⟨fun hm => ?_, nodup_map_glu he (fun s hs => hr s (List.mem_cons_of_mem _ hs)) hk.2⟩
    obtain ⟨t, ht, e2⟩ := List.mem_map.mp hm
    have := glu_inj he (hr t (List.mem_cons_of_mem _ ht)) (hr k (List.mem_cons_self ..)) e2
    rw [this] at ht
    exact hk.1 ht
/-! ### dicts of spots -/
def dOf (ks : List Str) : List (Key × V) := ks.map fun s => (Sum.inr s, V.bl true)
theorem dOf_len (ks : List Str) : (dOf ks).length = ks.length := List.length_map ..
def addS (l : List Str) (s : Str) : List Str := if s ∈ l then l else l ++ [s]
theorem any_dOf (l : List Str) (s : Str) : ((dOf l).any fun kv => decide (kv.1 = (Sum.inr s : Key))) = decide (s ∈ l) := by
  unfold dOf
  rw [List.any_map, Bool.eq_iff_iff, List.any_eq_true, decide_eq_true_eq]
  constructor
  · rintro ⟨t, ht, e⟩
    have e1 : (Sum.inr t : Key) = Sum.inr s := of_decide_eq_true e
    cases e1
    exact ht
  · intro h
    exact ⟨s, h, decide_eq_true rfl⟩
theorem put_dOf (l : List Str) (s : Str) : putK (dOf l) (Sum.inr s) (.bl true) = dOf (addS l s) := by
  unfold putK addS
  rw [any_dOf]
  by_cases h : s ∈ l
  · rw [if_pos (decide_eq_true h), if_pos h]
    unfold dOf
    rw [List.map_map]
    refine List.map_congr_left fun t _ => ?_
    show (if (Sum.inr t : Key) = Sum.inr s then ((Sum.inr t : Key), V.bl true) else (Sum.inr t, V.bl true)) = _
    split <;> rfl
  · rw [if_neg (by rw [decide_eq_false h]; exact Bool.false_ne_true), if_neg h]
    unfold dOf
    rw [List.map_append]
    rfl
theorem addS_mem {l : List Str} {s t : Str} : t ∈ addS l s ↔ t ∈ l ∨ t = s := by
  unfold addS
  by_cases h : s ∈ l
  · rw [if_pos h]
    constructor
    · exact .inl
    · rintro (h1 | rfl)
      · exact h1
      · exact h
  · rw [if_neg h, List.mem_append, List.mem_singleton]
theorem addS_nodup {l : List Str} {s : Str} (h : l.Nodup) : (addS l s).Nodup := by
  unfold addS
  by_cases hs : s ∈ l
  · rw [if_pos hs]
    exact h
  · rw [if_neg hs, List.nodup_append]
    refine ⟨h, by simp, ?_⟩
    intro a ha b hb
    rw [List.mem_singleton] at hb
    subst hb
    exact fun e => hs (e ▸ ha)
theorem addS_len (l : List Str) (s : Str) : (addS l s).length ≤ l.length + 1 := by
  unfold addS
  by_cases hs : s ∈ l
  · rw [if_pos hs]
    omega
  · rw [if_neg hs, List.length_append, List.length_singleton]
    exact Nat.le_refl _
def uni (l m : List Str) : List Str := m.foldl addS l
theorem merge_dOf : ∀ (l m : List Str), mergeV (dOf l) (dOf m) = dOf (uni l m)
  | _, [] => rfl
  | l, s :: m => by
    show mergeV (putK (dOf l) (Sum.inr s) (.bl true)) (dOf m) = _
    rw [put_dOf, merge_dOf]
    rfl
theorem uni_mem : ∀ {m l : List Str} {t : Str}, t ∈ uni l m ↔ t ∈ l ∨ t ∈ m
  | [], l, t => by simp [uni]
  | s :: m, l, t => by
    show t ∈ uni (addS l s) m ↔ _
    rw [uni_mem, addS_mem, List.mem_cons, or_assoc]
theorem uni_nodup : ∀ {m l : List Str}, l.Nodup → (uni l m).Nodup
  | [], _, h => h
  | _ :: m, _, h => uni_nodup (m := m) (addS_nodup h)
theorem uni_len : ∀ (m l : List Str), (uni l m).length ≤ l.length + m.length
  | [], l => by simp [uni]
  | s :: m, l => by
    have h1 := uni_len m (addS l s)
    have h2 := addS_len l s
    show (uni (addS l s) m).length ≤ _
    rw [List.length_cons]
    omega
theorem dOf_nil : dOf [] = [] := rfl
theorem val_dOf {l : List Str} {s : Str} (h : s ∈ l) : valV (dOf l) (Sum.inr s) = some (.bl true) := by
  induction l with
  | nil => cases h
  | cons t l ih =>
    by_cases e : t = s
    · rw [e]
      exact valV_pos rfl
    · have e2 : ¬ ((Sum.inr t : Key) = Sum.inr s) := fun z => e (Sum.inr.inj z)
      show valV ((Sum.inr t, V.bl true) :: dOf l) _ = _
      rw [valV_neg e2]
      exact ih ((List.mem_cons.mp h).resolve_left fun z => e z.symm)
theorem val_dOf_none {l : List Str} {s : Str} (h : s ∉ l) : valV (dOf l) (Sum.inr s) = none := by
  induction l with
  | nil => rfl
  | cons t l ih =>
    have e2 : ¬ ((Sum.inr t : Key) = Sum.inr s) := fun z => h (by rw [Sum.inr.inj z]; exact List.mem_cons_self ..)
    show valV ((Sum.inr t, V.bl true) :: dOf l) _ = _
    rw [valV_neg e2]
    exact ih fun z => h (List.mem_cons_of_mem _ z)
end Sf
namespace Sf
open PySem PySem.Spec PyProof.Rows L2 TL
/-! ### the class Track -/
theorem dc_gen {J : It} {n : Nat} {g : TG} {tt : TT} {tk tv : TE} {vs : List Nat} {σ : L2.St} {H1 : Hp} {D : Addr} {Qd : Hp → Prop} (Pv : Nat → Hp → Prop) (h0 : Pv 0 (upd H1 D (.dK [])))
    (hgo : ∀ i H, i < n → Pv i H → J.go i H) (hst : ∀ H, Pv n H → J.stop n H)
    (hs : ∀ i x H H', i < n → Pv i H → J.yld i H x H' → g x (wipe σ vs) H' fun σ2 H2 => wipe σ2 vs = wipe σ vs ∧ tt σ2 H2 fun b H3 =>
      if b = true then tk σ2 H3 fun y H4 => tv σ2 H4 fun z H5 => ∃ kvs k, y = kV k ∧ H5 D = some (.dK kvs) ∧ kvs.length < sizeLine ∧ Pv (i + 1) (upd H5 D (.dK (putK kvs k z))) else Pv (i + 1) H3) (hd : ∀ H, Pv n H → Qd H) :
    ∃ W : Nat → Nat → Hp → Prop, (∃ m, W 0 m (upd H1 D (.dK []))) ∧ ∀ i m H, W i m H →
      (J.stop i H ∧ Qd H) ∨ (J.go i H ∧ ∃ Nx : Hp → Prop, (∀ H', Nx H' → ∃ m', m' < m ∧ W (i + 1) m' H') ∧ ∀ x H', J.yld i H x H' → g x (wipe σ vs) H' fun σ2 H2 => wipe σ2 vs = wipe σ vs ∧ tt σ2 H2 fun b H3 =>
        if b = true then tk σ2 H3 fun y H4 => tv σ2 H4 fun z H5 => ∃ kvs k, y = kV k ∧ H5 D = some (.dK kvs) ∧ kvs.length < sizeLine ∧ Nx (upd H5 D (.dK (putK kvs k z))) else Nx H3) := by
  refine ⟨fun i m H => m = n - i ∧ i ≤ n ∧ Pv i H, ⟨n, rfl, Nat.zero_le _, h0⟩, ?_⟩
  rintro i m H ⟨rfl, hi, p⟩
  by_cases hlt : i < n
  · exact .inr ⟨hgo i H hlt p, Pv (i + 1), fun H' p' => ⟨n - (i + 1), by omega, rfl, hlt, p'⟩, fun x H' y => hs i x H H' hlt p y⟩
  · have e : i = n := by omega
    subst e
    exact .inl ⟨hst H p, hd H p⟩
def tf (d : Addr) (e : Str) : List (Str × V) := putF "last" (.str e) (putF "passed" (.ref d) [])
theorem pl_ne : ¬ (("passed" : Str) = "last") := by decide +kernel
theorem lp_ne : ¬ (("last" : Str) = "passed") := by decide +kernel
theorem tf_eq (d : Addr) (e : Str) : tf d e = ([("passed", V.ref d), ("last", V.str e)] : List (Str × V)) := by
  show (if ("passed" : Str) = "last" then [(("passed" : Str), V.str e)] else (("passed" : Str), V.ref d) :: putF "last" (V.str e) []) = ([("passed", V.ref d), ("last", V.str e)] : List (Str × V))
  rw [if_neg pl_ne]
  all_goals rfl
theorem tf_passed (d : Addr) (e : Str) : (tf d e).lookup ("passed" : Str) = some (.ref d) := by
  unfold tf
  rw [lookup_putF, if_neg pl_ne, lookup_putF, if_pos rfl]
theorem tf_last (d : Addr) (e : Str) : (tf d e).lookup ("last" : Str) = some (.str e) := by
  unfold tf
  rw [lookup_putF, if_pos rfl]
theorem tf_no (d : Addr) (e : Str) {m : Str} (h1 : ¬ m = "last") (h2 : ¬ m = "passed") : (tf d e).lookup m = none := by
  unfold tf
  rw [lookup_putF, if_neg h1, lookup_putF, if_neg h2]
  all_goals rfl
theorem tf_len (d : Addr) (e : Str) : (tf d e).length = 2 := by rw [tf_eq]; rfl
theorem tf_putP (d d' : Addr) (e : Str) : putF "passed" (.ref d') (tf d e) = tf d' e := by
  rw [tf_eq, tf_eq]
  show (if ("passed" : Str) = "passed" then [(("passed" : Str), V.ref d'), ("last", V.str e)] else _) = _
  rw [if_pos rfl]
theorem tf_putL (d : Addr) (e e' : Str) : putF "last" (.str e') (tf d e) = tf d e' := by
  rw [tf_eq, tf_eq]
  show (if ("passed" : Str) = "last" then _ else (("passed" : Str), V.ref d) :: (if ("last" : Str) = "last" then [(("last" : Str), V.str e')] else _)) = _
  rw [if_neg pl_ne, if_pos rfl]
/-- the spots of a track with end e: at most B of them, of at most B signs -/
structure Spots (ks : List Str) (S : Str → Prop) (e : Str) (B : Nat) : Prop where
  nd : ks.Nodup
  mem : ∀ s, s ∈ ks ↔ S s
  rd : ∀ s, S s → Rdc s
  ln : ∀ s, S s → s.length ≤ B
  re : Rdc e
  le : e.length ≤ B
  many : ks.length ≤ B
def Trk (C : Addr) (H : Hp) (p : Addr) (S : Str → Prop) (e : Str) (B : Nat) : Prop := ∃ (dx d : Addr) (ks : List Str), H p = some (.ins C dx (tf d e)) ∧ H d = some (.dK (dOf ks)) ∧ Spots ks S e B
theorem Trk.same {C : Addr} {H H' : Hp} {p : Addr} {S : Str → Prop} {e : Str} {B : Nat} (s : Same H H') : Trk C H p S e B → Trk C H' p S e B
  | ⟨dx, d, ks, h1, h2, h3⟩ => ⟨dx, d, ks, s _ _ h1, s _ _ h2, h3⟩
theorem Trk.fx {C b : Addr} {H H' : Hp} {p : Addr} {S : Str → Prop} {e : Str} {B : Nat} (hB : Bag H b) (f : Fx b H H') : Trk C H p S e B → Trk C H' p S e B
  | ⟨dx, d, ks, h1, h2, h3⟩ => by
    obtain ⟨l, ns, k, z, r, hb⟩ := hB
    exact ⟨dx, d, ks, f _ _ h1 (ne_of h1 hb.hb (by intro q; cases q)), f _ _ h2 (ne_of h2 hb.hb (by intro q; cases q)), h3⟩
theorem Trk.cong {C : Addr} {H : Hp} {p : Addr} {S S' : Str → Prop} {e e' : Str} {B : Nat} (hS : ∀ s, S s ↔ S' s) (he : e = e') : Trk C H p S e B → Trk C H p S' e' B
  | ⟨dx, d, ks, h1, h2, h3⟩ => ⟨dx, d, ks, by rw [← he]; exact h1, h2, h3.nd, fun s => (h3.mem s).trans (hS s), fun s h => h3.rd s ((hS s).mpr h), fun s h => h3.ln s ((hS s).mpr h), by rw [← he]; exact h3.re, by rw [← he]; exact h3.le, h3.many⟩
def spotP (x : Str) : Str → Prop := fun s => ∃ i, i ≤ (tl x).length ∧ s = mkS (shortL ((tl x).take i))
theorem kit_self {K : PySem.W.Frag} {t : Value} : PySem.W.kitOne K t t = some true := by
  unfold PySem.W.kitOne
  rw [if_pos (beq_self_eq_true t)]
structure TC (K : PySem.W.Frag) (mg : Str → Option Value) (C : Addr) : Prop where
  cl : Cls K C
  nP : PySem.W.findIn K (.ref C) "passed" = some none
  nL : PySem.W.findIn K (.ref C) "last" = some none
  mgC : mg "Track" = some (.ref C)
  ha : PySem.W.findIn K (.ref C) "__class__" = some (some (.builtin "object.__class__"))
  hn : PySem.W.specialIn K (.builtin "object.__class__") "__get__" = some (some (.builtin "getset_descriptor.__get__"))
  htk : PySem.W.takesIn K (.builtin "object.__class__") = some true
  hm : PySem.W.mroIn K C (.type "object") = some true
  ne : PySem.W.findIn K (.ref C) "__ne__" = some (some (.builtin "object.__ne__"))
def MAt (K : PySem.W.Frag) (C : Addr) (m q : Str) (st : Stmt) (ps : List Str) : Prop := ∃ (f : Addr) (fd : FuncData), Meth K C m f ∧ Fun K m q st f fd ∧ Binds K fd ps []
def HasM (P : Program) (w : World) (K : PySem.W.Frag) (mg : Str → Option Value) (base : Heap) (C : Addr) (k : Nat) (m : Str) (ps : List Str) (sp : Sp) : Prop :=
  ∃ (f : Addr) (fd : FuncData), Meth K C m f ∧ Binds K fd ps [] ∧ FnOk P w K mg base CX0 k f fd ps sp
theorem MAt.has {P : Program} {w : World} {K : PySem.W.Frag} {mg : Str → Option Value} {base : Heap} {C : Addr} {k : Nat} {m q : Str} {st : Stmt} {ps : List Str} {sp : Sp} (h : MAt K C m q st ps)
    (ok : ∀ {f : Addr} {fd : FuncData}, Fun K m q st f fd → FnOk P w K mg base CX0 k f fd ps sp) : HasM P w K mg base C k m ps sp := by
  obtain ⟨f, fd, g, F, b⟩ := h
  exact ⟨f, fd, g, b, ok F⟩
theorem mAt_mk {K : PySem.W.Frag} {C : Addr} {m q : Str} {st : Stmt} {ps : List Str} {f : Addr} {oc : Value} {od an : Option Addr} {osl : Array (Option Value)} {kV doc pm cdv ct : Value}
    (a : PySem.W.findIn K (.ref C) m = some (some (.ref f))) (i : PySem.W.isFn K (.ref f) = true) (l : K.lookup f = some ⟨oc, od, .func (PySem.W.fnOf m q (defArgs st) (defBody st) (defScope st) .none kV doc pm an cdv ct), osl⟩)
    (c : PySem.W.codeIn K cdv q = true) (k : PySem.W.keepIn K (.ref f) = true)
    (b : ∀ (kV doc pm : Value) (an : Option Addr) (cdv ct : Value) (us : List Value), us.length = ps.length → bindArgs (PySem.W.fnOf m q (defArgs st) (defBody st) (defScope st) .none kV doc pm an cdv ct) ⟨us, []⟩ = pure (ps.zip us)) : MAt K C m q st ps :=
  ⟨f, _, ⟨a, i, k⟩, fun_mk l c k, (fun_mk l c k).binds b⟩
section
variable {P : Program} {w : World} {K : PySem.W.Frag} {mg : Str → Option Value} {base : Heap} {C : Addr}
/-! ### __init__ -/
def spInit (C : Addr) : Sp := fun vs H Q _ => ∃ (p dx : Addr) (x : Str), vs = [.ref p, .str x] ∧ H p = some (.ins C dx []) ∧ Wd x ∧ x.length ≤ 60 ∧
  ∀ H', Trk C H' p (spotP x) (shortT x) 61 → (∀ b o, H b = some o → b ≠ p → H' b = some o) → Q .non H'
theorem sc_init : FnScope ["self", "word", "here", "passed", "sign"] ["self", "word"] (defScope s_Track___init__) := ⟨rfl, rfl, rfl, by decide +kernel, rfl, by decide +kernel, by decide +kernel⟩
theorem has_init (F : MAt K C "__init__" "Track.__init__" s_Track___init__ ["self", "word"]) (T : TC K mg C) (hN : HasNeed P w K mg base) (hG : HasGlued P w K mg base) : HasM P w K mg base C 3 "__init__" ["self", "word"] (spInit C) := F.has fun F => by
  obtain ⟨fN, fdN, gN, kN, bN, GN⟩ := hN
  obtain ⟨fG, fdG, gG, kG, bG, GG⟩ := hG
  refine F.ok sc_init (fun vs H Q E h => ?_) (fun cdv A outer s H vs Q E hr h => ?_)
  · obtain ⟨p, dx, x, rfl, _⟩ := h
    rfl
  · obtain ⟨p, dx, x, rfl, hp, hx, hl, q⟩ := h
    have hz : x.cps.size = (tl x).length := len_tl x
    have hzl : x.length = (tl x).length := len_tl x
    refine ⟨_, pss_cons (ps_expr (pe_call GN hr (by rfl) gN kN bN .nil pass0 (pa_cons (pv 1) pa_nil)))
      (pss_cons (ps_set (i := 2) sc_init.nd rfl (.inl rfl) pe_str)
      (pss_cons (ps_set (i := 3) sc_init.nd rfl (.inl rfl) (pe_disp (pps_cons (pv 2) pe_bl pps_nil) (by rfl) (by rfl) (fun z => by cases z) (by decide)))
      (pss_cons (ps_for PassesOwn.never rfl (pi_str (pv 1)) (pg_name (i := 4) sc_init.nd rfl (.inl rfl))
        (pss_cons (ps_set (i := 2) sc_init.nd rfl (.inl rfl) (pe_call GG (hr.mono (by decide)) (by rfl) gG kG bG .nil pass0 (pa_cons (pv 2) (pa_cons (pv 4) pa_nil))))
        (pss_one (ps_dput (hu_of hr) (pv 3) (pv 2) pe_bl rfl))))
      (pss_cons (ps_fld (pv 0) (pv 3) rfl) (pss_one (ps_fld (pv 0) (pv 2) rfl)))))), ?_⟩
    refine ⟨_, rfl, x, rfl, hx, hl, fun H1 s1 => ?_⟩
    refine fun d nd => ⟨_, rfl, upd_same, [(Sum.inr (Str.ofString ""), .bl true)], rfl, by decide, ?_⟩
    rw [upd_upd]
    have e0 : mergeK [] [((Sum.inr (Str.ofString "") : Key), V.bl true)] = dOf [Str.ofString ""] := rfl
    rw [e0]
    have hp1 : H1 p = some (.ins C dx []) := s1 _ _ hp
    have npd : p ≠ d := ne_of_none hp1 nd
    refine ⟨_, rfl, x, rfl, for_gen (n := x.cps.size) (fun i σ H2 => ∃ (y : Option V) (ks : List Str), σ = [some (.ref p), some (.str x), some (.str (mkS (shortL ((tl x).take i)))), some (.ref d), y] ∧ Fx d H1 H2 ∧ H2 d = some (.dK (dOf ks)) ∧ ks.Nodup ∧ (∀ s, s ∈ ks ↔ ∃ j, j ≤ i ∧ s = mkS (shortL ((tl x).take j))) ∧ ks.length ≤ i + 1)
      ⟨none, [Str.ofString ""], rfl, Fx.of (same_upd nd), upd_same, by simp, fun s => ?_, by decide⟩ (fun i σ H2 hi _ => hi) (fun σ H2 _ => Nat.le_refl _) ?_ ?_⟩
    · rw [List.mem_singleton]
      constructor
      · rintro rfl
        exact ⟨0, Nat.le_refl _, by rw [List.take_zero]; decide +kernel⟩
      · rintro ⟨j, hj, e⟩
        have : j = 0 := by omega
        rw [e, this, List.take_zero]
        decide +kernel
    · rintro i v σ H2 H3 hi ⟨y, ks, rfl, f2, hd, hn, hm, hk⟩ ⟨rfl, c, hc, rfl⟩
      have hc' := getElem?_of_cps hc
      have hs := hx c (List.mem_of_getElem? hc')
      have hlen := shortL_len ((tl x).take i)
      rw [List.length_take] at hlen
      refine ⟨_, rfl, _, rfl, _, _, rfl, ?_, wd_one hs, ?_, ?_⟩
      · exact shortL_sg fun d hd => hx d (List.mem_of_mem_take hd)
      · rw [mkS_len, len_one]
        omega
      · rw [glu_take hc']
        refine ⟨_, rfl, _, rfl, d, _, rfl, DPut.k (k := Sum.inr (mkS (shortL ((tl x).take (i + 1))))) hd ?_, ?_⟩
        · rw [dOf_len]
          exact lineLt_of (by omega)
        · rw [put_dOf]
          refine ⟨_, _, rfl, f2.upd, upd_same, addS_nodup hn, fun s => ?_, by have := addS_len ks (mkS (shortL ((tl x).take (i + 1)))); omega⟩
          rw [addS_mem, hm]
          constructor
          · rintro (⟨j, hj, e⟩ | e)
            · exact ⟨j, by omega, e⟩
            · exact ⟨i + 1, Nat.le_refl _, e⟩
          · rintro ⟨j, hj, e⟩
            by_cases hji : j ≤ i
            · exact .inl ⟨j, hji, e⟩
            · have : j = i + 1 := by omega
              subst this
              exact .inr e
    · rintro σ H2 ⟨y, ks, rfl, f2, hd, hn, hm, hk⟩
      have hp2 : H2 p = some (.ins C dx []) := f2 _ _ hp1 npd
      have ndp : d ≠ p := npd.symm
      refine ⟨_, rfl, _, rfl, p, C, dx, [], rfl, hp2, T.cl, T.nP, (by show 0 < 1000; decide), ?_⟩
      refine ⟨_, rfl, _, rfl, p, C, dx, _, rfl, upd_same, T.cl, T.nL, (by show 1 < 1000; decide), ?_⟩
      have e1 : mkS (shortL ((tl x).take x.cps.size)) = shortT x := by
        rw [List.take_of_length_le (by rw [hz]; exact Nat.le_refl _)]
        rfl
      rw [e1]
      refine q _ ⟨dx, d, ks, upd_same, by rw [upd_ne ndp, upd_ne ndp]; exact hd, hn, fun s => ?_, fun s => ?_, fun s => ?_, ?_, ?_, ?_⟩ fun b o e hb => ?_
      · rw [hm, hz]
        rfl
      · rintro ⟨j, hj, rfl⟩
        exact short_rdc fun c hc => hx c (List.mem_of_mem_take hc)
      · rintro ⟨j, hj, rfl⟩
        rw [mkS_len]
        have := shortL_len ((tl x).take j)
        rw [List.length_take] at this
        omega
      · exact short_rdc hx
      · show (mkS (shortL (tl x))).length ≤ 61
        rw [mkS_len]
        have := shortL_len (tl x)
        omega
      · omega
      · rw [upd_ne hb, upd_ne hb]
        exact f2 _ _ (s1 _ _ e) (ne_of_none (s1 _ _ e) nd)
end
end Sf
namespace Sf
open PySem PySem.Spec PyProof.Rows L2 TL
section
variable {P : Program} {w : World} {K : PySem.W.Frag} {mg : Str → Option Value} {base : Heap} {C : Addr}
/-! ### moved -/
def spMoved : Sp := fun vs H Q _ => ∃ (e : Str) (d : Addr) (ks : List Str) (B : Nat), vs = [.str e, .ref d] ∧ H d = some (.dK (dOf ks)) ∧ Rdc e ∧ ks.Nodup ∧ (∀ s ∈ ks, Rdc s ∧ s.length ≤ B) ∧ e.length + B ≤ 100000 ∧ ks.length ≤ 100000 ∧
  ∀ (d' : Addr) (H' : Hp), H d' = none → Same H H' → H' d' = some (.dK (dOf (ks.map (gluT e)))) → Q (.ref d') H'
abbrev HasMoved (P : Program) (w : World) (K : PySem.W.Frag) (mg : Str → Option Value) (base : Heap) : Prop := Has P w K mg base 2 "moved" ["start", "spots"] spMoved
theorem sc_moved : FnScope ["start", "spots", "spot"] ["start", "spots"] (defScope s_moved) := ⟨rfl, rfl, rfl, by decide +kernel, rfl, by decide +kernel, by decide +kernel⟩
theorem has_moved (F : FnAt K mg "moved" s_moved ["start", "spots"]) (hG : HasGlued P w K mg base) : HasMoved P w K mg base := F.has fun F => by
  obtain ⟨fG, fdG, gG, kG, bG, GG⟩ := hG
  refine F.ok sc_moved (fun vs H Q E h => ?_) (fun cdv A outer s H vs Q E hr h => ?_)
  · obtain ⟨e, d, ks, B, rfl, _⟩ := h
    rfl
  · obtain ⟨e, d, ks, B, rfl, hd, he, hn, hrd, hB, hkl, q⟩ := h
    refine ⟨_, pss_one (ps_ret (pe_lock (pe_dc (own := [("spot", 2)]) (g := gName 2) (tt := tYes) (by rfl) sc_moved.nd (pi_keys (pv 1))
      (blkOk_by (own := [("spot", 2)]) (N := ["start", "spots", "spot"]) (sc := defScope s_moved) (by decide +kernel)) (fun _ _ _ _ _ => pg_name (i := 2) sc_moved.nd rfl (.inl rfl)) (fun _ _ _ _ _ => pts_nil)
      (fun _ _ _ _ _ => pe_call GG hr (by rfl) gG kG bG .nil pass0 (pa_cons (pv 0) (pa_cons (pv 2) pa_nil))) (fun _ _ _ _ _ => pe_bl)))), ?_⟩
    refine ⟨d, _, hd, True.intro, fun od => ⟨_, rfl, d, od, rfl, .inl ⟨dOf ks, upd_same, fun D nD => ?_⟩⟩⟩
    have ndD : D ≠ d := fun z => by
      rw [z, upd_same] at nD
      cases nD
    have nD0 : H D = none := by
      rw [upd_ne ndD] at nD
      exact nD
    have hnm := nodup_map_glu he (fun s hs => (hrd s hs).1) hn
    refine dc_gen (n := ks.length) (fun i H2 => (∀ a o, H a = some o → a ≠ d → H2 a = some o) ∧ H2 d = some (.frz od (.dK (dOf ks))) ∧ H2 D = some (.dK (dOf ((ks.take i).map (gluT e)))))
      ⟨fun a o h1 h2 => ?_, ?_, upd_same⟩ ?_ ?_ ?_ ?_
    · rw [upd_ne (ne_of_none h1 nD0), upd_ne h2]
      exact h1
    · rw [upd_ne ndD.symm, upd_same]
    · rintro i H2 hi ⟨f2, h2, h3⟩
      exact ⟨h2, by rw [dOf_len]; exact hi⟩
    · rintro H2 ⟨f2, h2, h3⟩
      exact ⟨h2, by rw [dOf_len]; exact Nat.le_refl _⟩
    · rintro i v H2 H3 hi ⟨f2, h2, h3⟩ ⟨rfl, k, v', hk, rfl⟩
      have hks : ks[i]? = some ks[i] := List.getElem?_eq_getElem hi
      have ek : k = Sum.inr ks[i] := by
        unfold dOf at hk
        rw [List.getElem?_map, hks] at hk
        exact (Prod.mk.inj (Option.some.inj hk)).1.symm
      subst ek
      obtain ⟨r1, r2⟩ := hrd _ (List.getElem_mem hi)
      refine ⟨rfl, yes_if ?_⟩
      refine ⟨_, rfl, _, rfl, e, ks[i], rfl, he.1, r1.1, by omega, _, Sum.inr (gluT e ks[i]), rfl, h3, ?_, fun a o h1 hne => ?_, ?_, ?_⟩
      · rw [dOf_len, List.length_map, List.length_take]
        exact lineLt_of (Nat.le_trans (Nat.min_le_right _ _) hkl)
      · rw [upd_ne (ne_of_none h1 nD0)]
        exact f2 a o h1 hne
      · rw [upd_ne ndD.symm]
        exact h2
      · rw [upd_same, put_dOf]
        have hnot : gluT e ks[i] ∉ (ks.take i).map (gluT e) := by
          have h5 : ks.map (gluT e) = (ks.take i).map (gluT e) ++ gluT e ks[i] :: (ks.drop (i + 1)).map (gluT e) := by
            rw [← List.map_cons, ← List.map_append, ← List.drop_eq_getElem_cons hi, List.take_append_drop]
          rw [h5, List.nodup_append] at hnm
          intro hm
          exact hnm.2.2 _ hm _ (List.mem_cons_self ..) rfl
        unfold addS
        rw [if_neg hnot, List.take_add_one, hks, List.map_append]
        rfl
    · rintro H2 ⟨f2, h2, h3⟩
      refine ⟨h2, ?_⟩
      rw [List.take_length] at h3
      refine q D _ nD0 (fun a o h1 => ?_) (by rw [upd_ne ndD]; exact h3)
      by_cases had : a = d
      · rw [had, upd_same, ← hd, ← had]
        exact h1
      · rw [upd_ne had]
        exact f2 a o h1 had
/-! ### track_of -/
def spTrackOf (C : Addr) : Sp := fun vs H Q _ => ∃ (d : Addr) (ks : List Str) (e : Str) (S : Str → Prop) (B : Nat), vs = [.ref d, .str e] ∧ H d = some (.dK (dOf ks)) ∧ Spots ks S e B ∧
  ∀ (p : Addr) (H' : Hp), H p = none → Same H H' → Trk C H' p S e B → Q (.ref p) H'
abbrev HasTrackOf (P : Program) (w : World) (K : PySem.W.Frag) (mg : Str → Option Value) (base : Heap) (C : Addr) : Prop := Has P w K mg base 5 "track_of" ["spots", "last"] (spTrackOf C)
theorem sc_trackof : FnScope ["spots", "last", "track"] ["spots", "last"] (defScope s_track_of) := ⟨rfl, rfl, rfl, by decide +kernel, rfl, by decide +kernel, by decide +kernel⟩
theorem has_trackof (F : FnAt K mg "track_of" s_track_of ["spots", "last"]) (T : TC K mg C) (mk : PySem.W.makesIn K C = true) (kc : PySem.W.keepIn K (.ref C) = true) (hI : HasM P w K mg base C 3 "__init__" ["self", "word"] (spInit C)) : HasTrackOf P w K mg base C := F.has fun F => by
  obtain ⟨fI, fdI, mI, bI, GI⟩ := hI
  refine F.ok sc_trackof (fun vs H Q E h => ?_) (fun cdv A outer s H vs Q E hr h => ?_)
  · obtain ⟨d, ks, e, S, B, rfl, _⟩ := h
    rfl
  · obtain ⟨d, ks, e, S, B, rfl, hd, hS, q⟩ := h
    have MI : Mk K C fI := ⟨mk, mI.at_, mI.fn, kc⟩
    refine ⟨_, pss_cons (ps_set (i := 2) sc_trackof.nd rfl (.inl rfl) (pe_make MI GI hr (by rfl) T.mgC bI .nil pass0 (pa_cons pe_str pa_nil)))
      (pss_cons (ps_fld (pv 2) (pv 0) rfl) (pss_cons (ps_fld (pv 2) (pv 1) rfl) (pss_one (ps_ret (pv 2))))), ?_⟩
    intro x dx nx ndx nex
    refine ⟨x, dx, _, rfl, upd_same, wd_nil, (by decide +kernel), fun H1 t1 k1 => ⟨rfl, ?_⟩⟩
    have s1 : Same H H1 := Same.made nx ndx k1
    obtain ⟨dx1, d1, ks1, h1, h2, h3⟩ := t1
    have hd1 : H1 d = some (.dK (dOf ks)) := s1 _ _ hd
    have ndx1 : d ≠ x := ne_of hd1 h1 (by intro q; cases q)
    refine ⟨_, rfl, _, rfl, x, C, dx1, _, rfl, h1, T.cl, T.nP, (by rw [tf_len]; decide), ?_⟩
    rw [tf_putP]
    refine ⟨_, rfl, _, rfl, x, C, dx1, _, rfl, upd_same, T.cl, T.nL, (by rw [tf_len]; decide), ?_⟩
    rw [tf_putL, upd_upd]
    refine ⟨_, rfl, q x _ nx (fun b o e1 => ?_) ⟨dx1, d, ks, upd_same, by rw [upd_ne ndx1]; exact hd1, hS⟩⟩
    rw [upd_ne (ne_of_none e1 nx)]
    exact s1 _ _ e1
end
end Sf
namespace Sf
open PySem PySem.Spec PyProof.Rows L2 TL
section
variable {P : Program} {w : World} {K : PySem.W.Frag} {mg : Str → Option Value} {base : Heap} {C : Addr}
/-! ### joined, back -/
def joinS (S T : Str → Prop) (e : Str) : Str → Prop := fun s => S s ∨ ∃ t, T t ∧ s = gluT e t
def backS (S : Str → Prop) (e : Str) : Str → Prop := fun s => ∃ t, S t ∧ s = gluT (backT e) t
def spJoined (C : Addr) : Sp := fun vs H Q _ => ∃ (a b : Addr) (S T : Str → Prop) (e f : Str) (A B : Nat), vs = [.ref a, .ref b] ∧ Trk C H a S e A ∧ Trk C H b T f B ∧ A + B ≤ 50000 ∧
  ∀ (p : Addr) (H' : Hp), H p = none → Same H H' → Trk C H' p (joinS S T e) (gluT e f) (A + B) → Q (.ref p) H'
theorem sc_joined : FnScope ["self", "other", "beyond"] ["self", "other"] (defScope s_Track_joined) := ⟨rfl, rfl, rfl, by decide +kernel, rfl, by decide +kernel, by decide +kernel⟩
theorem has_joined (F : MAt K C "joined" "Track.joined" s_Track_joined ["self", "other"]) (T : TC K mg C) (hM : HasMoved P w K mg base) (hT : HasTrackOf P w K mg base C) (hG : HasGlued P w K mg base) : HasM P w K mg base C 6 "joined" ["self", "other"] (spJoined C) := F.has fun F => by
  obtain ⟨fM, fdM, gM, kM, bM, GM⟩ := hM
  obtain ⟨fT, fdT, gT, kT, bT, GT⟩ := hT
  obtain ⟨fG, fdG, gG, kG, bG, GG⟩ := hG
  refine F.ok sc_joined (fun vs H Q E h => ?_) (fun cdv A outer s H vs Q E hr h => ?_)
  · obtain ⟨a, b, S, T', e, f, A, B, rfl, _⟩ := h
    rfl
  · obtain ⟨a, b, S, T', e, f, A1, B1, rfl, ⟨dx, d, ks, ha, hd, hS⟩, ⟨dy, d2, ms, hb, hd2, hS2⟩, hAB, q⟩ := h
    refine ⟨_, pss_cons (ps_set (i := 2) sc_joined.nd rfl (.inl rfl) (pe_call GM (hr.mono (by decide)) (by rfl) gM kM bM .nil pass0 (pa_cons (pe_fld (pv 0) rfl) (pa_cons (pe_fld (pv 1) rfl) pa_nil))))
      (pss_one (ps_ret (pe_call GT hr (by rfl) gT kT bT .nil pass0 (pa_cons (pe_merge2 (pe_fld (pv 0) rfl) (pv 2)) (pa_cons (pe_call GG (hr.mono (by decide)) (by rfl) gG kG bG .nil pass0 (pa_cons (pe_fld (pv 0) rfl) (pa_cons (pe_fld (pv 1) rfl) pa_nil))) pa_nil))))), ?_⟩
    have k1 := hS.many
    have k2 := hS2.many
    have l1 := hS.le
    have l2 := hS2.le
    refine ⟨_, rfl, a, C, dx, _, _, rfl, ha, T.cl, T.nL, tf_last _ _, _, rfl, b, C, dy, _, _, rfl, hb, T.cl, T.nP, tf_passed _ _, e, d2, ms, B1, rfl, hd2, hS.re, hS2.nd, fun s hs => ⟨hS2.rd s ((hS2.mem s).mp hs), hS2.ln s ((hS2.mem s).mp hs)⟩, by omega, by omega, fun d3 H1 nd3 s1 hd3 => ?_⟩
    have ha1 := s1 _ _ ha
    have hb1 := s1 _ _ hb
    have hd1 := s1 _ _ hd
    refine fun p np => ?_
    have nap : a ≠ p := ne_of_none ha1 np
    have nbp : b ≠ p := ne_of_none hb1 np
    have ndp : d ≠ p := ne_of_none hd1 np
    have nd3p : d3 ≠ p := ne_of_none hd3 np
    refine ⟨_, rfl, a, C, dx, _, _, rfl, by rw [upd_ne nap]; exact ha1, T.cl, T.nP, tf_passed _ _, d, dOf ks, rfl, ndp, by rw [upd_ne ndp]; exact hd1, upd_same, by rw [dOf_len]; exact line_of (by omega), ?_⟩
    rw [upd_upd]
    have e1 : mergeV [] (dOf ks) = dOf (uni [] ks) := merge_dOf [] ks
    rw [e1]
    have u1 := uni_len ks []
    rw [List.length_nil] at u1
    refine ⟨_, rfl, d3, _, rfl, nd3p, by rw [upd_ne nd3p]; exact hd3, upd_same, by rw [dOf_len, dOf_len, List.length_map]; exact line_of (by omega), ?_⟩
    rw [upd_upd, merge_dOf]
    have u2 := uni_len (ms.map (gluT e)) (uni [] ks)
    rw [List.length_map] at u2
    have sp : Same H1 (upd H1 p (.dK (dOf (uni (uni [] ks) (ms.map (gluT e)))))) := same_upd np
    refine ⟨_, rfl, a, C, dx, _, _, rfl, sp _ _ ha1, T.cl, T.nL, tf_last _ _, _, rfl, b, C, dy, _, _, rfl, sp _ _ hb1, T.cl, T.nL, tf_last _ _, e, f, rfl, hS.re.1, hS2.re.1, by omega, ?_⟩
    refine ⟨p, uni (uni [] ks) (ms.map (gluT e)), gluT e f, joinS S T' e, A1 + B1, rfl, upd_same, ⟨uni_nodup (uni_nodup List.nodup_nil), fun s => ?_, ?_, ?_, glu_rdc hS.re hS2.re, Nat.le_trans (gluT_len e f) (by omega), by omega⟩, fun p2 H2 np2 s2 t2 => ?_⟩
    · rw [uni_mem, uni_mem, List.mem_map, hS.mem]
      constructor
      · rintro ((z | z) | ⟨t, ht, rfl⟩)
        · cases z
        · exact .inl z
        · exact .inr ⟨t, (hS2.mem t).mp ht, rfl⟩
      · rintro (z | ⟨t, ht, rfl⟩)
        · exact .inl (.inr z)
        · exact .inr ⟨t, (hS2.mem t).mpr ht, rfl⟩
    · rintro s (z | ⟨t, ht, rfl⟩)
      · exact hS.rd s z
      · exact glu_rdc hS.re (hS2.rd t ht)
    · rintro s (z | ⟨t, ht, rfl⟩)
      · exact Nat.le_trans (hS.ln s z) (by omega)
      · have := hS2.ln t ht
        exact Nat.le_trans (gluT_len e t) (by omega)
    · exact q p2 H2 ((s1.trans sp).free np2) ((s1.trans sp).trans s2) t2
def spBackM (C : Addr) : Sp := fun vs H Q _ => ∃ (a : Addr) (S : Str → Prop) (e : Str) (A : Nat), vs = [.ref a] ∧ Trk C H a S e A ∧ A ≤ 25000 ∧
  ∀ (p : Addr) (H' : Hp), H p = none → Same H H' → Trk C H' p (backS S e) (backT e) (A + A) → Q (.ref p) H'
theorem sc_backM : FnScope ["self", "home"] ["self"] (defScope s_Track_back) := ⟨rfl, rfl, rfl, by decide +kernel, rfl, by decide +kernel, by decide +kernel⟩
theorem has_backM (F : MAt K C "back" "Track.back" s_Track_back ["self"]) (T : TC K mg C) (hM : HasMoved P w K mg base) (hT : HasTrackOf P w K mg base C) (hU : HasTurned P w K mg base) : HasM P w K mg base C 6 "back" ["self"] (spBackM C) := F.has fun F => by
  obtain ⟨fM, fdM, gM, kM, bM, GM⟩ := hM
  obtain ⟨fT, fdT, gT, kT, bT, GT⟩ := hT
  obtain ⟨fU, fdU, gU, kU, bU, GU⟩ := hU
  refine F.ok sc_backM (fun vs H Q E h => ?_) (fun cdv A outer s H vs Q E hr h => ?_)
  · obtain ⟨a, S, e, A, rfl, _⟩ := h
    rfl
  · obtain ⟨a, S, e, A1, rfl, ⟨dx, d, ks, ha, hd, hS⟩, hA, q⟩ := h
    refine ⟨_, pss_cons (ps_set (i := 1) sc_backM.nd rfl (.inl rfl) (pe_call GU (hr.mono (by decide)) (by rfl) gU kU bU .nil pass0 (pa_cons (pe_fld (pv 0) rfl) pa_nil)))
      (pss_one (ps_ret (pe_call GT hr (by rfl) gT kT bT .nil pass0 (pa_cons (pe_call GM (hr.mono (by decide)) (by rfl) gM kM bM .nil pass0 (pa_cons (pv 1) (pa_cons (pe_fld (pv 0) rfl) pa_nil))) (pa_cons (pv 1) pa_nil))))), ?_⟩
    have k1 := hS.many
    have l1 := hS.le
    have lb := backT_len e
    refine ⟨_, rfl, a, C, dx, _, _, rfl, ha, T.cl, T.nL, tf_last _ _, e, rfl, hS.re.1, by omega, ?_⟩
    refine ⟨_, rfl, _, rfl, a, C, dx, _, _, rfl, ha, T.cl, T.nP, tf_passed _ _, backT e, d, ks, A1, rfl, hd, back_rdc hS.re, hS.nd, fun s hs => ⟨hS.rd s ((hS.mem s).mp hs), hS.ln s ((hS.mem s).mp hs)⟩, by omega, by omega, fun d3 H1 nd3 s1 hd3 => ?_⟩
    refine ⟨_, rfl, d3, ks.map (gluT (backT e)), backT e, backS S e, A1 + A1, rfl, hd3, ⟨nodup_map_glu (back_rdc hS.re) (fun s hs => hS.rd s ((hS.mem s).mp hs)) hS.nd, fun s => ?_, ?_, ?_, back_rdc hS.re, by omega, by rw [List.length_map]; omega⟩, fun p2 H2 np2 s2 t2 => ?_⟩
    · rw [List.mem_map]
      constructor
      · rintro ⟨t, ht, rfl⟩
        exact ⟨t, (hS.mem t).mp ht, rfl⟩
      · rintro ⟨t, ht, rfl⟩
        exact ⟨t, (hS.mem t).mpr ht, rfl⟩
    · rintro s ⟨t, ht, rfl⟩
      exact glu_rdc (back_rdc hS.re) (hS.rd t ht)
    · rintro s ⟨t, ht, rfl⟩
      have := hS.ln t ht
      exact Nat.le_trans (gluT_len _ t) (by omega)
    · exact q p2 H2 (s1.free np2) (s1.trans s2) t2
end
end Sf
namespace Sf
open PySem PySem.Spec PyProof.Rows L2 TL
section
variable {P : Program} {w : World} {K : PySem.W.Frag} {mg : Str → Option Value} {base : Heap} {C : Addr}
def spEnd (C : Addr) : Sp := fun vs H Q _ => ∃ (a : Addr) (S : Str → Prop) (e : Str) (A : Nat), vs = [.ref a] ∧ Trk C H a S e A ∧ Q (.str e) H
theorem sc_end : FnScope ["self"] ["self"] (defScope s_Track_end) := ⟨rfl, rfl, rfl, by decide +kernel, rfl, by decide +kernel, by decide +kernel⟩
theorem has_end (F : MAt K C "end" "Track.end" s_Track_end ["self"]) (T : TC K mg C) : HasM P w K mg base C 1 "end" ["self"] (spEnd C) := F.has fun F => by
  refine F.ok sc_end (fun vs H Q E h => ?_) (fun cdv A outer s H vs Q E hr h => ?_)
  · obtain ⟨a, S, e, A, rfl, _⟩ := h
    rfl
  · obtain ⟨a, S, e, A1, rfl, ⟨dx, d, ks, ha, hd, hS⟩, q⟩ := h
    exact ⟨_, pss_one (ps_ret (pe_fld (pv 0) rfl)), _, rfl, a, C, dx, _, _, rfl, ha, T.cl, T.nL, tf_last _ _, q⟩
end
end Sf
namespace Sf
open PySem PySem.Spec PyProof.Rows L2 TL
section
variable {P : Program} {w : World} {K : PySem.W.Frag} {mg : Str → Option Value} {base : Heap} {C : Addr}
def spEqT (C : Addr) : Sp := fun vs H Q _ => ∃ (a b : Addr) (S S' : Str → Prop) (e : Str) (A B : Nat), vs = [.ref a, .ref b] ∧ Trk C H a S e A ∧ Trk C H b S' e B ∧ (∀ s, S s ↔ S' s) ∧ Q (.bl true) H
theorem sc_eq : FnScope ["self", "other"] ["self", "other"] (defScope s_Track___eq__) := ⟨rfl, rfl, rfl, by decide +kernel, rfl, by decide +kernel, by decide +kernel⟩
theorem has_eq (F : MAt K C "__eq__" "Track.__eq__" s_Track___eq__ ["self", "other"]) (T : TC K mg C) (B : Blt mg) : HasM P w K mg base C 1 "__eq__" ["self", "other"] (spEqT C) := F.has fun F => by
  refine F.ok sc_eq (fun vs H Q E h => ?_) (fun cdv A outer s H vs Q E hr h => ?_)
  · obtain ⟨a, b, S, S', e, A, B, rfl, _⟩ := h
    rfl
  · obtain ⟨a, b, S, S', e, A1, B1, rfl, ⟨dx, d, ks, ha, hd, hS⟩, ⟨dy, d2, ms, hb, hd2, hS2⟩, hSS, q⟩ := h
    refine ⟨_, pss_one (ps_ret (pe_and (pe_callB call_isi (by rfl) B.isinstance (by decide +kernel) (pa_cons (pv 1) (pa_cons (pe_glob (v := .ref C) (by rfl) T.mgC rfl) pa_nil)))
      (pe_and (pe_cmpR (op_eq_dictA hr.units0) (pe_fld (pv 0) rfl) (pe_fld (pv 1) rfl) (nomark _)) (pe_one (pe_cmpR op_eq (pe_fld (pv 0) rfl) (pe_fld (pv 1) rfl) (nomark _)))))), ?_⟩
    have hsame : ∀ s, s ∈ ks ↔ s ∈ ms := fun s => (hS.mem s).trans ((hSS s).trans (hS2.mem s).symm)
    refine ⟨_, rfl, _, _, _, _, true, rfl, .own C, .base (.ins hb T.cl T.ha T.hn T.htk T.hm), kit_self, true, rfl, iteT ?_⟩
    refine ⟨_, rfl, a, C, dx, _, _, rfl, ha, T.cl, T.nP, tf_passed _ _, _, rfl, b, C, dy, _, _, rfl, hb, T.cl, T.nP, tf_passed _ _, d, d2, _, _, rfl, rfl, hd, hd2, by rw [dOf_len, dOf_len]; exact nodup_len hS.nd hS2.nd hsame, fun p hp => ?_, true, rfl, iteT ?_⟩
    · obtain ⟨s, hs, rfl⟩ := List.mem_map.mp hp
      exact ⟨val_dOf ((hsame s).mp hs), rfl⟩
    · refine ⟨_, rfl, a, C, dx, _, _, rfl, ha, T.cl, T.nL, tf_last _ _, _, rfl, b, C, dy, _, _, rfl, hb, T.cl, T.nL, tf_last _ _, rfl, ?_⟩
      rw [decide_eq_true rfl]
      exact q
end
end Sf
namespace Sf
open PySem PySem.Spec PyProof.Rows L2 TL
/-! ### sorted of data, and of a dict's keys by key=, a def that keeps its promise -/
section
variable {X : Cx} {pins : List (Addr × Obj)} {σ : L2.St} {H : Hp} {s : Shared}
theorem each_vals {β : Type} {vof : β → V} : ∀ {us : List Value} {bs : List β}, PySem.W.EachIs (fun u b => RelV (vof b) u) us bs → Vals (bs.map vof) us
  | _, _, .nil => .nil
  | _, _, .cons h t => .cons h (each_vals t)
theorem vals_each {β : Type} {vof : β → V} : ∀ {us : List Value} {bs : List β}, Vals (bs.map vof) us → PySem.W.EachIs (fun u b => RelV (vof b) u) us bs
  | [], [], _ => .nil
  | u :: us, b :: bs, h => by
    rw [List.map_cons] at h
    cases h with
    | cons h1 h2 => exact .cons h1 (vals_each h2)
  | [], b :: bs, h => by
    rw [List.map_cons] at h
    cases h
  | u :: us, [], h => by
    rw [List.map_nil] at h
    cases h
/-- sorted(l) of data -/
theorem call_sortedData {β : Type} (vof : β → V) (enc : β → PyData) (hu : X.A.units + 64 < cLine) : CallR X (.builtin "sorted") (fun xs H Q => ∃ (a : Addr) (bs : List β), xs = [.ref a] ∧ SqL X.K H a (bs.map vof) ∧ (∀ b ∈ bs, Dp X.K H (vof b) (enc b)) ∧
    PySem.W.AllAlike (bs.map enc) ∧ PySem.W.Sortable (bs.map enc) ∧ (∀ b ∈ bs, (enc b).depth ≤ 60) ∧ ∀ p, H p = none → Q (.ref p) (upd H p (.lst ((bs.mergeSort (PySem.W.dataLe false enc)).map vof)))) := by
  intro pins s σ H xs us Q I r h
  obtain ⟨a, bs, rfl, hs, hdp, hal, hso, hdep, q⟩ := h
  rw [Vals.ref1 r]
  obtain ⟨its, rv, hl, hz⟩ := I.list hs
  have hz' := hz
  rw [List.length_map] at hz'
  have e := vals_each rv
  have er : PySem.W.EachIs (fun v b => ∃ as, Reads s.heap v (enc b) as) its bs := (PySem.W.each_mem e).mono fun v b hb => Dp.reads I (enc b) (vof b) v (hdp b hb.2) hb.1
  refine PySem.W.sorted_data hl.isList e er hal hso hz' (fun b hb => by have := hdep b hb; omega) fun out ho eo => ?_
  obtain ⟨ep, he'⟩ := PyProof.Rows.sortedAll_at s.heap its out.toArray
  have rv' := each_vals eo
  have hlen : ((bs.mergeSort (PySem.W.dataLe false enc)).map vof).length ≤ sizeLine := by
    rw [List.length_map, List.length_mergeSort]
    exact hz'
  exact ⟨.ref _, upd H (s.heap.objs.size + 1) (.lst ((bs.mergeSort (PySem.W.dataLe false enc)).map vof)), I.laid (t' := s.toks) (fun _ _ => PyProof.Rows.sortedAll_old) (Nat.le_succ _) ⟨hlen, out, ep, rv', he'⟩, rfl, q _ (I.hok.fresh (Nat.le_succ _))⟩
/-! what was new when the call began -/
structure Newly (X : Cx) (pins : List (Addr × Obj)) (b : Addr) : Prop where
  s0 : X.s_0.heap.objs.size ≤ b
  loc : b ≠ X.env.locals
  cl : ∀ x c, X.env.cells.lookup x = some c → c ≠ b
  fs : b ∉ X.fs
  pn : ∀ p ∈ X.pn ++ pins, p.1 ≠ b
theorem newly_of {b : Addr} (I : Inv X pins σ H s) (h : s.heap.objs.size ≤ b) : Newly X pins b :=
  ⟨Nat.le_trans I.sz h, fun e => absurd (Nat.lt_of_lt_of_le I.lt h) (by rw [e]; exact Nat.lt_irrefl _), fun x c e z => by
    obtain ⟨v, o, ho, _⟩ := I.cell x c e
    rw [z] at ho
    exact absurd (Nat.lt_of_lt_of_le (Heap.lt_size ho) h) (Nat.lt_irrefl _), I.nofs h, fun p hp z => by
    have ho := (I.pin p hp).1
    rw [z] at ho
    exact absurd (Nat.lt_of_lt_of_le (Heap.lt_size ho) h) (Nat.lt_irrefl _)⟩
theorem pin_more {b : Addr} {o : Obj} (I : Inv X pins σ H s) (N : Newly X pins b) (hb : s.heap.get? b = some o) (hn : H b = none) (hc : ∀ v, o.data ≠ .cell v) : Inv X ((b, o) :: pins) σ H s := I.pins_of fun p hp => by
  rcases List.mem_cons.mp hp with rfl | hp
  · exact ⟨hb, hn, N.loc, N.fs, hc⟩
  · exact I.pin p (List.mem_append_right _ hp)
theorem pin_less {p : Addr × Obj} (I : Inv X (p :: pins) σ H s) : Inv X pins σ H s := I.pins_of fun q hq => I.pin q (List.mem_append_right _ (List.mem_cons_of_mem _ hq))
theorem turn_one {b : Addr} {h' : Heap} {t' : Nat} (I : Inv X pins σ H s) (N : Newly X pins b) (hn : H b = none) (k : ∀ c o, c ≠ b → s.heap.get? c = some o → h'.get? c = some o) : Inv X pins σ H { s with heap := h', toks := t' } :=
  I.turned k hn N.loc (.inr N.s0) N.cl N.pn
/-- two records of ours have changed, the one at a is tracked from now on -/
theorem take_in {a b : Addr} {o : HO} {h' : Heap} {t' : Nat} (I : Inv X pins σ H s) (Na : Newly X pins a) (Nb : Newly X pins b) (na : H a = none) (nb : H b = none) (k : ∀ c o, c ≠ a → c ≠ b → s.heap.get? c = some o → h'.get? c = some o)
    (new : ObjOk X.prog X.w (upd H a o) h' a o) : Inv X pins σ (upd H a o) { s with heap := h', toks := t' } := by
  have nea : ∀ c u, H c = some u → c ≠ a := fun c u e => ne_of_none e na
  have neb : ∀ c u, H c = some u → c ≠ b := fun c u e => ne_of_none e nb
  have out : ∀ c, c ∉ [a, b] → c ≠ a ∧ c ≠ b := fun c hc => ⟨fun z => hc (by simp [z]), fun z => hc (by simp [z])⟩
  refine I.step (g' := s.gens) (d' := s.drawn) (ch := [a, b]) (fun c hc => ?_) (fun c o _ _ hc e _ => k c o (out c hc).1 (out c hc).2 e) (fun c o _ _ hc e _ => ⟨o.slots, k c o (out c hc).1 (out c hc).2 e⟩) (fun c _ hc _ n => by rw [upd_ne (out c hc).1]; exact n)
    (fun c o hc e => ⟨o, k c o (out c hc).1 (out c hc).2 e⟩) (fun c _ e => by rw [upd_ne (nea c _ e)]; exact e) (fun c _ _ e => by rw [upd_ne (nea c _ e)]; exact e) (fun c ps e => ⟨#[], by rw [upd_ne (nea c _ e), e]; simp⟩) (fun m hm => ?_) (fun c u e => ?_) I.bare
  · rcases List.mem_cons.mp hc with rfl | hc
    · exact ⟨.inr Na.s0, Na.loc, Na.cl, Na.pn⟩
    · obtain rfl := List.mem_singleton.mp hc
      exact ⟨.inr Nb.s0, Nb.loc, Nb.cl, Nb.pn⟩
  · obtain ⟨o, es, ep, ho, r⟩ := hm
    exact ⟨o, es, ep, k _ o (Ne.symm Na.loc) (Ne.symm Nb.loc) ho, r⟩
  · by_cases hca : c = a
    · subst hca
      rw [upd_same] at e
      cases e
      exact new
    · rw [upd_ne hca] at e
      refine (I.hok c u e).stay (fun d v hd q => ?_) (fun d q => by rw [upd_ne (nea d _ q)]; exact q) fun d xs q => by rw [upd_ne (nea d _ q)]; exact q
      rcases hd with z | z
      · rw [z] at q ⊢
        exact k c v hca (neb c u e) q
      · exact k d v (nea d _ z) (neb d _ z) q
end
section
variable {X : Cx} {pins : List (Addr × Obj)} {σ : L2.St} {H : Hp} {s : Shared} {k : Nat} {f : Addr} {fd : FuncData} {ps : List Str} {sp : Sp}
theorem seq_cell {T : String} {xs : Array Value} {n : Nat} : ∀ v, (seqObj T xs n).data ≠ .cell v := fun v z => by cases z
/-- a key that stays -/
def KeyAt (K : PySem.W.Frag) (H : Hp) (v : V) (d : PyData) : Prop := ∀ H', Same H H' → Dp K H' v d
theorem keys_go {a kS : Addr} {e1 : Nat} {vs : List Value} {xs : List Str} {A : Around} {E : Value → Shared → Prop} {R : PySem.Fin → Shared → Prop} (κ : Str → PyData) (F : FnOk X.prog X.w X.K X.mg X.base CX0 k f fd ps sp) (hb : Binds X.K fd ps []) (hr : Room k A)
    (hA : ∀ {pins : List (Addr × Obj)} {H : Hp} {s : Shared}, Inv X pins σ H s → Env0 X.prog X.w X.K X.mg X.base A X.stack s H) (I : Inv X pins σ H s) (Na : Newly X pins a) (Nk : Newly X pins kS) (hak : a ≠ kS)
    (ok : s.heap.get? kS = some (seqObj "list" #[] 0)) (oa : s.heap.get? a = some (seqObj "list" #[] e1)) (na : H a = none) (nk : H kS = none)
    (hv : PySem.W.EachIs (fun u x => RelV (V.str x) u) vs xs) (hZ : vs.length ≤ sizeLine) (hal : PySem.W.AllAlike (xs.map κ)) (hso : PySem.W.Sortable (xs.map κ)) (hu : ∀ x ∈ xs, A.units + (κ x).depth < cLine)
    (hsp : ∀ x ∈ xs, ∀ (H1 : Hp) (Q : VK), (∀ v H2, Same H1 H2 → KeyAt X.K H2 v (κ x) → Q v H2) → sp [.str x] H1 Q E0)
    (h : ∀ (s' : Shared) (H' : Hp), Same H H' → H' a = some (.lst ((xs.mergeSort (PySem.W.dataLe false κ)).map V.str)) → Inv X pins σ H' s' → R (.done (.ret .none)) s') :
    wpAny (model X.prog X.w) A (ksk_rest a (.ref f) false vs.toArray e1 (.ref kS)) R E s := by
  have hlen : xs.length = vs.length := hv.length.symm
  unfold ksk_rest
  refine wpAny_bind (wpAny_rule ?_)
  first
    | rw [List.forIn_toArray]
    | (rw [← Array.forIn_toList]; simp only [List.toList_toArray])
  refine wpAny_bind (ksk_fold (fun i s1 => ∃ (H1 : Hp) (ks : List V) (kA : Array Value) (e : Nat), Inv X ((kS, seqObj "list" kA e) :: (a, seqObj "list" #[] e1) :: pins) σ H1 s1 ∧ Same H H1 ∧ Vals ks kA.toList ∧ ks.length = i ∧ ∀ (j : Nat) (v : V) (x : Str), ks[j]? = some v → xs[j]? = some x → KeyAt X.K H1 v (κ x)) vs 0 s
    ⟨H, [], #[], 0, ?start, Same.refl _, .nil, rfl, fun j v x z => by simp at z⟩ ?turn ?fin)
  case start =>
    have I1 := pin_more I Na oa na seq_cell
    exact pin_more I1 ⟨Nk.s0, Nk.loc, Nk.cl, Nk.fs, fun p hp => by
      rcases List.mem_append.mp hp with z | z
      · exact Nk.pn p (List.mem_append_left _ z)
      · rcases List.mem_cons.mp z with rfl | z
        · exact hak
        · exact Nk.pn p (List.mem_append_right _ z)⟩ ok nk seq_cell
  case turn =>
    rintro j u s1 hj ⟨H1, ks, kA, e, I1, s01, rk, hk, kx⟩
    simp only [Nat.zero_add] at hk ⊢
    have hjl : j < vs.length := (List.getElem?_eq_some_iff.mp hj).1
    obtain ⟨x, hx⟩ : ∃ x, xs[j]? = some x := ⟨_, List.getElem?_eq_getElem (by omega)⟩
    have hz : (u, x) ∈ vs.zip xs := List.mem_of_getElem? (i := j) (by rw [List.getElem?_zip_eq_some]; exact ⟨hj, hx⟩)
    have ru : RelV (V.str x) u := hv.zip _ hz
    have hxm : x ∈ xs := List.mem_of_getElem? hx
    refine wpAny_bind (wpAny_attempt (wpAny_mono (run_fnA (Er := fun _ _ => False) (vs := [V.str x]) F hr (hA I1) hb I1 (.cons ru .nil) (hsp x hxm H1 (fun v H2 => Same H1 H2 ∧ KeyAt X.K H2 v (κ x)) fun v H2 g1 g2 => ⟨g1, g2⟩)) (fun v2 s2 he => ?_) fun _ _ hF => hF.elim))
    obtain ⟨v, H2, I2, rv, s12, kv⟩ := he
    try dsimp only
    obtain ⟨ok2, nk2, _⟩ := I2.pin _ (List.mem_append_right _ (List.mem_cons_self ..))
    have hka : kA.size = j := by
      rw [← Array.length_toList, ← rk.length]
      exact hk
    obtain ⟨c2, hc2⟩ : ∃ c2, (s2.heap.update kS (Obj.mapSeq (·.push v2))).get? kS = some (seqObj "list" (kA.push v2) c2) := ⟨_, get?_update_seq ok2 (·.push v2)⟩
    have sb := Heap.SameBut.update s2.heap kS (Obj.mapSeq (·.push v2))
    refine wpAny_bind (listUpdate_at ok2 rfl ?_ (by rw [hka]; omega) (by rw [Array.size_push, hka]; omega))
    have I3 := pin_less I2
    have Nk3 : Newly X ((a, seqObj "list" #[] e1) :: pins) kS := ⟨Nk.s0, Nk.loc, Nk.cl, Nk.fs, fun p hp => by
      rcases List.mem_append.mp hp with z | z
      · exact Nk.pn p (List.mem_append_left _ z)
      · rcases List.mem_cons.mp z with rfl | z
        · exact hak
        · exact Nk.pn p (List.mem_append_right _ z)⟩
    have I4 : Inv X ((a, seqObj "list" #[] e1) :: pins) σ H2 { s2 with heap := s2.heap.update kS (Obj.mapSeq (·.push v2)), toks := s2.toks } := turn_one I3 Nk3 nk2 fun c o hc e => (sb.2 c hc).trans e
    refine wpAny_pure ⟨rfl, H2, ks ++ [v], kA.push v2, c2, pin_more I4 Nk3 hc2 nk2 seq_cell, s01.trans s12, ?_, by rw [List.length_append, hk]; rfl, fun i w y hw hy => ?_⟩
    · rw [Array.toList_push]
      exact rk.append (.cons rv .nil)
    · by_cases hij : i < j
      · rw [List.getElem?_append_left (by omega)] at hw
        exact fun H3 s3 => kx i w y hw hy H3 (s12.trans s3)
      · rw [List.getElem?_append_right (by omega)] at hw
        have h0 : i - ks.length = 0 := by
          have := (List.getElem?_eq_some_iff.mp hw).1
          rw [List.length_singleton] at this
          omega
        have hi : i = j := by omega
        rw [h0] at hw
        subst hi
        rw [hx] at hy
        cases hy
        have e9 : v = w := Option.some.inj hw
        rw [← e9]
        exact kv
  case fin =>
    rintro s1 ⟨H1, ks, kA, e, I1, s01, rk, hk, kx⟩
    rw [Nat.zero_add] at hk
    obtain ⟨ok1, nk1, _⟩ := I1.pin _ (List.mem_append_right _ (List.mem_cons_self ..))
    obtain ⟨oa1, na1, _⟩ := I1.pin _ (List.mem_append_right _ (List.mem_cons_of_mem _ (List.mem_cons_self ..)))
    have hsz : kA.size = vs.length := by
      rw [← Array.length_toList, ← rk.length]
      exact hk
    have hks : PySem.W.EachIs (fun u d => ∃ as, Reads s1.heap u d as) kA.toList (xs.map κ) := by
      have all : ∀ (ks : List V) (us : List Value) (zs : List Str), Vals ks us → ks.length = zs.length → (∀ (j : Nat) (v : V) (x : Str), ks[j]? = some v → zs[j]? = some x → KeyAt X.K H1 v (κ x)) → PySem.W.EachIs (fun u d => ∃ as, Reads s1.heap u d as) us (zs.map κ) := by
        intro ks us zs r
        induction r generalizing zs with
        | nil =>
          intro hl _
          cases zs with
          | nil => exact .nil
          | cons z zs => cases hl
        | cons r1 r2 ih =>
          intro hl hk
          cases zs with
          | nil => cases hl
          | cons z zs =>
            rw [List.map_cons]
            exact .cons (Dp.reads I1 _ _ _ (hk 0 _ z rfl rfl H1 (Same.refl _)) r1) (ih zs (by simpa using hl) fun j v x h1 h2 => hk (j + 1) v x (by simpa using h1) (by simpa using h2))
      exact all ks _ xs rk (by omega) kx
    have hud : ∀ d ∈ xs.map κ, A.units + d.depth < cLine := fun d hd => by
      obtain ⟨x, hx, rfl⟩ := List.mem_map.mp hd
      exact hu x hx
    try dsimp only
    refine wpAny_bind (listItems_at ok1 rfl ?_)
    refine PySem.W.keyH_end (κ := PySem.W.dataKind s1.heap (xs.map κ)) (h₁ := s1.heap.hide kS) (fun c o hc e => Heap.of_hide e) (Heap.hide_self _ _) ok1 oa1 (Ne.symm hak) (PySem.W.SortsAt.data hks hal hso hud) hsz hZ fun h3 tk3 c3 kp n3 => ?_
    have I2 := pin_less (pin_less I1)
    have eo := PySem.W.keyedOut_each (rev := false) κ ⟨s1.heap, kA.toList, hal, rfl, hks⟩ hv
    have hl3 : ((xs.mergeSort (PySem.W.dataLe false κ)).map V.str).length ≤ sizeLine := by
      rw [List.length_map, List.length_mergeSort, hlen]
      exact hZ
    refine h _ _ (fun b o hb => ?_) upd_same (take_in (t' := tk3) (o := .lst ((xs.mergeSort (PySem.W.dataLe false κ)).map V.str)) I2 Na Nk na1 nk1 (fun c o h1 h2 e => kp c o h1 (by rw [Heap.hide_ne _ h2]; exact e)) ⟨hl3, _, c3, each_vals (vof := V.str) eo, n3⟩)
    rw [upd_ne (ne_of_none hb na)]
    exact s01 b o hb
/-- sorted(d, key=f) of a dict whose keys are texts -/
theorem call_sortedDK (hcalm : X.calm = true) (κ : Str → PyData) (F : FnOk X.prog X.w X.K X.mg X.base CX0 k f fd ps sp) (hb : Binds X.K fd ps []) (hr : Room (k + 2) X.A) : CallRK X (.builtin "sorted") [Str.ofString "key"] (fun vs zs H Q => ∃ (a : Addr) (kvs : List (Key × V)) (xs : List Str), vs = [.ref a] ∧ zs = [.ref f] ∧ Rd H a (.dK kvs) ∧ kvs.map (·.1) = xs.map Sum.inr ∧
    PySem.W.AllAlike (xs.map κ) ∧ PySem.W.Sortable (xs.map κ) ∧ (∀ x ∈ xs, (κ x).depth ≤ 60) ∧ (∀ x ∈ xs, ∀ (H1 : Hp) (Q : VK), (∀ v H2, Same H1 H2 → KeyAt X.K H2 v (κ x) → Q v H2) → sp [.str x] H1 Q E0) ∧
    ∀ p H', H p = none → Same H H' → H' p = some (.lst ((xs.mergeSort (PySem.W.dataLe false κ)).map V.str)) → Q (.ref p) H') := by
  intro pins s σ H vs zs us ws Q I r rz q
  obtain ⟨a, kvs, xs, rfl, rfl, hd, hks, hal, hso, hdep, hsp, q⟩ := q
  obtain rfl := Vals.ref1 r
  obtain ⟨w1, rfl, e1⟩ := vals1 rz
  cases e1
  obtain ⟨z, lo, ds, rel, dd⟩ := dk_rd I.hok hd
  obtain ⟨ep, hat⟩ := dd.dictAt
  have hkeys : ds.map (·.1) = xs.map Sum.inr := rel.keys.symm.trans hks
  have hl : ds.length = xs.length := by
    have e := congrArg List.length hkeys
    rw [List.length_map, List.length_map] at e
    exact e
  have hz : ds.length ≤ sizeLine := by rw [← rel.length]; exact z
  show wpAny _ _ (call (.builtin "sorted") [.ref a] [(Str.ofString "key", .ref f)]) _ _ _
  refine call_function_entry_kw kind_sorted plain_sorted entry_sorted (ksk_s1 _ _) ?_
  unfold Builtin.«sorted»
  refine wpAny_bind (m := checkCount "sorted" 1 1 _) (wpAny_pure ?_)
  refine wpAny_bind (PySem.W.kdu_collect (A := X.A.in1) (PySem.W.kdl_dict (knd := mixKind X.prog X.w) (kvs := ds) (ep := ep) lo) (I.ok.hd hcalm) hat hz fun h1 tk acc hk1 hacc => ?_)
  have hsz : acc.toList.length = xs.length := by rw [Array.length_toList, hacc.1, hl]
  have hS : PySem.W.EachIs (fun u x => RelV (V.str x) u) acc.toList xs := by
    have hS : StrsAre acc.toList xs := strs_at hsz fun j v e => by
      obtain ⟨k, x, e1, e2⟩ := hacc.2 j v (by rw [← Array.getElem?_toList]; exact e)
      have e3 : (ds.map (·.1))[j]? = some k := by rw [List.getElem?_map, e1]; all_goals rfl
      rw [hkeys, List.getElem?_map] at e3
      cases e4 : xs[j]? with
      | none => rw [e4] at e3; cases e3
      | some y =>
        rw [e4] at e3
        have e5 : Sum.inr y = k := Option.some.inj e3
        subst e5
        obtain ⟨t, ev⟩ := Value.isStrOf_shape (x := y) (v := v) e2
        exact ⟨y, t, rfl, ev⟩
    exact vals_each (vof := V.str) (vals_of_strs hS)
  have I1 : Inv X pins σ H { s with heap := h1, toks := tk } := I.kept hk1
  refine wpAny_bind (wpAny_newList ?_ (by rw [hsz, ← hl]; exact hz))
  have hoL : (h1.push (seqObj "list" acc.toList.toArray 0)).get? h1.objs.size = some (seqObj "list" acc.toList.toArray 0) := Heap.get?_push_size _ rfl
  show wpAny _ _ _ _ _ { s with heap := h1.push (seqObj "list" acc.toList.toArray 0), toks := tk }
  refine wpAny_bind (wpAny_holding (wpAny_call_entry_kw slot_list_sort ⟨_, hoL, rfl⟩ entry_list_sort ?_ (ksk_l1 _ _)))
  rw [ksk_t1]
  have hZ : acc.toList.length ≤ sizeLine := by rw [hsz, ← hl]; exact hz
  have I2 : Inv X pins σ H { s with heap := h1.push (seqObj "list" acc.toList.toArray 0), toks := tk } := I1.kept fun b u e => Heap.get?_push_of_some _ e
  generalize hA' : h1.objs.size = aL at hoL
  have Na : Newly X pins aL := newly_of I1 (by rw [← hA']; exact Nat.le_refl _)
  have na : H aL = none := I1.hok.fresh (by rw [← hA']; exact Nat.le_refl _)
  generalize hh2 : h1.push (seqObj "list" acc.toList.toArray 0) = h2 at hoL I2
  obtain ⟨e1, ho1⟩ : ∃ e1, (h2.update aL (Obj.mapSeq fun _ => (#[] : Array Value))).get? aL = some (seqObj "list" #[] e1) := ⟨_, get?_update_seq hoL fun _ => #[]⟩
  unfold ksk_tree
  refine wpAny_bind (listItems_at hoL rfl ?_)
  refine wpAny_bind (listUpdate_at hoL rfl ?_ (by rw [List.size_toArray]; exact hZ) (Nat.zero_le _))
  refine wpAny_bind (seqEpoch_at ho1 rfl ?_)
  refine wpAny_bind (wpAny_newTuple ?_ (by show acc.toList.length ≤ _; exact hZ))
  refine wpAny_bind (wpAny_newList ?_ (Nat.zero_le _))
  refine wpAny_holding ?_
  have sb := Heap.SameBut.update h2 aL (Obj.mapSeq fun _ => (#[] : Array Value))
  have I3 : Inv X pins σ H { s with heap := h2.update aL (Obj.mapSeq fun _ => (#[] : Array Value)), toks := tk } := turn_one (s := { s with heap := h2, toks := tk }) I2 Na na fun c o hc e => (sb.2 c hc).trans e
  have I4 : Inv X pins σ H { s with heap := (h2.update aL (Obj.mapSeq fun _ => (#[] : Array Value))).push (seqObj "tuple" acc.toList.toArray 0), toks := tk } := I3.kept fun b u e => Heap.get?_push_of_some _ e
  have I5 : Inv X pins σ H { s with heap := ((h2.update aL (Obj.mapSeq fun _ => (#[] : Array Value))).push (seqObj "tuple" acc.toList.toArray 0)).push (seqObj "list" #[] 0), toks := tk } := I4.kept fun b u e => Heap.get?_push_of_some _ e
  have Nk := newly_of I4 (Nat.le_refl _)
  have nk := I4.hok.fresh (Nat.le_refl _)
  have oa5 := Heap.get?_push_of_some (seqObj "list" #[] 0) (Heap.get?_push_of_some (seqObj "tuple" acc.toList.toArray 0) ho1)
  refine keys_go κ F hb hr.in1.in1 (fun J => J.env0.in1.in1) I5 Na Nk ?_ (Heap.get?_push_size _ rfl) oa5 na nk hS hZ hal hso (fun x hx => ?_) hsp fun s9 H9 s09 h9 I9 => ⟨_, rfl, wpAny_pure ⟨_, rfl, .ref aL, H9, I9, rfl, q aL H9 na s09 h9⟩⟩
  · intro e
    have hlt := Heap.lt_size (Heap.get?_push_of_some (seqObj "tuple" acc.toList.toArray 0) ho1)
    rw [← e] at hlt
    exact Nat.lt_irrefl _ hlt
  · have := hr.un
    have := hdep x hx
    show X.A.units + 1 + 1 + _ < _
    omega
end
end Sf
namespace Sf
open PySem PySem.Spec PyProof.Rows L2 TL
/-! ### words that rise -/
theorem lexI_irrefl : ∀ l : List Int, lexI l l = false
  | [] => rfl
  | x :: l => by
    unfold lexI
    rw [lexI_irrefl l]
    simp
theorem lexI_trans : ∀ a b c : List Int, lexI a b = true → lexI b c = true → lexI a c = true
  | [], [], _, h, _ => by cases h
  | [], _ :: _, [], _, h => by cases h
  | [], _ :: _, _ :: _, _, _ => rfl
  | _ :: _, [], _, h, _ => by cases h
  | _ :: _, _ :: _, [], _, h => by cases h
  | x :: a, y :: b, z :: c, h1, h2 => by
    have ih := lexI_trans a b c
    unfold lexI at h1 h2 ⊢
    simp only [Bool.or_eq_true, Bool.and_eq_true, decide_eq_true_eq, Bool.not_eq_true', decide_eq_false_iff_not] at h1 h2 ⊢
    rcases h1 with h1 | ⟨h1, h3⟩
    · rcases h2 with h2 | ⟨h2, h4⟩
      · exact .inl (by omega)
      · exact .inl (by omega)
    · rcases h2 with h2 | ⟨h2, h4⟩
      · exact .inl (by omega)
      · by_cases h5 : x < z
        · exact .inl h5
        · exact .inr ⟨by omega, ih h3 h4⟩
theorem lexI_total : ∀ a b : List Int, lexI a b = false → lexI b a = false → a = b
  | [], [], _, _ => rfl
  | [], _ :: _, h, _ => by cases h
  | _ :: _, [], _, h => by cases h
  | x :: a, y :: b, h1, h2 => by
    have ih := lexI_total a b
    unfold lexI at h1 h2
    simp only [Bool.or_eq_false_iff, Bool.and_eq_false_iff, decide_eq_false_iff_not, Bool.not_eq_false', decide_eq_true_eq] at h1 h2
    have e : x = y := by omega
    subst e
    rw [ih (by rcases h1.2 with z | z; omega; exact z) (by rcases h2.2 with z | z; omega; exact z)]
def wkey (x : Str) : List Int := (x.length : Int) :: (tl x).map idxC
theorem wlt_key (x y : Str) : wlt x y = lexI (wkey x) (wkey y) := rfl
theorem idx_inj : ∀ c, c < 128 → ∀ d, d < 128 → sgn c = true → sgn d = true → idxC c = idxC d → c = d := by decide +kernel
theorem map_idx : ∀ {l m : List Nat}, Sg l → Sg m → l.map idxC = m.map idxC → l = m
  | [], [], _, _, _ => rfl
  | [], _ :: _, _, _, h => by cases h
  | _ :: _, [], _, _, h => by cases h
  | c :: l, d :: m, h1, h2, h => by
    rw [List.map_cons, List.map_cons] at h
    obtain ⟨e1, e2⟩ := List.cons.inj h
    have c1 := h1 c (List.mem_cons_self ..)
    have d1 := h2 d (List.mem_cons_self ..)
    rw [idx_inj c (sgn_lt c1) d (sgn_lt d1) c1 d1 e1, map_idx (fun e he => h1 e (List.mem_cons_of_mem _ he)) (fun e he => h2 e (List.mem_cons_of_mem _ he)) e2]
theorem wlt_irrefl (x : Str) : wlt x x = false := by rw [wlt_key, lexI_irrefl]
theorem wlt_trans {x y z : Str} (h1 : wlt x y = true) (h2 : wlt y z = true) : wlt x z = true := by
  rw [wlt_key] at h1 h2 ⊢
  exact lexI_trans _ _ _ h1 h2
theorem wlt_asymm {x y : Str} (h1 : wlt x y = true) (h2 : wlt y x = true) : False := by
  have := wlt_trans h1 h2
  rw [wlt_irrefl] at this
  cases this
theorem wlt_total {x y : Str} (hx : Wd x) (hy : Wd y) (h1 : wlt x y = false) (h2 : wlt y x = false) : x = y := by
  rw [wlt_key] at h1 h2
  have h := lexI_total _ _ h1 h2
  exact ext_tl (map_idx hx hy (List.cons.inj h).2)
theorem wlt_neg {x y z : Str} (h1 : wlt y x = false) (h2 : wlt z y = false) : wlt z x = false := by
  cases h : wlt z x with
  | false => rfl
  | true =>
    cases h3 : wlt x y with
    | true => rw [wlt_trans h h3] at h2; cases h2
    | false =>
      rw [wlt_key] at h3 h1
      have e : wkey x = wkey y := lexI_total _ _ h3 h1
      rw [wlt_key, e, ← wlt_key, h2] at h
      cases h
/-- strictly rising -/
def Rises (l : List Str) : Prop := l.Pairwise fun a b => wlt a b = true
theorem sort_w {β : Type} (f : β → Str) (l : List β) : (l.mergeSort fun a b => !wlt (f b) (f a)).Pairwise fun a b => wlt (f b) (f a) = false := by
  have h := List.pairwise_mergeSort (le := fun a b => !wlt (f b) (f a)) (fun a b c h1 h2 => ?_) (fun a b => ?_) l
  · exact h.imp fun {a b} z => by simpa using z
  · simp only [Bool.not_eq_true'] at h1 h2 ⊢
    exact wlt_neg h1 h2
  · cases h1 : wlt (f b) (f a) with
    | false => rfl
    | true =>
      cases h2 : wlt (f a) (f b) with
      | false => rfl
      | true => exact (wlt_asymm h1 h2).elim
theorem rises_of {l : List Str} (h : l.Pairwise fun a b => wlt b a = false) (hn : l.Nodup) (hw : ∀ x ∈ l, Wd x) : Rises l := by
  induction l with
  | nil => exact .nil
  | cons a l ih =>
    rw [List.pairwise_cons] at h
    rw [List.nodup_cons] at hn
    refine List.pairwise_cons.mpr ⟨fun b hb => ?_, ih h.2 hn.2 fun x hx => hw x (List.mem_cons_of_mem _ hx)⟩
    cases e : wlt a b with
    | true => rfl
    | false =>
      have := wlt_total (hw a (List.mem_cons_self ..)) (hw b (List.mem_cons_of_mem _ hb)) e (h.1 b hb)
      rw [this] at hn
      exact (hn.1 hb).elim
theorem rises_ext : ∀ {l m : List Str}, Rises l → Rises m → (∀ s, s ∈ l ↔ s ∈ m) → l = m
  | [], [], _, _, _ => rfl
  | [], b :: m, _, _, h => by cases (h b).mpr (List.mem_cons_self ..)
  | a :: l, [], _, _, h => by cases (h a).mp (List.mem_cons_self ..)
  | a :: l, b :: m, h1, h2, h => by
    unfold Rises at h1 h2
    rw [List.pairwise_cons] at h1 h2
    have e : a = b := by
      rcases List.mem_cons.mp ((h a).mp (List.mem_cons_self ..)) with e | e
      · exact e
      · rcases List.mem_cons.mp ((h b).mpr (List.mem_cons_self ..)) with e2 | e2
        · exact e2.symm
        · exact (wlt_asymm (h1.1 b e2) (h2.1 a e)).elim
    subst e
    rw [rises_ext h1.2 h2.2 fun s => ?_]
    constructor
    · intro hs
      rcases List.mem_cons.mp ((h s).mp (List.mem_cons_of_mem _ hs)) with e | e
      · have := h1.1 s hs
        rw [e, wlt_irrefl] at this
        cases this
      · exact e
    · intro hs
      rcases List.mem_cons.mp ((h s).mpr (List.mem_cons_of_mem _ hs)) with e | e
      · have := h2.1 s hs
        rw [e, wlt_irrefl] at this
        cases this
      · exact e
theorem rises_nodup {l : List Str} (h : Rises l) : l.Nodup := h.imp fun {a b} z e => by
  rw [e, wlt_irrefl] at z
  cases z
/-- one more word of a row that rises weakly -/
theorem rises_more {F : List Str} {w : Str} (hF : Rises F) (hw : Wd w) (hFw : ∀ f ∈ F, Wd f) (hle : ∀ f ∈ F, wlt w f = false) (hl : F.getLast? ≠ some w) : Rises (F ++ [w]) := by
  refine List.pairwise_append.mpr ⟨hF, List.pairwise_singleton _ _, fun f hf b hb => ?_⟩
  rw [List.mem_singleton] at hb
  subst hb
  cases e : wlt f b with
  | true => rfl
  | false =>
    have e1 := wlt_total (hFw f hf) hw e (hle f hf)
    subst e1
    rcases List.eq_nil_or_concat F with rfl | ⟨r, z, rfl⟩
    · cases hf
    · rw [List.concat_eq_append] at *
      rw [List.mem_append, List.mem_singleton] at hf
      rcases hf with hf | hf
      · have h5 := (List.pairwise_append.mp hF).2.2 f hf z (List.mem_singleton.mpr rfl)
        rw [hle z (List.mem_append_right _ (List.mem_singleton.mpr rfl))] at h5
        cases h5
      · rw [hf] at hl
        exact (hl (by simp)).elim
theorem le_rank : PySem.W.dataLe false (fun x : Str => PyData.tuple [.int (x.length : Int), .str (rankS x)]) = fun a b => !wlt b a := by
  funext a b
  rw [PySem.W.dataLe_eq]
  show (!PySem.W.dataLt _ _) = _
  rw [rank_lt]
structure Mrk where
  w : Str
  t : Addr
  hw : Wd w
def Mrk.v (b : Mrk) : V := .ref b.t
def Mrk.d (b : Mrk) : PyData := .tuple [rkD b.w, .str b.w]
theorem lt_marked {x y : Str} (hx : Wd x) (hy : Wd y) : PySem.W.dataLt (.tuple [rkD x, .str x]) (.tuple [rkD y, .str y]) = wlt x y := by
  rw [PySem.W.dataLt_pair (rkD_alike x y) (by simp [PySem.W.alike]), rkD_lt]
  by_cases e : PyData.eqv (rkD x) (rkD y) = true
  · rw [if_pos e]
    have exy : x = y := by
      unfold rkD at e
      simp only [PyData.eqv, PyData.eqvAll, PySem.W.ked_eqvAll, Bool.and_eq_true, decide_eq_true_eq, Bool.and_true] at e
      exact ext_tl (map_idx hx hy e.2)
    subst exy
    rw [if_pos (by simp [PyData.eqv]), wlt_irrefl]
  · rw [if_neg e]
theorem le_marked : PySem.W.dataLe false Mrk.d = fun a b => !wlt b.w a.w := by
  funext a b
  rw [PySem.W.dataLe_eq]
  show (!PySem.W.dataLt _ _) = _
  unfold Mrk.d
  rw [lt_marked b.hw a.hw]
/-- the last of a row -/
theorem cut_last (l : List V) : cutV l (some (-1)) none = l.getLast?.toList := by
  rcases List.eq_nil_or_concat l with rfl | ⟨r, z, rfl⟩
  · rfl
  · rw [List.concat_eq_append]
    unfold cutV
    have e1 : HT.sIx (r ++ [z]).length 0 (some (-1)) = r.length := by
      unfold HT.sIx
      dsimp only
      rw [if_pos (by decide), List.length_append, List.length_singleton]
      omega
    have e2 : HT.sIx (r ++ [z]).length (r ++ [z]).length none = r.length + 1 := by
      rw [HT.sIx_none, List.length_append, List.length_singleton]
    rw [e1, e2, List.drop_left, Nat.add_sub_cancel_left]
    simp
theorem last_map (F : List Str) : (F.map V.str).getLast?.toList = F.getLast?.toList.map V.str := by
  rcases List.eq_nil_or_concat F with rfl | ⟨r, z, rfl⟩
  · rfl
  · rw [List.concat_eq_append, List.map_append]
    simp
/-- data of a list of words -/
def dWs (l : List Str) : PyData := .list (l.map .str)
theorem dp_ws {K : PySem.W.Frag} {H : Hp} : ∀ l : List Str, DpAll K H (l.map V.str) (l.map .str)
  | [] => .nil
  | _ :: l => .cons (.str _) (dp_ws l)
theorem wd_ok {x : Str} (h : Wd x) : PyData.canLay0 (.str x) = true := by
  rw [PyData.canLay0]
  show x.cps.all (fun c => decide (c < 0x110000)) = true
  rw [← Array.all_toList, List.all_eq_true]
  intro c hc
  have := sgn_lt (h c hc)
  exact decide_eq_true (by omega)
theorem ws_lay : ∀ {l : List Str}, (∀ x ∈ l, Wd x) → PyData.canLayAll0 (l.map .str) = true
  | [], _ => rfl
  | x :: l, h => by
    rw [List.map_cons, PyData.canLayAll0, ws_lay fun y hy => h y (List.mem_cons_of_mem _ hy), wd_ok (h x (List.mem_cons_self ..))]
    rfl
theorem ws_depth : ∀ l : List Str, PyData.depthAll (l.map .str) = 0
  | [] => rfl
  | _ :: l => by
    rw [List.map_cons, PyData.depthAll, ws_depth l]
    rfl
theorem ws_shaped {l : List Str} (h : ∀ x ∈ l, Wd x) : SeqAt.shaped (dWs l) = true := by
  unfold SeqAt.shaped dWs
  rw [PyData.canLay0, ws_lay h, Bool.true_and, PyData.depth, ws_depth]
  rfl
theorem ws_eqv : ∀ l m : List Str, PyData.eqvAll (l.map .str) (m.map .str) = decide (l = m)
  | [], [] => by simp [PyData.eqvAll]
  | [], _ :: _ => by simp [PyData.eqvAll]
  | _ :: _, [] => by simp [PyData.eqvAll]
  | a :: r, b :: t => by
    simp only [List.map_cons, PyData.eqvAll, PyData.eqv, ws_eqv r t]
    by_cases h : a = b <;> by_cases h' : r = t <;> simp [h, h']
theorem dws_eqv (l m : List Str) : PyData.eqv (dWs l) (dWs m) = decide (l = m) := by
  unfold dWs
  rw [PyData.eqv, ws_eqv]
end Sf
namespace Sf
open PySem PySem.Spec PyProof.Rows L2 TL
section
variable {P : Program} {w : World} {K : PySem.W.Frag} {mg : Str → Option Value} {base : Heap}
/-! ### _law_rise -/
def spRise (K : PySem.W.Frag) : Sp := fun vs H Q _ => ∃ (a : Addr) (ws : List Str), vs = [.ref a] ∧ SqL K H a (ws.map V.str) ∧ (∀ x ∈ ws, Wd x ∧ x.length ≤ 50000) ∧ ws.length ≤ 50000 ∧
  ∀ (p : Addr) (H' : Hp) (L : List Str), H p = none → Same H H' → H' p = some (.lst (L.map V.str)) → Rises L → (∀ s, s ∈ L ↔ s ∈ ws) → L.length ≤ ws.length → Q (.ref p) H'
abbrev HasRise (P : Program) (w : World) (K : PySem.W.Frag) (mg : Str → Option Value) (base : Heap) : Prop := Has P w K mg base 2 "_law_rise" ["_law_words"] (spRise K)
theorem sc_rise : FnScope ["_law_words", "_law_found", "_law_mark", "_law_word_here"] ["_law_words"] (defScope s__law_rise) := ⟨rfl, rfl, rfl, by decide +kernel, rfl, by decide +kernel, by decide +kernel⟩
def MrkAt (H : Hp) (b : Mrk) : Prop := ∃ r, H b.t = some (.tup [.ref r, .str b.w]) ∧ RkAt H r b.w
theorem MrkAt.same {H H' : Hp} {b : Mrk} (s : Same H H') : MrkAt H b → MrkAt H' b
  | ⟨r, h1, h2⟩ => ⟨r, s _ _ h1, h2.same s⟩
/-- a mark none of whose things stands at D -/
def MrkOff (D : Addr) (H : Hp) (b : Mrk) : Prop := ∃ r q : Addr, b.t ≠ D ∧ r ≠ D ∧ q ≠ D ∧ H b.t = some (.tup [.ref r, .str b.w]) ∧ H r = some (.lst [.int (b.w.length : Int), .ref q]) ∧ H q = some (.lst (((tl b.w).map idxC).map V.int))
theorem MrkOff.fx {D : Addr} {H H' : Hp} {b : Mrk} (f : Fx D H H') : MrkOff D H b → MrkOff D H' b
  | ⟨r, q, n1, n2, n3, h1, h2, h3⟩ => ⟨r, q, n1, n2, n3, f _ _ h1 n1, f _ _ h2 n2, f _ _ h3 n3⟩
theorem MrkOff.at {D : Addr} {H : Hp} {b : Mrk} : MrkOff D H b → MrkAt H b
  | ⟨r, q, _, _, _, h1, h2, h3⟩ => ⟨r, h1, q, h2, h3⟩
theorem MrkAt.dp {H : Hp} {b : Mrk} : MrkAt H b → Dp K H b.v b.d
  | ⟨_, h1, h2⟩ => .tup (SqT.of h1) (.cons h2.dp (.cons (.str _) .nil))
theorem mk_alike (b c : Mrk) : PySem.W.alike b.d c.d = true := by
  unfold Mrk.d
  simp [PySem.W.alike, PySem.W.alikeAll, rkD_alike]
theorem mk_depth (b : Mrk) : b.d.depth ≤ 60 := by
  have h : (rkD b.w).depth ≤ 2 := by
    unfold rkD
    simp only [PyData.depth, PyData.depthAll, depth_ints]
    decide
  unfold Mrk.d
  simp only [PyData.depth, PyData.depthAll]
  omega
theorem has_rise (F : FnAt K mg "_law_rise" s__law_rise ["_law_words"]) (B : Blt mg) (hR : HasRankL P w K mg base) : HasRise P w K mg base := F.has fun F => by
  obtain ⟨fR, fdR, gR, kR, bR, GR⟩ := hR
  refine F.ok sc_rise (fun vs H Q E h => ?_) (fun cdv A outer s H vs Q E hr h => ?_)
  · obtain ⟨a, ws, rfl, _⟩ := h
    rfl
  · obtain ⟨a, ws, rfl, hS, hw, hl, q⟩ := h
    have hr1 : Room 1 _ := hr.mono (by decide)
    refine ⟨_, pss_cons (ps_set (i := 1) sc_rise.nd rfl (.inl rfl) (pe_lst pa_nil))
      (pss_cons (ps_for PassesOwn.never rfl (pi_list (pe_callB (call_sortedData Mrk.v Mrk.d hr.units) (by rfl) B.sorted boot_sorted (pa_cons (pe_lc (own := [("_law_word_here", 3)]) (g := gName 3) (tt := tYes) (by rfl) sc_rise.nd (pi_list (pv 0))
          (blkOk_by (own := [("_law_word_here", 3)]) (N := ["_law_words", "_law_found", "_law_mark", "_law_word_here"]) (sc := defScope s__law_rise) (by decide +kernel)) (fun _ _ _ _ _ => pg_name (i := 3) sc_rise.nd rfl (.inl rfl)) (fun _ _ _ _ _ => pts_nil)
          (fun _ _ _ _ _ => pe_tup (pa_cons (pe_call GR hr1 (by rfl) gR kR bR .nil pass0 (pa_cons (pv 3) pa_nil)) (pa_cons (pv 3) pa_nil)))) pa_nil)))
          (pg_tup rfl (pgs_cons (pg_name (i := 2) sc_rise.nd rfl (.inl rfl)) (pgs_cons (pg_name (i := 3) sc_rise.nd rfl (.inl rfl)) pgs_nil)))
        (pss_one (ps_if (pt_cmpR (op_neD hr.units) (pe_slice sl_list (pv 1) (po_some (pe_un un_neg pe_int)) po_none) (pe_lst (pa_cons (pv 3) pa_nil)) (nomark _))
          (pss_one (ps_expr (pe_bm PySem.F.plainAttrs_list PySem.F.slot_list_append PySem.F.type_list_append mt_append (pv 1) (pa_cons (pv 3) pa_nil)))) pss_nil)))
      (pss_one (ps_ret (pv 1)))), ?_⟩
    refine ⟨(by show 0 ≤ sizeLine; decide), fun F nF => ?_⟩
    have sF : Same H (upd H F (.lst [])) := same_upd nF
    refine ⟨_, rfl, a, rfl, ⟨_, sF.seq hS⟩, fun D nD => ?_⟩
    have nD0 : H D = none := sF.free nD
    have nFD : F ≠ D := ne_of_none upd_same nD
    refine lc_list (K := K) (a := a) (xs := ws.map V.str) (fun i H2 => ∃ bs : List Mrk, bs.map (·.w) = ws.take i ∧ Fx D (upd H F (.lst [])) H2 ∧ H2 D = some (.lst (bs.map Mrk.v)) ∧ ∀ b ∈ bs, MrkOff D H2 b)
      ⟨[], by rw [List.take_zero]; rfl, Fx.of (same_upd nD), upd_same, fun b hb => by cases hb⟩ (fun i H2 _ ⟨bs, _, f, _⟩ => ?_) ?_ ?_
    · exact (f.toSame nD).seq (sF.seq hS)
    · rintro i v H2 hi ⟨bs, hb, f2, hD, hm⟩
      obtain ⟨x, hx, rfl⟩ : ∃ x, ws[i]? = some x ∧ v = V.str x := by
        rw [List.getElem?_map] at hi
        cases e : ws[i]? with
        | none =>
          rw [e] at hi
          cases hi
        | some x =>
          rw [e] at hi
          exact ⟨x, rfl, (Option.some.inj hi).symm⟩
      have hxw := hw x (List.mem_of_getElem? hx)
      refine ⟨rfl, yes_if ?_⟩
      refine ⟨_, rfl, x, rfl, hxw.1, hxw.2, fun r H3 nr s3 ⟨q2, nq2, r1, r2⟩ => ⟨_, rfl, (by show 2 ≤ sizeLine; decide), fun t nt => ?_⟩⟩
      have hD3 : H3 D = some (.lst (bs.map Mrk.v)) := s3 _ _ hD
      have ntD : t ≠ D := (ne_of_none hD3 nt).symm
      have nrD : r ≠ D := (ne_of_none hD nr).symm
      have nqD : q2 ≠ D := (ne_of_none hD nq2).symm
      have s34 : Same H3 (upd H3 t (.tup [.ref r, .str x])) := same_upd nt
      have hil : i < ws.length := (List.getElem?_eq_some_iff.mp hx).1
      have hbl : bs.length = i := by
        have := congrArg List.length hb
        rw [List.length_map, List.length_take] at this
        omega
      refine ⟨_, s34 _ _ hD3, ?_, bs ++ [⟨x, t, hxw.1⟩], ?_, ?_, ?_, ?_⟩
      · rw [List.length_map, hbl]
        exact lineLt_of (by omega)
      · rw [List.map_append, hb, List.take_add_one, hx]
        rfl
      · exact (f2.same (s3.trans s34)).upd
      · rw [upd_same, List.map_append]
        rfl
      · intro b hbm
        rcases List.mem_append.mp hbm with hbm | hbm
        · exact (hm b hbm).fx ((Fx.of (s3.trans s34)).upd)
        · rw [List.mem_singleton] at hbm
          subst hbm
          exact ⟨r, q2, ntD, nrD, nqD, by rw [upd_ne ntD, upd_same], by rw [upd_ne nrD]; exact s34 _ _ r1, by rw [upd_ne nqD]; exact s34 _ _ r2⟩
    · rintro H2 ⟨bs, hb, f2, hD, hm⟩
      rw [List.length_map, List.take_length] at hb
      have hbl : bs.length = ws.length := by
        have := congrArg List.length hb
        rw [List.length_map] at this
        exact this
      have hF2 : H2 F = some (.lst []) := f2 _ _ upd_same nFD
      have s02 : Same H H2 := fun b o e => f2 _ _ (sF _ _ e) (ne_of_none e nD0)
      refine ⟨D, bs, rfl, SqL.of hD, fun b hbm => (hm b hbm).at.dp, PySem.W.AllAlike.of mk_alike, PySem.W.Sortable.tuples (fun b => ⟨_, _, rfl⟩), fun b _ => mk_depth b, fun p np => ?_⟩
      rw [le_marked]
      have hsl := sort_w Mrk.w bs
      have hperm := List.mergeSort_perm bs (fun a b => !wlt b.w a.w)
      generalize hsl0 : bs.mergeSort (fun a b => !wlt b.w a.w) = sl at hsl hperm
      have hlen : sl.length = ws.length := hperm.length_eq.trans hbl
      have s2p : Same H2 (upd H2 p (.lst (sl.map Mrk.v))) := same_upd np
      have npF : F ≠ p := ne_of_none hF2 np
      generalize hH3 : upd H2 p (.lst (sl.map Mrk.v)) = H3 at s2p
      have hp3 : H3 p = some (.lst (sl.map Mrk.v)) := by rw [← hH3, upd_same]
      have hF3 := s2p _ _ hF2
      have hm3 : ∀ b ∈ sl, MrkAt H3 b := fun b hbm => (hm b (hperm.mem_iff.mp hbm)).at.same s2p
      refine ⟨p, rfl, ⟨_, SqL.of hp3⟩, for_list (K := K) (a := p) (xs := sl.map Mrk.v) (fun i σ H4 => ∃ (y2 y3 : Option V) (L : List Str), σ = [some (.ref a), some (.ref F), y2, y3] ∧ Fx F H3 H4 ∧ H4 F = some (.lst (L.map V.str)) ∧ Rises L ∧ (∀ s, s ∈ L ↔ s ∈ (sl.take i).map Mrk.w) ∧ L.length ≤ i)
        ⟨none, none, [], rfl, .refl, hF3, .nil, fun s => by rw [List.take_zero]; exact Iff.rfl, Nat.le_refl _⟩ (fun i σ H4 _ ⟨_, _, _, _, f4, _⟩ => SqL.of (f4 _ _ hp3 npF.symm)) ?_ ?_⟩
      · rintro i v σ H4 hi ⟨y2, y3, L, rfl, f4, hF4, hR, hmem, hLl⟩
        obtain ⟨b, hbi, rfl⟩ : ∃ b, sl[i]? = some b ∧ v = Mrk.v b := by
          rw [List.getElem?_map] at hi
          cases e : sl[i]? with
          | none =>
            rw [e] at hi
            cases hi
          | some b =>
            rw [e] at hi
            exact ⟨b, rfl, (Option.some.inj hi).symm⟩
        have hbs := List.mem_of_getElem? hbi
        have hil : i < sl.length := (List.getElem?_eq_some_iff.mp hbi).1
        obtain ⟨r, hbt, _⟩ := hm3 b hbs
        have ht4 : H4 b.t = some (.tup [.ref r, .str b.w]) := f4 _ _ hbt (ne_of hbt hF3 (by intro z; cases z))
        have hLw : ∀ x ∈ L, Wd x := fun x hx => by
          obtain ⟨c, _, rfl⟩ := List.mem_map.mp ((hmem x).mp hx)
          exact c.hw
        refine ⟨b.t, _, rfl, SqT.of ht4, rfl, _, _, rfl, _, _, rfl, rfl, ?_⟩
        refine ⟨_, rfl, 1, rfl, _, rfl, F, _, rfl, SqL.of hF4, fun p1 np1 => ⟨_, rfl, (by show 1 ≤ sizeLine; decide), fun p2 np2 => ?_⟩⟩
        rw [cut_last, last_map] at np2 ⊢
        have s45 := (same_upd (o := HO.lst (L.getLast?.toList.map V.str)) np1).trans (same_upd (o := HO.lst [V.str b.w]) np2)
        have n12 : p1 ≠ p2 := ne_of_none upd_same np2
        generalize hH5 : upd (upd H4 p1 (.lst (L.getLast?.toList.map V.str))) p2 (.lst [V.str b.w]) = H5 at s45
        have h51 : H5 p1 = some (.lst (L.getLast?.toList.map V.str)) := by rw [← hH5, upd_ne n12, upd_same]
        have h52 : H5 p2 = some (.lst ([b.w].map V.str)) := by rw [← hH5, upd_same]; rfl
        have f5 := f4.same s45
        have hF5 := s45 _ _ hF4
        have hsub : ∀ x ∈ L.getLast?.toList, Wd x := fun x hx => hLw x (List.mem_of_mem_getLast? (by simpa using hx))
        refine ⟨dWs L.getLast?.toList, dWs [b.w], .lst (SqL.of h51) (dp_ws _), .lst (SqL.of h52) (dp_ws _), ws_shaped hsub, ws_shaped (fun x hx => by rw [List.mem_singleton] at hx; rw [hx]; exact b.hw), _, rfl, ?_⟩
        rw [dws_eqv]
        have htk : (sl.take (i + 1)).map Mrk.w = (sl.take i).map Mrk.w ++ [b.w] := by
          rw [List.take_add_one, hbi, List.map_append]
          rfl
        by_cases e : L.getLast?.toList = [b.w]
        · rw [decide_eq_true e]
          refine iteF ⟨_, _, L, rfl, f5, hF5, hR, fun s => ?_, by omega⟩
          rw [htk, List.mem_append, List.mem_singleton, hmem]
          constructor
          · exact .inl
          · rintro (z | z)
            · exact z
            · rw [z, ← hmem]
              refine List.mem_of_mem_getLast? ?_
              cases h : L.getLast? with
              | none => rw [h] at e; cases e
              | some y =>
                rw [h] at e
                have e2 : y = b.w := (List.cons.inj e).1
                rw [e2]
                rfl
        · rw [decide_eq_false e]
          refine iteT ⟨_, rfl, .inl ⟨rfl, _, SqL.of hF5⟩, _, rfl, F, _, _, rfl, rfl, hF5, ?_, _, _, L ++ [b.w], rfl, f5.upd, ?_, ?_, fun s => ?_, ?_⟩
          · rw [List.length_map]
            exact lineLt_of (by omega)
          · rw [upd_same, List.map_append]
            rfl
          · refine rises_more hR b.hw hLw (fun x hx => ?_) fun z => e (by rw [z]; rfl)
            obtain ⟨c, hc, rfl⟩ := List.mem_map.mp ((hmem x).mp hx)
            have hs2 := hsl
            rw [← List.take_append_drop i sl, List.drop_eq_getElem_cons hil] at hs2
            have hb2 : sl[i] = b := by
              rw [List.getElem?_eq_getElem hil] at hbi
              exact Option.some.inj hbi
            rw [hb2] at hs2
            exact (List.pairwise_append.mp hs2).2.2 c hc b (List.mem_cons_self ..)
          · rw [htk, List.mem_append, List.mem_append, hmem]
          · rw [List.length_append, List.length_singleton]
            omega
      · rintro σ H4 ⟨y2, y3, L, rfl, f4, hF4, hR, hmem, hLl⟩
        rw [List.length_map] at hLl hmem
        refine ⟨_, rfl, q F H4 L nF (fun c o e => ?_) hF4 hR (fun s => ?_) (by omega)⟩
        · exact f4 _ _ (s2p _ _ (s02 _ _ e)) (ne_of_none e nF)
        · rw [hmem, List.take_length, ← hb]
          exact (hperm.map Mrk.w).mem_iff
end
end Sf
namespace Sf
open PySem PySem.Spec PyProof.Rows L2 TL
section
variable {P : Program} {w : World} {K : PySem.W.Frag} {mg : Str → Option Value} {base : Heap}
theorem cut_pre {x : Str} {i : Nat} (h : i ≤ x.length) : tl (cutS x none (some (i : Int))) = (tl x).take i := by
  rw [tl_cut, HT.sIx_nat, HT.sIx_none, List.drop_zero, Nat.sub_zero, Nat.min_eq_left h]
/-! ### _law_spots -/
def spLSpots : Sp := fun vs H Q _ => ∃ x : Str, vs = [.str x] ∧ Wd x ∧ x.length ≤ 10000 ∧
  ∀ (p : Addr) (H' : Hp) (L : List Str), H p = none → Same H H' → H' p = some (.lst (L.map V.str)) → Rises L → (∀ s, s ∈ L ↔ spotP x s) → L.length ≤ x.length + 1 → Q (.ref p) H'
abbrev HasLSpots (P : Program) (w : World) (K : PySem.W.Frag) (mg : Str → Option Value) (base : Heap) : Prop := Has P w K mg base 3 "_law_spots" ["_law_word_here"] spLSpots
theorem sc_lspots : FnScope ["_law_word_here", "_law_at"] ["_law_word_here"] (defScope s__law_spots) := ⟨rfl, rfl, rfl, by decide +kernel, rfl, by decide +kernel, by decide +kernel⟩
theorem has_lspots (F : FnAt K mg "_law_spots" s__law_spots ["_law_word_here"]) (B : Blt mg) (hR : HasRise P w K mg base) (hS : HasShort P w K mg base) : HasLSpots P w K mg base := F.has fun F => by
  obtain ⟨fR, fdR, gR, kR, bR, GR⟩ := hR
  obtain ⟨fS, fdS, gS, kS, bS, GS⟩ := hS
  refine F.ok sc_lspots (fun vs H Q E h => ?_) (fun cdv A outer s H vs Q E hr h => ?_)
  · obtain ⟨x, rfl, _⟩ := h
    rfl
  · obtain ⟨x, rfl, hx, hl, q⟩ := h
    have hzl : x.length = (tl x).length := len_tl x
    refine ⟨_, pss_one (ps_ret (pe_call GR hr (by rfl) gR kR bR .nil pass0 (pa_cons (pe_lc (own := [("_law_at", 1)]) (g := gName 1) (tt := tYes) (by rfl) sc_lspots.nd
      (pi_range1 rfl B.range (pa_cons (pe_op op_add (pe_callB call_len_str (by rfl) B.len PySem.boot_len (pa_cons (pv 0) pa_nil)) pe_int) pa_nil))
      (blkOk_by (own := [("_law_at", 1)]) (N := ["_law_word_here", "_law_at"]) (sc := defScope s__law_spots) (by decide +kernel)) (fun _ _ _ _ _ => pg_name (i := 1) sc_lspots.nd rfl (.inl rfl)) (fun _ _ _ _ _ => pts_nil)
      (fun _ _ _ _ _ => pe_call GS hr (by rfl) gS kS bS .nil pass0 (pa_cons (pe_slice sl_str (pv 0) po_none (po_some (pv 1))) pa_nil))) pa_nil))), ?_⟩
    refine ⟨_, rfl, x, rfl, line_of (by omega), _, _, rfl, rfl, _, rfl, by omega, by omega, fun D nD => ?_⟩
    have en : (((x.length : Nat) : Int) + 1).toNat = x.length + 1 := by omega
    rw [en]
    refine lc_range (lo := 0) (n := x.length + 1) (fun i H2 => Fx D H H2 ∧ H2 D = some (.lst (((List.range i).map fun j => mkS (shortL ((tl x).take j))).map V.str))) ⟨Fx.of (same_upd nD), upd_same⟩ ?_ ?_
    · rintro i H2 hi ⟨f2, hD⟩
      refine ⟨rfl, yes_if ?_⟩
      rw [Int.zero_add]
      have e1 := cut_pre (x := x) (i := i) (by omega)
      have e2 := cutS_length x none (some (i : Int))
      refine ⟨_, rfl, _, rfl, _, rfl, x, rfl, line_of (by omega), _, rfl, Wd.cut hx, by omega, fun H3 s3 => ⟨_, s3 _ _ hD, ?_, (f2.same s3).upd, ?_⟩⟩
      · rw [List.length_map, List.length_map, List.length_range]
        exact lineLt_of (by omega)
      · rw [upd_same, List.range_succ, List.map_append, List.map_append]
        unfold shortT
        rw [e1]
        rfl
    · rintro H2 ⟨f2, hD⟩
      have s2 := f2.toSame nD
      refine ⟨D, (List.range (x.length + 1)).map fun j => mkS (shortL ((tl x).take j)), rfl, SqL.of hD, fun y hy => ?_, ?_, fun p H' L np s3 hp hR hm hL => ?_⟩
      · obtain ⟨j, hj, rfl⟩ := List.mem_map.mp hy
        refine ⟨shortL_sg fun d hd => hx d (List.mem_of_mem_take hd), ?_⟩
        rw [mkS_len]
        have := shortL_len ((tl x).take j)
        rw [List.length_take] at this
        omega
      · rw [List.length_map, List.length_range]
        omega
      · refine q p H' L (s2.free np) (s2.trans s3) hp hR (fun s => ?_) ?_
        · rw [hm, List.mem_map]
          constructor
          · rintro ⟨j, hj, rfl⟩
            rw [List.mem_range] at hj
            exact ⟨j, by omega, rfl⟩
          · rintro ⟨j, hj, rfl⟩
            exact ⟨j, List.mem_range.mpr (by omega), rfl⟩
        · rw [List.length_map, List.length_range] at hL
          exact hL
end
/-! ### spots -/
section
variable {P : Program} {w : World} {K : PySem.W.Frag} {mg : Str → Option Value} {base : Heap} {C : Addr}
def rkT (x : Str) : PyData := .tuple [.int (x.length : Int), .str (rankS x)]
theorem rkT_alike (x y : Str) : PySem.W.alike (rkT x) (rkT y) = true := by simp [rkT, PySem.W.alike, PySem.W.alikeAll]
def spSpots (C : Addr) : Sp := fun vs H Q _ => ∃ (a : Addr) (S : Str → Prop) (e : Str) (A : Nat), vs = [.ref a] ∧ Trk C H a S e A ∧ A ≤ 100000 ∧
  ∀ (p : Addr) (H' : Hp) (L : List Str), H p = none → Same H H' → H' p = some (.lst (L.map V.str)) → Rises L → (∀ s, s ∈ L ↔ S s) → L.length ≤ A → Q (.ref p) H'
theorem sc_spots : FnScope ["self"] ["self"] (defScope s_Track_spots) := ⟨rfl, rfl, rfl, by decide +kernel, rfl, by decide +kernel, by decide +kernel⟩
theorem has_spots (F : MAt K C "spots" "Track.spots" s_Track_spots ["self"]) (T : TC K mg C) (B : Blt mg) (hR : HasRank P w K mg base) : HasM P w K mg base C 4 "spots" ["self"] (spSpots C) := F.has fun F => by
  obtain ⟨fR, fdR, gR, kR, bR, GR⟩ := hR
  refine F.ok sc_spots (fun vs H Q E h => ?_) (fun cdv A outer s H vs Q E hr h => ?_)
  · obtain ⟨a, S, e, A, rfl, _⟩ := h
    rfl
  · obtain ⟨a, S, e, A1, rfl, ⟨dx, d, ks, ha, hd, hS⟩, hA, q⟩ := h
    refine ⟨_, pss_one (ps_ret (pe_callBK (call_sortedDK rfl rkT GR bR (by exact hr)) (by rfl) B.sorted boot_sorted (pa_cons (pe_fld (pv 0) rfl) pa_nil) (pk_cons (pe_glob (v := .ref fR) (by rfl) gR rfl) pk_nil))), ?_⟩
    refine ⟨_, rfl, a, C, dx, _, _, rfl, ha, T.cl, T.nP, tf_passed _ _, ?_⟩
    refine ⟨d, dOf ks, ks, rfl, rfl, .inl hd, ?_, PySem.W.AllAlike.of rkT_alike, PySem.W.Sortable.tuples (fun b => ⟨_, _, rfl⟩), fun x _ => by simp [rkT, PyData.depth, PyData.depthAll], fun x hx H1 Q1 h1 => ?_, fun p H' np s1 hp => ?_⟩
    · unfold dOf
      rw [List.map_map]
      rfl
    · have hxS := (hS.mem x).mp hx
      refine ⟨x, rfl, (hS.rd x hxS).1, Nat.le_trans (hS.ln x hxS) (by omega), fun p H2 np s2 hp => h1 _ _ s2 fun H3 s3 => .tup (SqT.of (s3 _ _ hp)) (.cons (.int _) (.cons (.str _) .nil))⟩
    · have e0 : PySem.W.dataLe false rkT = fun a b => !wlt b a := le_rank
      rw [e0] at hp
      have hperm := List.mergeSort_perm ks (fun a b => !wlt b a)
      refine q p H' _ np s1 hp (rises_of (sort_w (fun x : Str => x) ks) (hperm.nodup_iff.mpr hS.nd) fun x hx => ?_) (fun s => ?_) ?_
      · exact (hS.rd x ((hS.mem x).mp (hperm.mem_iff.mp hx))).1
      · rw [hperm.mem_iff]
        exact hS.mem s
      · rw [hperm.length_eq]
        exact hS.many
end
end Sf
namespace Sf
open PySem PySem.Spec PyProof.Rows L2 TL
theorem eqv_list {H : Hp} {n : Nat} {p q : Addr} {xs : List V} (hp : H p = some (.lst xs)) (hq : H q = some (.lst xs)) (hl : xs.length ≤ 100000) (hf : ∀ x ∈ xs, flat4 x = true) : Eqv H (n + 1) (.ref p) (.ref q) :=
  .inr ⟨p, q, xs, xs, rfl, rfl, .inl ⟨hp, hq⟩, rfl, hl, fun i x y hx hy => by
    have e : x = y := Option.some.inj (hx.symm.trans hy)
    subst e
    exact .flat (hf x (List.mem_of_getElem? hx))⟩
theorem eqv_two {H : Hp} {n : Nat} {p q : Addr} {a b c d : V} (hp : H p = some (.lst [a, b])) (hq : H q = some (.lst [c, d])) (h1 : Eqv H n a c) (h2 : Eqv H n b d) : Eqv H (n + 1) (.ref p) (.ref q) :=
  .inr ⟨p, q, [a, b], [c, d], rfl, rfl, .inl ⟨hp, hq⟩, rfl, by show 2 ≤ 100000; decide, fun i x y hx hy => by
    match i with
    | 0 =>
      cases hx
      cases hy
      exact h1
    | 1 =>
      cases hx
      cases hy
      exact h2
    | i + 2 => cases hx⟩
theorem eqv_ws {H : Hp} {n : Nat} {p q : Addr} {L : List Str} (hp : H p = some (.lst (L.map V.str))) (hq : H q = some (.lst (L.map V.str))) (hl : L.length ≤ 100000) : Eqv H (n + 1) (.ref p) (.ref q) :=
  eqv_list hp hq (by rw [List.length_map]; exact hl) fun x hx => by
    obtain ⟨s, _, rfl⟩ := List.mem_map.mp hx
    rfl
end Sf
namespace Sf
open PySem PySem.Spec PyProof.Rows L2 TL
/-! ### tracks of words put behind one another and undone -/
theorem glu_shortL {u v : List Nat} (hu : Sg u) (hv : Sg v) : gluT (mkS (shortL u)) (mkS (shortL v)) = mkS (shortL (u ++ v)) := by
  refine eq_mkS ?_
  rw [glu_short (short_rdc hu) (short_rdc hv), tl_mkS, tl_mkS]
  have n0 : Sg ([] : List Nat) := fun _ z => by cases z
  have r0 : RedS ([] : List Nat) := True.intro
  have e1 := runS_short r0 n0 _ u rfl hu
  unfold shortL at e1 ⊢
  rw [runS_app, runS_app, e1]
  have e2 := runS_short (runS_red (w := u) r0) (runS_sg n0 hu) _ v rfl hv
  unfold shortL at e2
  rw [e2]
theorem glu_shortT {x y : Str} (hx : Wd x) (hy : Wd y) : gluT (shortT x) (shortT y) = shortT (x ++ y) := by
  unfold shortT
  rw [glu_shortL hx hy, tl_append]
theorem short_undo {u : List Nat} (hu : Sg u) : shortL (u ++ backL u) = [] := by
  unfold shortL
  rw [runS_app, run_back (s := []) True.intro (fun _ z => by cases z) hu]
  rfl
theorem back_shortL {u : List Nat} (hu : Sg u) : backT (mkS (shortL u)) = mkS (shortL (backL u)) := by
  have ha := short_rdc hu
  have hb := short_rdc (backL_sg hu)
  have e : gluT (mkS (shortL u)) (mkS (shortL (backL u))) = Str.ofString "" := by
    rw [glu_shortL hu (backL_sg hu), short_undo hu]
    decide +kernel
  have e2 := glu_cancel ha hb
  rw [e, glu_nil] at e2
  exact e2
theorem back_shortT {x : Str} (hx : Wd x) : backT (shortT x) = shortT (backT x) := by
  unfold shortT
  rw [back_shortL hx]
  rfl
section
def joinP (S T : Str → Prop) (e : Str) : Str → Prop := fun s => S s ∨ ∃ t, T t ∧ s = gluT e t
def backP (S : Str → Prop) (e : Str) : Str → Prop := fun s => ∃ t, S t ∧ s = gluT (backT e) t
theorem spot_join {x y : Str} (hx : Wd x) (hy : Wd y) : ∀ s, joinP (spotP x) (spotP y) (shortT x) s ↔ spotP (x ++ y) s := fun s => by
  have hsx : ∀ j, Sg ((tl x).take j) := fun j c hc => hx c (List.mem_of_mem_take hc)
  have hsy : ∀ j, Sg ((tl y).take j) := fun j c hc => hy c (List.mem_of_mem_take hc)
  unfold joinP spotP
  rw [tl_append, List.length_append]
  constructor
  · rintro (⟨j, hj, rfl⟩ | ⟨t, ⟨j, hj, rfl⟩, rfl⟩)
    · exact ⟨j, by omega, by rw [List.take_append_of_le_length hj]⟩
    · refine ⟨(tl x).length + j, by omega, ?_⟩
      unfold shortT
      rw [glu_shortL hx (hsy j), List.take_append, List.take_of_length_le (l := tl x) (by omega), Nat.add_sub_cancel_left]
  · rintro ⟨i, hi, rfl⟩
    by_cases h : i ≤ (tl x).length
    · exact .inl ⟨i, h, by rw [List.take_append_of_le_length h]⟩
    · refine .inr ⟨_, ⟨i - (tl x).length, by omega, rfl⟩, ?_⟩
      unfold shortT
      rw [glu_shortL hx (hsy _), List.take_append, List.take_of_length_le (l := tl x) (by omega)]
theorem short_mid {u v : List Nat} (hu : Sg u) (hv : Sg v) : shortL (u ++ backL v ++ v) = shortL u := by
  have n0 : Sg ([] : List Nat) := fun _ z => by cases z
  unfold shortL
  rw [runS_app, runS_app]
  have h := run_back (w := backL v) (runS_red (w := u) (s := []) True.intro) (runS_sg n0 hu) (backL_sg hv)
  rw [backL_back hv] at h
  rw [h]
theorem spot_back {x : Str} (hx : Wd x) : ∀ s, backP (spotP x) (shortT x) s ↔ spotP (backT x) s := fun s => by
  have key : ∀ j, j ≤ (tl x).length → gluT (backT (shortT x)) (mkS (shortL ((tl x).take j))) = mkS (shortL ((tl (backT x)).take ((tl x).length - j))) := fun j hj => by
    have ht : Sg ((tl x).take j) := fun c hc => hx c (List.mem_of_mem_take hc)
    have hd : Sg ((tl x).drop j) := fun c hc => hx c (List.mem_of_mem_drop hc)
    have e1 : backL (tl x) = backL ((tl x).drop j) ++ backL ((tl x).take j) := by
      rw [← backL_app, List.take_append_drop]
    have e2 : (tl (backT x)).take ((tl x).length - j) = backL ((tl x).drop j) := by
      show (backL (tl x)).take _ = _
      rw [e1]
      refine List.take_left' ?_
      unfold backL
      rw [List.length_reverse, List.length_map, List.length_drop]
    rw [e2]
    unfold shortT
    rw [back_shortL hx, glu_shortL (backL_sg hx) ht, e1, short_mid (backL_sg hd) ht]
  have el : (tl (backT x)).length = (tl x).length := by
    show (backL (tl x)).length = _
    unfold backL
    rw [List.length_reverse, List.length_map]
  constructor
  · rintro ⟨t, ⟨j, hj, rfl⟩, rfl⟩
    exact ⟨(tl x).length - j, by omega, key j hj⟩
  · rintro ⟨i, hi, rfl⟩
    rw [el] at hi
    refine ⟨_, ⟨(tl x).length - i, by omega, rfl⟩, ?_⟩
    rw [key _ (by omega)]
    congr 4
    omega
end
end Sf
namespace Sf
open PySem PySem.Spec PyProof.Rows L2 TL
/-! ### a call that doesn't see a list -/
def offH (H : Hp) (D : Addr) : Hp := fun b => if b = D then none else H b
theorem off_same {H : Hp} {D : Addr} : offH H D D = none := by
  unfold offH
  rw [if_pos rfl]
theorem off_ne {H : Hp} {D b : Addr} (h : b ≠ D) : offH H D b = H b := by
  unfold offH
  rw [if_neg h]
theorem off_none {H : Hp} {D b : Addr} (h : H b = none) : offH H D b = none := by
  by_cases e : b = D
  · rw [e, off_same]
  · rw [off_ne e, h]
theorem off_some {H : Hp} {D b : Addr} {o : HO} (h : offH H D b = some o) : b ≠ D ∧ H b = some o := by
  by_cases e : b = D
  · rw [e, off_same] at h
    cases h
  · rw [off_ne e] at h
    exact ⟨e, h⟩
theorem off_sub (H : Hp) (D : Addr) : Same (offH H D) H := fun b o e => (off_some e).2
theorem off_upd {H : Hp} {D : Addr} {o : HO} (h : H D = none) : offH (upd H D o) D = H := by
  funext b
  by_cases e : b = D
  · rw [e, off_same, h]
  · rw [off_ne e, upd_ne e]
theorem upd_off {H : Hp} {D : Addr} {o : HO} (h : H D = some o) : upd (offH H D) D o = H := by
  funext b
  by_cases e : b = D
  · rw [e, upd_same, h]
  · rw [upd_ne e, off_ne e]
def spHide (sp : Sp) : Sp := fun vs H Q E => ∃ (D : Addr) (xs : List V), H D = some (.lst xs) ∧ sp vs (offH H D) (fun v H' => H' D = none → Q v (upd H' D (.lst xs))) E
theorem FnHide {P : Program} {w : World} {K : PySem.W.Frag} {mg : Str → Option Value} {base : Heap} {k : Nat} {f : Addr} {fd : FuncData} {ps : List Str} {sp : Sp} (F : FnOk P w K mg base CX0 k f fd ps sp) : FnOk P w K mg base CX0 k f fd ps (spHide sp) := by
  refine ⟨fun vs H Q E ⟨D, xs, _, h⟩ => F.len vs _ _ E h, fun A outer s H args us vs Q E hr e0 hb rv ⟨D, xs, hD, h⟩ => ?_⟩
  obtain ⟨z, its, n, r, eD⟩ := e0.hok D _ hD
  have neD : ∀ b, H b = none → b ≠ D := fun b e q => by
    rw [q, hD] at e
    cases e
  have hok : HOk P w (offH H D) s.heap := fun b u e => by
    obtain ⟨hb, e'⟩ := off_some e
    refine (e0.hok b u e').stay (fun _ _ _ q => q) (fun c q => ?_) fun c ys q => ?_
    · rw [off_ne (fun q2 => by rw [q2, hD] at q; cases q)]
      exact q
    · rw [off_ne (fun q2 => by rw [q2, hD] at q; cases q)]
      exact q
  refine codeAny_mono (F.run A outer s (offH H D) args us vs _ E hr ⟨e0.frames, e0.mod, fun b o e => ⟨(e0.bs b o e).1, off_none (e0.bs b o e).2⟩, e0.bsz, e0.funs, fun b hb => off_none (e0.frf b hb), hok, e0.bare⟩ hb rv h) fun r s' hq => ?_
  cases r with
  | error e => exact hq
  | ok fl =>
    cases fl with
    | next => exact hq
    | brk => exact hq
    | cont => exact hq
    | ret u =>
      obtain ⟨v, H', os, bare, un, hok', rel, q⟩ := hq
      have nD : H' D = none := un.free D _ eD off_same (by simp)
      have kD := un.keep D _ eD off_same (fun q2 => neD D (e0.frf D q2) rfl) (by simp)
      have ne' : ∀ b o, H' b = some o → b ≠ D := fun b o e => ne_of_none e nD
      refine ⟨v, upd H' D (.lst xs), os, bare, ⟨fun b o e n => un.keep b o e (off_none n), fun b o e n => un.slot b o e (off_none n), fun b o e n hx => ?_, un.there, fun b ys e => ?_, fun b o u e => ?_, fun b ps e => ?_⟩, fun b u e => ?_, rel, q nD⟩
      · rw [upd_ne (neD b n)]
        exact un.free b o e (off_none n) hx
      · have hb : b ≠ D := fun q2 => by rw [q2, hD] at e; cases e
        rw [upd_ne hb]
        exact un.tups b ys (by rw [off_ne hb]; exact e)
      · have hb : b ≠ D := fun q2 => by rw [q2, hD] at e; cases e
        rw [upd_ne hb]
        exact un.frzs b o u (by rw [off_ne hb]; exact e)
      · have hb : b ≠ D := fun q2 => by rw [q2, hD] at e; cases e
        rw [upd_ne hb]
        exact un.tbls b ps (by rw [off_ne hb]; exact e)
      · by_cases hb : b = D
        · subst hb
          rw [upd_same] at e
          cases e
          exact ⟨z, its, n, r, kD⟩
        · rw [upd_ne hb] at e
          refine (hok' b u e).stay (fun _ _ _ q => q) (fun c q => ?_) fun c ys q => ?_
          · rw [upd_ne (ne' c _ q)]
            exact q
          · rw [upd_ne (ne' c _ q)]
            exact q
theorem offFx {b D : Addr} {H H' : Hp} (f : Fx b (offH H D) H') {o : HO} : ∀ a u, H a = some u → a ≠ b → a ≠ D → (upd H' D o) a = some u := fun a u e h1 h2 => by
  rw [upd_ne h2]
  exact f a u (by rw [off_ne h2]; exact e) h1
/-! ### a track's own bound -/
theorem Trk.own {C : Addr} {H : Hp} {p : Addr} {x : Str} {B : Nat} : Trk C H p (spotP x) (shortT x) B → Trk C H p (spotP x) (shortT x) (x.length + 1)
  | ⟨dx, d, ks, h1, h2, h3⟩ => by
    have hz : x.length = (tl x).length := len_tl x
    refine ⟨dx, d, ks, h1, h2, h3.nd, h3.mem, h3.rd, fun s hs => ?_, h3.re, ?_, ?_⟩
    · obtain ⟨j, hj, rfl⟩ := hs
      rw [mkS_len]
      have := shortL_len ((tl x).take j)
      rw [List.length_take] at this
      omega
    · unfold shortT
      rw [mkS_len]
      have := shortL_len (tl x)
      omega
    · have h := nodup_le (ms := (List.range (x.length + 1)).map fun j => mkS (shortL ((tl x).take j))) h3.nd fun s hs => by
        obtain ⟨j, hj, rfl⟩ := (h3.mem s).mp hs
        exact List.mem_map.mpr ⟨j, List.mem_range.mpr (by omega), rfl⟩
      rw [List.length_map, List.length_range] at h
      exact h
theorem mul4 (x : Str) : Txt.mul x 4 = x ++ x ++ x ++ x := by
  unfold Txt.mul
  rw [if_neg (by decide)]
  by_cases h : x.length = 0
  · rw [if_pos (by rw [h]; rfl)]
    have e : tl x = [] := by
      rw [len_tl] at h
      exact List.eq_nil_of_length_eq_zero h
    refine ext_tl ?_
    rw [tl_append, tl_append, tl_append, e]
    rfl
  · rw [if_neg (by rw [beq_eq_false_iff_ne.mpr h]; decide)]
    refine ext_tl ?_
    rw [tl_append, tl_append, tl_append]
    show ((List.replicate 4 x.cps).foldl (· ++ ·) #[]).toList = _
    show (((#[] ++ x.cps) ++ x.cps) ++ x.cps ++ x.cps).toList = _
    simp [tl]
end Sf
namespace Sf
open PySem PySem.Spec PyProof.Rows L2 TL
def spLaw (K : PySem.W.Frag) : Sp := fun vs H Q _ => ∃ (a : Addr) (ns : List Int), vs = [.ref a] ∧ SqL K H a (ns.map V.int) ∧ ns.length ≤ 63 ∧ ∀ H', Q (.bl true) H'
/-- a track of a word -/
abbrev TW (C : Addr) (H : Hp) (p : Addr) (x : Str) : Prop := Trk C H p (spotP x) (shortT x) (x.length + 1)
abbrev Its := List (Addr × Str)
def refs (its : Its) : List V := its.map fun p => V.ref p.1
def cat (its : Its) : List Nat := (its.map fun p => tl p.2).flatten
theorem refs_ne {its : Its} {H : Hp} {m b : Addr} (hm : H m = some (.lst (refs its))) (hb : Bag H b) : m ≠ b := by
  obtain ⟨l, ns, k, z, r, h⟩ := hb
  refine ne_of hm h.hb fun e => ?_
  have e := HO.lst.inj e
  unfold refs at e
  match its, e with
  | [], e => cases e
  | [_], e => cases e
  | _ :: _ :: _, e => cases e
theorem strs_ne {ws : List Str} {H : Hp} {m b : Addr} (hm : H m = some (.lst (ws.map V.str))) (hb : Bag H b) : m ≠ b := by
  obtain ⟨l, ns, k, z, r, h⟩ := hb
  refine ne_of hm h.hb fun e => ?_
  have e := HO.lst.inj e
  match ws, e with
  | [], e => cases e
  | _ :: _, e => cases e
theorem off_same2 {H H' : Hp} {D : Addr} (s : Same H H') : Same (offH H D) (offH H' D) := fun b o e => by
  obtain ⟨h1, h2⟩ := off_some e
  rw [off_ne h1]
  exact s _ _ h2
theorem off_upd2 {H : Hp} {D : Addr} {o : HO} : offH (upd H D o) D = offH H D := by
  funext b
  by_cases e : b = D
  · rw [e, off_same, off_same]
  · rw [off_ne e, off_ne e, upd_ne e]
theorem Trk.updL {C : Addr} {H : Hp} {p D : Addr} {S : Str → Prop} {e : Str} {B : Nat} {xs : List V} {o : HO} (hD : H D = some (.lst xs)) : Trk C H p S e B → Trk C (upd H D o) p S e B
  | ⟨dx, d, ks, h1, h2, h3⟩ => ⟨dx, d, ks, by rw [upd_ne (ne_of h1 hD (by intro q; cases q))]; exact h1, by rw [upd_ne (ne_of h2 hD (by intro q; cases q))]; exact h2, h3⟩
theorem len_flat {ws : List Str} {n : Nat} (h : ∀ x ∈ ws, x.length ≤ n) : (ws.map tl).flatten.length ≤ ws.length * n := by
  induction ws with
  | nil => simp
  | cons x ws ih =>
    rw [List.map_cons, List.flatten_cons, List.length_append, List.length_cons, Nat.succ_mul, ← len_tl]
    have := h x (List.mem_cons_self ..)
    have := ih fun y hy => h y (List.mem_cons_of_mem _ hy)
    omega
theorem sum_flat (ws : List Str) : (ws.map (·.length)).sum = (ws.map tl).flatten.length := by
  induction ws with
  | nil => rfl
  | cons x ws ih => rw [List.map_cons, List.sum_cons, ih, List.map_cons, List.flatten_cons, List.length_append, ← len_tl]
theorem wd_flat {ws : List Str} (h : ∀ x ∈ ws, Wd x) : Wd (mkS (ws.map tl).flatten) := fun c hc => by
  rw [tl_mkS] at hc
  obtain ⟨l, hl, hc⟩ := List.mem_flatten.mp hc
  obtain ⟨x, hx, rfl⟩ := List.mem_map.mp hl
  exact h x hx c hc
theorem app_assoc (x y z : Str) : x ++ y ++ z = x ++ (y ++ z) := ext_tl (by rw [tl_append, tl_append, tl_append, tl_append, List.append_assoc])
theorem its_at {its : Its} {j : Nat} (h : j < its.length) : atI (refs its) (j : Int) = some (.ref its[j].1) := at_of (j := j) rfl (by
  unfold refs
  rw [List.getElem?_map, List.getElem?_eq_getElem h]
  rfl)
theorem cutR_to {its : Its} {j : Nat} (h : j ≤ its.length) : cutV (refs its) none (some (j : Int)) = refs (its.take j) := by
  unfold cutV refs
  rw [HT.sIx_none, HT.sIx_nat, List.drop_zero, Nat.sub_zero, List.length_map, Nat.min_eq_left h, List.map_take]
theorem cutR_from {its : Its} {j : Nat} (h : j ≤ its.length) : cutV (refs its) (some (j : Int)) none = refs (its.drop j) := by
  unfold cutV refs
  rw [HT.sIx_none, HT.sIx_nat, List.length_map, Nat.min_eq_left h, List.take_of_length_le (by rw [List.length_drop, List.length_map]; exact Nat.le_refl _), List.map_drop]
theorem cat_at {its : Its} {j : Nat} (h : j + 1 < its.length) (t : Addr) : cat (its.take j ++ [(t, its[j].2 ++ its[j + 1].2)] ++ its.drop (j + 2)) = cat its := by
  have e : its = its.take j ++ its[j] :: its[j + 1] :: its.drop (j + 2) := by
    rw [← List.drop_eq_getElem_cons, ← List.drop_eq_getElem_cons, List.take_append_drop]
  have e2 : cat its = cat (its.take j ++ its[j] :: its[j + 1] :: its.drop (j + 2)) := congrArg cat e
  rw [e2]
  unfold cat
  simp only [List.map_append, List.map_cons, List.map_nil, List.flatten_append, List.flatten_cons, List.flatten_nil, tl_append, List.append_nil, List.append_assoc]
section
variable {P : Program} {w : World} {K : PySem.W.Frag} {mg : Str → Option Value} {base : Heap} {C : Addr}
theorem TW.join {H : Hp} {p : Addr} {x y : Str} {A : Nat} (hx : Wd x) (hy : Wd y) (t : Trk C H p (joinS (spotP x) (spotP y) (shortT x)) (gluT (shortT x) (shortT y)) A) : TW C H p (x ++ y) := (t.cong (spot_join hx hy) (glu_shortT hx hy)).own
theorem TW.back {H : Hp} {p : Addr} {x : Str} {A : Nat} (hx : Wd x) (t : Trk C H p (backS (spotP x) (shortT x)) (backT (shortT x)) A) : TW C H p (backT x) := (t.cong (spot_back hx) (back_shortT hx)).own
theorem sc_law : FnScope ["_law_script", "_law_bag", "_law_turn", "_law_words", "_law_step", "_law_whole", "_law_made", "_law_word_here", "_law_at", "_law_both", "_law_long", "_law_cut"] ["_law_script"] (defScope s_law) := ⟨rfl, rfl, rfl, by decide +kernel, rfl, by decide +kernel, by decide +kernel⟩
theorem ok_law {f : Addr} {fd : FuncData} (F : Fun K "law" "law" s_law f fd) (B : Blt mg) (T : TC K mg C) (mk : PySem.W.makesIn K C = true) (kc : PySem.W.keepIn K (.ref C) = true)
    (hBe : HasBegin P w K mg base) (hP : HasPull P w K mg base) (hA : HasAny P w K mg base) (hS1 : HasSame P w K mg base 1) (hS2 : HasSame P w K mg base 2) (hI : HasM P w K mg base C 3 "__init__" ["self", "word"] (spInit C))
    (hSp : HasM P w K mg base C 4 "spots" ["self"] (spSpots C)) (hEn : HasM P w K mg base C 1 "end" ["self"] (spEnd C)) (hJ : HasM P w K mg base C 6 "joined" ["self", "other"] (spJoined C)) (hBk : HasM P w K mg base C 6 "back" ["self"] (spBackM C)) (hEq : HasM P w K mg base C 1 "__eq__" ["self", "other"] (spEqT C))
    (hLs : HasLSpots P w K mg base) (hSh : HasShort P w K mg base) (hBa : HasBack P w K mg base) :
    FnOk P w K mg base CX0 8 f fd ["_law_script"] (spLaw K) := by
  obtain ⟨fB, fdB, gB, kB, bB, GB⟩ := hBe
  obtain ⟨fP, fdP, gP, kP, bP, GP⟩ := hP
  obtain ⟨fA, fdA, gA, kA, bA, GA0⟩ := hA
  have GA := FnHide GA0
  obtain ⟨fS1, fdS1, gS1, kS1, bS1, GS1⟩ := hS1
  obtain ⟨fS2, fdS2, gS2, kS2, bS2, GS2⟩ := hS2
  obtain ⟨fI, fdI, mI, bI, GI⟩ := hI
  obtain ⟨fO, fdO, mO, bO, GO⟩ := hSp
  obtain ⟨fN, fdN, mN, bN, GN⟩ := hEn
  obtain ⟨fJ, fdJ, mJ, bJ, GJ⟩ := hJ
  obtain ⟨fK, fdK, mK, bK, GK⟩ := hBk
  obtain ⟨fE, fdE, mE, bE, GE⟩ := hEq
  obtain ⟨fD, fdD, gD, kD, bD, GD⟩ := hLs
  obtain ⟨fH, fdH, gH, kH, bH, GH⟩ := hSh
  obtain ⟨fQ, fdQ, gQ, kQ, bQ, GQ⟩ := hBa
  have MI : Mk K C fI := ⟨mk, mI.at_, mI.fn, kc⟩
  refine F.ok sc_law (fun vs H Q E h => ?_) (fun cdv A outer s H vs Q E hr h => ?_)
  · obtain ⟨a, ns, rfl, _⟩ := h
    rfl
  · obtain ⟨a, ns, rfl, hS, hlen, q⟩ := h
    have hr1 : Room 1 _ := hr.mono (by decide)
    have hr2 : Room 2 _ := hr.mono (by decide)
    have hr3 : Room 3 _ := hr.mono (by decide)
    have hr4 : Room 4 _ := hr.mono (by decide)
    have hr6 : Room 6 _ := hr.mono (by decide)
    refine Tl.start (Tl.cons (fun σ' H' => ∃ b, σ' = [some (.ref a), some (.ref b), none, none, none, none, none, none, none, none, none, none] ∧ Bag H' b) ⟨_, ps_set (i := 1) sc_law.nd rfl (.inr rfl) (pe_call GB hr1 (by rfl) gB kB bB .nil pass0 (pa_cons (pv 0) pa_nil)), ?_⟩ (Tl.cons (fun _ _ => True)
      (Stp.rng (k := 2) (fun _ n i σ' H' => ∃ (b : Addr) (y2 y3 y4 y5 y6 y7 y8 y9 y10 y11 : Option V), σ' = [some (.ref a), some (.ref b), y2, y3, y4, y5, y6, y7, y8, y9, y10, y11] ∧ Bag H' b) PassesOwn.never rfl (pi_range1 rfl B.range (pa_cons pe_int pa_nil)) (pg_name (i := 2) sc_law.nd rfl (.inl rfl)) ?_ ?_ (fun _ _ _ _ _ => trivial)) ?_))
    · rintro _ D σ H0 ⟨rfl, rfl⟩ k
      exact ⟨_, rfl, a, ns, rfl, hS, fun b H1 nb B1 s1 => k _ _ ⟨b, rfl, B1⟩⟩
    · rintro _ σ H1 R ⟨b, rfl, B1⟩ k
      exact ⟨3, rfl, by decide, by decide, k _ _ ⟨b, none, none, none, none, none, none, none, none, none, none, rfl, B1⟩⟩
    · -- the words
      refine Blk.cons (fun _ σ' H' => ∃ (b wp : Addr) (y2 y4 y5 y6 y7 y8 y9 y10 y11 : Option V) (ws : List Str), σ' = [some (.ref a), some (.ref b), y2, some (.ref wp), y4, y5, y6, y7, y8, y9, y10, y11] ∧ Bag H' b ∧ H' wp = some (.lst (ws.map V.str)) ∧ (∀ x ∈ ws, Wd x ∧ x.length ≤ 8) ∧ 1 ≤ ws.length ∧ ws.length ≤ 7)
        ⟨_, ps_setLc (i := 3) (own := [("_law_step", 4)]) (g := gName 4) (tt := tYes) (by rfl) sc_law.nd rfl rfl (sw_true rfl rfl rfl (by decide +kernel)) (pi_range1 rfl B.range (pa_cons (pe_op op_add pe_int (pe_call GP hr1 (by rfl) gP kP bP .nil pass0 (pa_cons (pv 1) (pa_cons pe_int pa_nil)))) pa_nil))
          (blkOk_by (own := [("_law_step", 4)]) (N := ["_law_script", "_law_bag", "_law_turn", "_law_words", "_law_step", "_law_whole", "_law_made", "_law_word_here", "_law_at", "_law_both", "_law_long", "_law_cut"]) (sc := defScope s_law) (by decide +kernel)) (fun _ _ _ _ _ => pg_name (i := 4) sc_law.nd rfl (.inl rfl)) (fun _ _ _ _ _ => pts_nil)
          (fun _ _ _ _ _ => pe_call GA hr4 (by rfl) gA kA bA .nil pass0 (pa_cons (pv 1) (pa_cons pe_int pa_nil))), ?_⟩ ?_
      · rintro ⟨n, i⟩ D σ H3 ⟨hi, σ0, ⟨b, y2, y3, y4, y5, y6, y7, y8, y9, y10, y11, rfl, B3⟩, rfl⟩ k
        refine ⟨_, rfl, b, 7, rfl, B3, by decide, by decide, fun d H4 d0 d1 B4 f4 => ?_⟩
        refine ⟨_, _, rfl, rfl, _, rfl, by omega, by omega, fun L nL => ?_⟩
        refine lc_range (lo := 0) (n := (1 + d).toNat) (fun j H5 => ∃ ws : List Str, H5 L = some (.lst (ws.map V.str)) ∧ Bag (offH H5 L) b ∧ (∀ x ∈ ws, Wd x ∧ x.length ≤ 8) ∧ ws.length = j) ⟨[], upd_same, ?_, (fun x hx => by cases hx), rfl⟩ ?_ ?_
        · rw [off_upd nL]
          exact B4
        · rintro j H5 hj ⟨ws, hL, B5, hw, hl⟩
          refine ⟨rfl, yes_if ?_⟩
          refine ⟨_, rfl, L, _, hL, b, 8, rfl, B5, by decide, by decide, fun x H6 hx hxl B6 f6 nL6 => ?_⟩
          have hxl' : x.length ≤ 8 := hxl
          refine ⟨_, upd_same, ?_, ws ++ [x], ?_, ?_, fun y hy => ?_, by rw [List.length_append, hl]; rfl⟩
          · rw [List.length_map]
            exact lineLt_of (by omega)
          · rw [upd_same, List.map_append]
            rfl
          · rw [upd_upd, off_upd nL6]
            exact B6
          · rcases List.mem_append.mp hy with hy | hy
            · exact hw y hy
            · rw [List.mem_singleton] at hy
              rw [hy]
              exact ⟨hx, hxl'⟩
        · rintro H5 ⟨ws, hL, B5, hw, hl⟩
          exact k _ _ ⟨b, L, _, _, _, _, _, _, _, _, _, ws, rfl, B5.same (off_sub _ _), hL, hw, by omega, by omega⟩
      -- the whole
      refine Blk.cons (fun _ σ' H' => ∃ (b wp : Addr) (y2 y4 y6 y7 y8 y9 y10 y11 : Option V) (ws : List Str) (x : Str), σ' = [some (.ref a), some (.ref b), y2, some (.ref wp), y4, some (.str x), y6, y7, y8, y9, y10, y11] ∧ Bag H' b ∧ H' wp = some (.lst (ws.map V.str)) ∧ (∀ x ∈ ws, Wd x ∧ x.length ≤ 8) ∧ 1 ≤ ws.length ∧ ws.length ≤ 7 ∧ Wd x ∧ x.length ≤ 56 ∧ tl x = (ws.map tl).flatten)
        ⟨_, ps_set (i := 5) sc_law.nd rfl (.inl rfl) (pe_join pe_str (pv 3)), ?_⟩ ?_
      · rintro _ D σ H3 ⟨b, wp, y2, y4, y5, y6, y7, y8, y9, y10, y11, ws, rfl, B3, hwp, hw, w1, w7⟩ k
        have hlf := len_flat fun x hx => (hw x hx).2
        have h56 : (ws.map tl).flatten.length ≤ 56 := Nat.le_trans hlf (by omega)
        refine ⟨⟨_, rfl⟩, _, rfl, _, wp, ws, rfl, rfl, .inl (SqL.of hwp), ?_, ?_⟩
        · rw [sum_flat, len_empty]
          omega
        · rw [join_tl]
          exact k _ _ ⟨b, wp, _, _, _, _, _, _, _, _, ws, _, rfl, B3, hwp, hw, w1, w7, wd_flat fun x hx => (hw x hx).1, by rw [mkS_len]; exact h56, rfl⟩
      -- the tracks
      refine Blk.cons (fun _ σ' H' => ∃ (b wp mp : Addr) (y2 y4 y7 y8 y9 y10 y11 : Option V) (ws : List Str) (x : Str) (its : Its), σ' = [some (.ref a), some (.ref b), y2, some (.ref wp), y4, some (.str x), some (.ref mp), y7, y8, y9, y10, y11] ∧ Bag H' b ∧ H' wp = some (.lst (ws.map V.str)) ∧ Wd x ∧ x.length ≤ 56 ∧ H' mp = some (.lst (refs its)) ∧ (∀ p ∈ its, Wd p.2 ∧ p.2.length ≤ 56 ∧ TW C H' p.1 p.2) ∧ cat its = tl x ∧ its.length = ws.length ∧ 1 ≤ ws.length ∧ ws.length ≤ 7)
        ⟨_, ps_setLc (i := 6) (own := [("_law_word_here", 7)]) (g := gName 7) (tt := tYes) (by rfl) sc_law.nd rfl rfl (sw_true rfl rfl rfl (by decide +kernel)) (pi_list (pv 3))
          (blkOk_by (own := [("_law_word_here", 7)]) (N := ["_law_script", "_law_bag", "_law_turn", "_law_words", "_law_step", "_law_whole", "_law_made", "_law_word_here", "_law_at", "_law_both", "_law_long", "_law_cut"]) (sc := defScope s_law) (by decide +kernel)) (fun _ _ _ _ _ => pg_name (i := 7) sc_law.nd rfl (.inl rfl)) (fun _ _ _ _ _ => pts_nil)
          (fun _ _ _ _ _ => pe_make MI GI hr4 (by rfl) T.mgC bI .nil pass0 (pa_cons (pv 7) pa_nil)), ?_⟩ ?_
      · rintro _ D σ H3 ⟨b, wp, y2, y4, y6, y7, y8, y9, y10, y11, ws, x, rfl, B3, hwp, hw, w1, w7, hx, hxl, ex⟩ k
        refine ⟨_, rfl, wp, rfl, ⟨_, SqL.of hwp⟩, fun L nL => ?_⟩
        have nwL : wp ≠ L := ne_of_none hwp nL
        refine lc_list (K := K) (a := wp) (xs := ws.map V.str) (fun j H5 => ∃ its : Its, H5 L = some (.lst (refs its)) ∧ Bag (offH H5 L) b ∧ H5 wp = some (.lst (ws.map V.str)) ∧ (∀ p ∈ its, Wd p.2 ∧ p.2.length ≤ 8 ∧ TW C H5 p.1 p.2) ∧ its.map (·.2) = ws.take j)
          ⟨[], upd_same, ?_, by rw [upd_ne nwL]; exact hwp, (fun p hp => by cases hp), by rw [List.take_zero]; rfl⟩ (fun j H5 _ ⟨_, _, _, h, _⟩ => SqL.of h) ?_ ?_
        · rw [off_upd nL]
          exact B3
        · rintro j v H5 hj ⟨its, hL, B5, hwp5, hit, hm⟩
          obtain ⟨y, hy, rfl⟩ : ∃ y, ws[j]? = some y ∧ v = V.str y := by
            rw [List.getElem?_map] at hj
            cases e : ws[j]? with
            | none =>
              rw [e] at hj
              cases hj
            | some y =>
              rw [e] at hj
              exact ⟨y, rfl, (Option.some.inj hj).symm⟩
          have hyw := hw y (List.mem_of_getElem? hy)
          have hjl : j < ws.length := (List.getElem?_eq_some_iff.mp hy).1
          have hil : its.length = j := by
            have := congrArg List.length hm
            rw [List.length_map, List.length_take] at this
            omega
          refine ⟨rfl, yes_if ?_⟩
          refine ⟨_, rfl, fun p dx np ndx nex => ⟨p, dx, y, rfl, upd_same, hyw.1, by omega, fun H6 t6 k6 => ⟨rfl, ?_⟩⟩⟩
          have s6 : Same H5 H6 := Same.made np ndx k6
          have hL6 := s6 _ _ hL
          refine ⟨_, hL6, ?_, its ++ [(p, y)], ?_, ?_, ?_, fun r hr => ?_, ?_⟩
          · unfold refs
            rw [List.length_map]
            exact lineLt_of (by omega)
          · rw [upd_same]
            unfold refs
            rw [List.map_append]
            rfl
          · rw [off_upd2]
            exact B5.same (off_same2 s6)
          · rw [upd_ne (ne_of_none hwp nL)]
            exact s6 _ _ hwp5
          · rcases List.mem_append.mp hr with hr | hr
            · obtain ⟨r1, r2, r3⟩ := hit r hr
              exact ⟨r1, r2, (r3.same s6).updL hL6⟩
            · rw [List.mem_singleton] at hr
              rw [hr]
              exact ⟨hyw.1, hyw.2, (t6.own).updL hL6⟩
          · rw [List.map_append, hm, List.take_add_one, hy]
            rfl
        · rintro H5 ⟨its, hL, B5, hwp5, hit, hm⟩
          rw [List.length_map, List.take_length] at hm
          refine k _ _ ⟨b, wp, L, _, _, _, _, _, _, _, ws, x, its, rfl, B5.same (off_sub _ _), hwp5, hx, hxl, hL, fun p hp => ⟨(hit p hp).1, by have := (hit p hp).2.1; omega, (hit p hp).2.2⟩, ?_, by rw [← hm, List.length_map], w1, w7⟩
          rw [ex, ← hm]
          unfold cat
          rw [List.map_map]
          rfl
      -- joined
      refine Blk.cons (fun _ σ' H' => ∃ (b mp t : Addr) (y2 y3 y4 y7 y8 y9 y10 y11 : Option V) (x : Str), σ' = [some (.ref a), some (.ref b), y2, y3, y4, some (.str x), some (.ref mp), y7, y8, y9, y10, y11] ∧ Bag H' b ∧ Wd x ∧ x.length ≤ 56 ∧ H' mp = some (.lst [.ref t]) ∧ TW C H' t x)
        (Stp.rng (k := 4) (fun _ n i σ' H' => ∃ (b mp : Addr) (y2 y3 y4 y7 y8 y9 y10 y11 : Option V) (x : Str) (its : Its), σ' = [some (.ref a), some (.ref b), y2, y3, y4, some (.str x), some (.ref mp), y7, y8, y9, y10, y11] ∧ Bag H' b ∧ Wd x ∧ x.length ≤ 56 ∧ H' mp = some (.lst (refs its)) ∧ (∀ p ∈ its, Wd p.2 ∧ TW C H' p.1 p.2) ∧ cat its = tl x ∧ its.length + i = n + 1 ∧ n ≤ 6)
          PassesOwn.never rfl (pi_range1 rfl B.range (pa_cons (pe_op op_sub (pe_callB call_len_seq (by rfl) B.len PySem.boot_len (pa_cons (pv 3) pa_nil)) pe_int) pa_nil)) (pg_name (i := 4) sc_law.nd rfl (.inl rfl)) ?_ ?_ ?_) ?_
      · rintro _ σ H1 R ⟨b, wp, mp, y2, y4, y7, y8, y9, y10, y11, ws, x, its, rfl, B1, hwp, hx, hxl, hmp, hit, hc, hil, w1, w7⟩ k
        refine ⟨_, rfl, wp, _, rfl, .inl (SqL.of hwp), _, _, rfl, rfl, _, rfl, ?_, ?_, k _ _ ⟨b, mp, _, _, _, _, _, _, _, _, x, its, rfl, B1, hx, hxl, hmp, fun p hp => ⟨(hit p hp).1, (hit p hp).2.2⟩, hc, ?_, ?_⟩⟩
        all_goals rw [List.length_map]
        all_goals omega
      · -- at
        refine Blk.cons (fun i σ' H' => ∃ (b mp : Addr) (y2 y3 y4 y7 y9 y10 y11 : Option V) (x : Str) (its : Its) (d : Nat), σ' = [some (.ref a), some (.ref b), y2, y3, y4, some (.str x), some (.ref mp), y7, some (.int (d : Int)), y9, y10, y11] ∧ Bag H' b ∧ Wd x ∧ x.length ≤ 56 ∧ H' mp = some (.lst (refs its)) ∧ (∀ p ∈ its, Wd p.2 ∧ TW C H' p.1 p.2) ∧ cat its = tl x ∧ its.length + i.2.2 = i.2.1 + 1 ∧ i.2.1 ≤ 6 ∧ d + 1 < its.length)
          ⟨_, ps_set (i := 8) sc_law.nd rfl (.inl rfl) (pe_call GP hr1 (by rfl) gP kP bP .nil pass0 (pa_cons (pv 1) (pa_cons (pe_op op_sub (pe_callB call_len_seq (by rfl) B.len PySem.boot_len (pa_cons (pv 6) pa_nil)) pe_int) pa_nil))), ?_⟩ ?_
        · rintro ⟨_, n, i⟩ D σ H3 ⟨hi, σ0, ⟨b, mp, y2, y3, y4, y7, y8, y9, y10, y11, x, its, rfl, B3, hx, hxl, hmp, hit, hc, hil, hn⟩, rfl⟩ k
          have hi' : i < n := hi
          have hil' : its.length + i = n + 1 := hil
          have hn' : n ≤ 6 := hn
          have erl : (refs its).length = its.length := List.length_map ..
          refine ⟨_, rfl, _, rfl, mp, _, rfl, .inl (SqL.of hmp), _, _, rfl, rfl, b, _, rfl, B3, ?_, ?_, fun d H4 d0 d1 B4 f4 => ?_⟩
          · rw [erl]
            omega
          · rw [erl]
            omega
          · rw [erl] at d1
            obtain ⟨e, rfl⟩ : ∃ e : Nat, d = (e : Int) := ⟨d.toNat, by omega⟩
            exact k _ _ ⟨b, mp, _, _, _, _, _, _, _, x, its, e, rfl, B4, hx, hxl, f4 _ _ hmp (refs_ne hmp B3), fun p hp => ⟨(hit p hp).1, (hit p hp).2.fx B3 f4⟩, hc, hil', hn', by omega⟩
        -- both
        refine Blk.cons (fun i σ' H' => ∃ (b mp u : Addr) (y2 y3 y4 y7 y10 y11 : Option V) (x : Str) (its : Its) (d : Nat) (h : d + 1 < its.length), σ' = [some (.ref a), some (.ref b), y2, y3, y4, some (.str x), some (.ref mp), y7, some (.int (d : Int)), some (.ref u), y10, y11] ∧ Bag H' b ∧ Wd x ∧ x.length ≤ 56 ∧ H' mp = some (.lst (refs its)) ∧ (∀ p ∈ its, Wd p.2 ∧ TW C H' p.1 p.2) ∧ cat its = tl x ∧ its.length + i.2.2 = i.2.1 + 1 ∧ i.2.1 ≤ 6 ∧ TW C H' u (its[d].2 ++ its[d + 1].2))
          ⟨_, ps_set (i := 9) sc_law.nd rfl (.inl rfl) (pe_meth (pe_ix ix_list (pv 6) (pv 8) (fun _ _ => rfl)) T.cl mJ GJ hr6 bJ .nil pass0 (pa_cons (pe_ix ix_list (pv 6) (pe_op op_add (pv 8) pe_int) (fun _ _ => rfl)) pa_nil)), ?_⟩ ?_
        · rintro i D σ H3 ⟨b, mp, y2, y3, y4, y7, y9, y10, y11, x, its, d, rfl, B3, hx, hxl, hmp, hit, hc, hil, hn, hd⟩ k
          have m1 := hit _ (List.getElem_mem (show d < its.length by omega))
          have m2 := hit _ (List.getElem_mem hd)
          have lc : ∀ j (h : j < its.length), its[j].2.length ≤ 56 := fun j h => by
            have e : its = its.take j ++ its[j] :: its.drop (j + 1) := by
              rw [← List.drop_eq_getElem_cons h, List.take_append_drop]
            have e2 := congrArg List.length (hc.symm.trans (congrArg cat e))
            unfold cat at e2
            rw [List.map_append, List.flatten_append, List.map_cons, List.flatten_cons, List.length_append, List.length_append, ← len_tl, ← len_tl] at e2
            omega
          have l1 := lc d (by omega)
          have l2 := lc (d + 1) hd
          obtain ⟨d1, d2, k1, h1, _⟩ := id m1.2
          refine ⟨_, rfl, _, rfl, mp, _, d, _, rfl, rfl, SqL.of hmp, its_at (by omega), ?_⟩
          refine ⟨its[d].1, d1, _, rfl, h1, tf_no _ _ (by decide +kernel) (by decide +kernel), ?_⟩
          refine ⟨_, rfl, _, rfl, _, _, rfl, rfl, mp, _, _, .ref its[d + 1].1, rfl, rfl, SqL.of hmp, its_at hd, ?_⟩
          · exact ⟨_, _, _, _, _, _, _, _, rfl, m1.2, m2.2, by omega, fun u H4 nu s4 t4 => k _ _ ⟨b, mp, u, _, _, _, _, _, _, x, its, d, hd, rfl, B3.same s4, hx, hxl, s4 _ _ hmp, fun p hp => ⟨(hit p hp).1, (hit p hp).2.same s4⟩, hc, hil, hn, TW.join m1.1 m2.1 t4⟩⟩
        -- the next row
        refine Blk.one ⟨_, ps_set (i := 6) sc_law.nd rfl (.inl rfl) (pe_op op_cat (pe_op op_cat (pe_slice sl_list (pv 6) po_none (po_some (pv 8))) (pe_lst (pa_cons (pv 9) pa_nil))) (pe_slice sl_list (pv 6) (po_some (pe_op op_add (pv 8) pe_int)) po_none)), ?_⟩
        rintro i D σ H3 ⟨b, mp, u, y2, y3, y4, y7, y10, y11, x, its, d, hd, rfl, B3, hx, hxl, hmp, hit, hc, hil, hn, tu⟩ k
        have m1 := hit _ (List.getElem_mem (show d < its.length by omega))
        have m2 := hit _ (List.getElem_mem hd)
        refine ⟨_, rfl, _, rfl, _, rfl, mp, _, rfl, SqL.of hmp, fun p1 np1 => ?_⟩
        rw [cutR_to (by omega)]
        have s1 := same_upd (o := HO.lst (refs (its.take d))) np1
        refine ⟨_, rfl, (by show 1 ≤ sizeLine; decide), fun p2 np2 => ?_⟩
        have s2 := same_upd (o := HO.lst [V.ref u]) np2
        refine ⟨p1, p2, _, _, rfl, rfl, s2 _ _ upd_same, upd_same, ?_, fun p3 np3 => ?_⟩
        · unfold refs
          rw [List.length_map, List.length_take, List.length_singleton]
          exact line_of (by omega)
        have s3 := same_upd (o := HO.lst (refs (its.take d) ++ [V.ref u])) np3
        have s13 := (s1.trans s2).trans s3
        refine ⟨_, rfl, _, rfl, _, _, rfl, rfl, _, rfl, mp, _, rfl, SqL.of (s13 _ _ hmp), fun p4 np4 => ?_⟩
        have e2 : ((d : Int) + 2) = ((d + 2 : Nat) : Int) := by omega
        rw [e2, cutR_from (by omega)]
        have s4 := same_upd (o := HO.lst (refs (its.drop (d + 2)))) np4
        refine ⟨p3, p4, _, _, rfl, rfl, s4 _ _ upd_same, upd_same, ?_, fun p5 np5 => ?_⟩
        · unfold refs
          rw [List.length_append, List.length_map, List.length_map, List.length_take, List.length_drop, List.length_singleton]
          exact line_of (by omega)
        have s5 := same_upd (o := HO.lst (refs (its.take d) ++ [V.ref u] ++ refs (its.drop (d + 2)))) np5
        have s15 := (s13.trans s4).trans s5
        refine k _ _ ⟨b, p5, _, _, _, _, _, _, _, _, x, its.take d ++ [(u, its[d].2 ++ its[d + 1].2)] ++ its.drop (d + 2), rfl, B3.same s15, hx, hxl, ?_, fun r hr => ?_, by rw [cat_at hd]; exact hc, ?_, hn⟩
        · rw [upd_same]
          unfold refs
          rw [List.map_append, List.map_append]
          rfl
        · rcases List.mem_append.mp hr with hr | hr
          · rcases List.mem_append.mp hr with hr | hr
            · have := hit r (List.mem_of_mem_take hr)
              exact ⟨this.1, this.2.same s15⟩
            · rw [List.mem_singleton] at hr
              rw [hr]
              exact ⟨m1.1.app m2.1, tu.same s15⟩
          · have := hit r (List.mem_of_mem_drop hr)
            exact ⟨this.1, this.2.same s15⟩
        · have hil' := hil
          rw [List.length_append, List.length_append, List.length_take, List.length_drop, List.length_singleton]
          omega
      · rintro _ n σ H1 ⟨b, mp, y2, y3, y4, y7, y8, y9, y10, y11, x, its, rfl, B1, hx, hxl, hmp, hit, hc, hil, hn⟩
        have h1 : its.length = 1 := by omega
        match its, h1 with
        | [p], _ =>
          have hp := hit p (List.mem_singleton.mpr rfl)
          have e : p.2 = x := by
            refine ext_tl ?_
            rw [← hc]
            unfold cat
            simp
          rw [e] at hp
          exact ⟨b, mp, p.1, _, _, _, _, _, _, _, _, x, rfl, B1, hx, hxl, hmp, hp.2⟩
      -- spots and end
      refine Blk.cons (fun _ σ' H' => ∃ (b mp t : Addr) (y2 y3 y4 y7 y8 y9 y10 y11 : Option V) (x : Str), σ' = [some (.ref a), some (.ref b), y2, y3, y4, some (.str x), some (.ref mp), y7, y8, y9, y10, y11] ∧ Bag H' b ∧ Wd x ∧ x.length ≤ 56 ∧ H' mp = some (.lst [.ref t]) ∧ TW C H' t x)
        ⟨_, ps_if (pt_not (pt_val (pe_call GS2 hr3 (by rfl) gS2 kS2 bS2 .nil pass0 (pa_cons (pe_lst (pa_cons (pe_meth0 (pe_ix ix_list (pv 6) pe_int (fun _ _ => rfl)) T.cl mO GO hr4 bO .nil pass0) (pa_cons (pe_meth0 (pe_ix ix_list (pv 6) pe_int (fun _ _ => rfl)) T.cl mN GN hr1 bN .nil pass0) pa_nil)))
          (pa_cons (pe_lst (pa_cons (pe_call GD hr3 (by rfl) gD kD bD .nil pass0 (pa_cons (pv 5) pa_nil)) (pa_cons (pe_call GH hr2 (by rfl) gH kH bH .nil pass0 (pa_cons (pv 5) pa_nil)) pa_nil))) pa_nil))))) pss_never pss_nil, ?_⟩ ?_
      · rintro _ D σ H3 ⟨b, mp, t, y2, y3, y4, y7, y8, y9, y10, y11, x, rfl, B3, hx, hxl, hmp, tx⟩ k
        obtain ⟨dv, d, ks, hv, _⟩ := id tx
        refine ⟨_, rfl, mp, _, 0, _, rfl, rfl, SqL.of hmp, rfl, t, dv, _, rfl, hv, tf_no _ _ (by decide +kernel) (by decide +kernel), t, _, _, _, rfl, tx, by omega, fun p4 H4 L np4 s4 hp4 hR hm hL => ?_⟩
        obtain ⟨dv4, d4, ks4, hv4, _⟩ := id (tx.same s4)
        refine ⟨_, rfl, mp, _, 0, _, rfl, rfl, SqL.of (s4 _ _ hmp), rfl, t, dv4, _, rfl, hv4, tf_no _ _ (by decide +kernel) (by decide +kernel), t, _, _, _, rfl, tx.same s4, (by show 2 ≤ sizeLine; decide), fun p5 np5 => ?_⟩
        have s5 := same_upd (o := HO.lst [V.ref p4, V.str (shortT x)]) np5
        refine ⟨_, rfl, x, rfl, hx, by omega, fun p6 H6 L' np6 s6 hp6 hR' hm' hL' => ?_⟩
        refine ⟨_, rfl, x, rfl, hx, by omega, fun H7 s7 => ⟨(by show 2 ≤ sizeLine; decide), fun p8 np8 => ?_⟩⟩
        have e : L' = L := rises_ext hR' hR fun s => (hm' s).trans (hm s).symm
        subst e
        have s8 := same_upd (o := HO.lst [V.ref p6, V.str (shortT x)]) np8
        have s38 := (((s4.trans s5).trans s6).trans s7).trans s8
        refine ⟨_, _, rfl, eqv_two (s8 _ _ (s7 _ _ (s6 _ _ upd_same))) upd_same (eqv_ws (L := L') (s8 _ _ (s7 _ _ (s6 _ _ (s5 _ _ hp4)))) (s8 _ _ (s7 _ _ hp6)) (by omega)) (.flat rfl), fun H9 s9 => ⟨_, rfl, iteF ?_⟩⟩
        have s39 := s38.trans s9
        exact k _ _ ⟨b, mp, t, _, _, _, _, _, _, _, _, x, rfl, B3.same s39, hx, hxl, s39 _ _ hmp, tx.same s39⟩
      -- the long one
      refine Blk.cons (fun _ σ' H' => ∃ (b mp t g : Addr) (y2 y3 y4 y7 y8 y9 y11 : Option V) (x : Str), σ' = [some (.ref a), some (.ref b), y2, y3, y4, some (.str x), some (.ref mp), y7, y8, y9, some (.ref g), y11] ∧ Bag H' b ∧ Wd x ∧ x.length ≤ 56 ∧ H' mp = some (.lst [.ref t]) ∧ TW C H' t x ∧ TW C H' g (Txt.mul x 4))
        ⟨_, ps_set (i := 10) sc_law.nd rfl (.inl rfl) (pe_meth (pe_meth (pe_ix ix_list (pv 6) pe_int (fun _ _ => rfl)) T.cl mJ GJ hr6 bJ .nil pass0 (pa_cons (pe_ix ix_list (pv 6) pe_int (fun _ _ => rfl)) pa_nil)) T.cl mJ GJ hr6 bJ .nil pass0 (pa_cons (pe_meth (pe_ix ix_list (pv 6) pe_int (fun _ _ => rfl)) T.cl mJ GJ hr6 bJ .nil pass0 (pa_cons (pe_ix ix_list (pv 6) pe_int (fun _ _ => rfl)) pa_nil)) pa_nil)), ?_⟩ ?_
      · rintro _ D σ H3 ⟨b, mp, t, y2, y3, y4, y7, y8, y9, y10, y11, x, rfl, B3, hx, hxl, hmp, tx⟩ k
        have hxx : Wd (x ++ x) := hx.app hx
        have lxx : (x ++ x).length = x.length + x.length := len_app x x
        obtain ⟨dv, d, ks, hv, _⟩ := id tx
        refine ⟨_, rfl, mp, _, 0, _, rfl, rfl, SqL.of hmp, rfl, t, dv, _, rfl, hv, tf_no _ _ (by decide +kernel) (by decide +kernel), ?_⟩
        refine ⟨_, rfl, mp, _, 0, _, rfl, rfl, SqL.of hmp, rfl, t, t, _, _, _, _, _, _, rfl, tx, tx, by omega, fun p4 H4 np4 s4 t4 => ?_⟩
        have t4' := TW.join hx hx t4
        have tx4 := tx.same s4
        obtain ⟨d4, d5, k4, h4, _⟩ := id t4'
        obtain ⟨dv4, d6, k6, hv4, _⟩ := id tx4
        refine ⟨p4, d4, _, rfl, h4, tf_no _ _ (by decide +kernel) (by decide +kernel), ?_⟩
        refine ⟨_, rfl, mp, _, 0, _, rfl, rfl, SqL.of (s4 _ _ hmp), rfl, t, dv4, _, rfl, hv4, tf_no _ _ (by decide +kernel) (by decide +kernel), ?_⟩
        refine ⟨_, rfl, mp, _, 0, _, rfl, rfl, SqL.of (s4 _ _ hmp), rfl, t, t, _, _, _, _, _, _, rfl, tx4, tx4, by omega, fun p5 H5 np5 s5 t5 => ?_⟩
        have t5' := TW.join hx hx t5
        refine ⟨p4, p5, _, _, _, _, _, _, rfl, t4'.same s5, t5', by omega, fun g H6 ng s6 t6 => ?_⟩
        have t6' := TW.join hxx hxx t6
        rw [← app_assoc, ← mul4] at t6'
        have s36 := (s4.trans s5).trans s6
        exact k _ _ ⟨b, mp, t, g, _, _, _, _, _, _, _, x, rfl, B3.same s36, hx, hxl, s36 _ _ hmp, tx.same s36, t6'⟩
      refine Blk.cons (fun _ σ' H' => ∃ (b mp t g : Addr) (y2 y3 y4 y7 y8 y9 y11 : Option V) (x : Str), σ' = [some (.ref a), some (.ref b), y2, y3, y4, some (.str x), some (.ref mp), y7, y8, y9, some (.ref g), y11] ∧ Bag H' b ∧ Wd x ∧ x.length ≤ 56 ∧ H' mp = some (.lst [.ref t]) ∧ TW C H' t x ∧ TW C H' g (Txt.mul x 4))
        ⟨_, ps_if (pt_not (pt_val (pe_call GS2 hr3 (by rfl) gS2 kS2 bS2 .nil pass0 (pa_cons (pe_lst (pa_cons (pe_meth0 (pv 10) T.cl mO GO hr4 bO .nil pass0) (pa_cons (pe_meth0 (pv 10) T.cl mN GN hr1 bN .nil pass0) pa_nil)))
          (pa_cons (pe_lst (pa_cons (pe_call GD hr3 (by rfl) gD kD bD .nil pass0 (pa_cons (pe_op op_mul_str (pv 5) pe_int) pa_nil)) (pa_cons (pe_call GH hr2 (by rfl) gH kH bH .nil pass0 (pa_cons (pe_op op_mul_str (pv 5) pe_int) pa_nil)) pa_nil))) pa_nil))))) pss_never pss_nil, ?_⟩ ?_
      · rintro _ D σ H3 ⟨b, mp, t, g, y2, y3, y4, y7, y8, y9, y11, x, rfl, B3, hx, hxl, hmp, tx, tv⟩ k
        have hx4 : Wd (Txt.mul x 4) := hx.mul
        have l4 : (Txt.mul x 4).length = x.length * 4 := mul_len (by decide)
        obtain ⟨dv, d, ks, hv, _⟩ := id tv
        refine ⟨_, rfl, g, dv, _, rfl, hv, tf_no _ _ (by decide +kernel) (by decide +kernel), g, _, _, _, rfl, tv, by omega, fun p4 H4 L np4 s4 hp4 hR hm hL => ?_⟩
        obtain ⟨dv4, d4, ks4, hv4, _⟩ := id (tv.same s4)
        refine ⟨_, rfl, g, dv4, _, rfl, hv4, tf_no _ _ (by decide +kernel) (by decide +kernel), g, _, _, _, rfl, tv.same s4, (by show 2 ≤ sizeLine; decide), fun p5 np5 => ?_⟩
        have s5 := same_upd (o := HO.lst [V.ref p4, V.str (shortT (Txt.mul x 4))]) np5
        refine ⟨_, rfl, x, 4, rfl, rfl, by decide, by decide, by omega, _, rfl, hx4, by omega, fun p6 H6 L' np6 s6 hp6 hR' hm' hL' => ?_⟩
        refine ⟨_, rfl, x, 4, rfl, rfl, by decide, by decide, by omega, _, rfl, hx4, by omega, fun H7 s7 => ⟨(by show 2 ≤ sizeLine; decide), fun p8 np8 => ?_⟩⟩
        have e : L' = L := rises_ext hR' hR fun s => (hm' s).trans (hm s).symm
        subst e
        have s8 := same_upd (o := HO.lst [V.ref p6, V.str (shortT (Txt.mul x 4))]) np8
        have s38 := (((s4.trans s5).trans s6).trans s7).trans s8
        refine ⟨_, _, rfl, eqv_two (s8 _ _ (s7 _ _ (s6 _ _ upd_same))) upd_same (eqv_ws (L := L') (s8 _ _ (s7 _ _ (s6 _ _ (s5 _ _ hp4)))) (s8 _ _ (s7 _ _ hp6)) (by omega)) (.flat rfl), fun H9 s9 => ⟨_, rfl, iteF ?_⟩⟩
        have s39 := s38.trans s9
        exact k _ _ ⟨b, mp, t, g, _, _, _, _, _, _, _, x, rfl, B3.same s39, hx, hxl, s39 _ _ hmp, tx.same s39, tv.same s39⟩
      -- turned back
      refine Blk.cons (fun _ σ' H' => ∃ (b mp t : Addr) (y2 y3 y4 y7 y8 y9 y10 y11 : Option V) (x : Str), σ' = [some (.ref a), some (.ref b), y2, y3, y4, some (.str x), some (.ref mp), y7, y8, y9, y10, y11] ∧ Bag H' b ∧ Wd x ∧ x.length ≤ 56 ∧ H' mp = some (.lst [.ref t]) ∧ TW C H' t x)
        ⟨_, ps_if (pt_not (pt_val (pe_call GS1 hr2 (by rfl) gS1 kS1 bS1 .nil pass0 (pa_cons (pe_meth0 (pe_meth0 (pv 10) T.cl mK GK hr6 bK .nil pass0) T.cl mO GO hr4 bO .nil pass0)
          (pa_cons (pe_call GD hr3 (by rfl) gD kD bD .nil pass0 (pa_cons (pe_call GQ hr2 (by rfl) gQ kQ bQ .nil pass0 (pa_cons (pe_op op_mul_str (pv 5) pe_int) pa_nil)) pa_nil)) pa_nil))))) pss_never pss_nil, ?_⟩ ?_
      · rintro _ D σ H3 ⟨b, mp, t, g, y2, y3, y4, y7, y8, y9, y11, x, rfl, B3, hx, hxl, hmp, tx, tv⟩ k
        have hx4 : Wd (Txt.mul x 4) := hx.mul
        have l4 : (Txt.mul x 4).length = x.length * 4 := mul_len (by decide)
        have hb4 : Wd (backT (Txt.mul x 4)) := backT_wd hx4
        have lb4 : (backT (Txt.mul x 4)).length = x.length * 4 := (backT_len _).trans l4
        obtain ⟨dv, d, ks, hv, _⟩ := id tv
        refine ⟨_, rfl, g, dv, _, rfl, hv, tf_no _ _ (by decide +kernel) (by decide +kernel), g, _, _, _, rfl, tv, by omega, fun p4 H4 np4 s4 t4 => ?_⟩
        have t4' := TW.back hx4 t4
        obtain ⟨dv4, d4, ks4, hv4, _⟩ := id t4'
        refine ⟨p4, dv4, _, rfl, hv4, tf_no _ _ (by decide +kernel) (by decide +kernel), p4, _, _, _, rfl, t4', by omega, fun p5 H5 L np5 s5 hp5 hR hm hL => ?_⟩
        refine ⟨_, rfl, x, 4, rfl, rfl, by decide, by decide, by omega, _, rfl, hx4, by omega, fun H6 s6 => ⟨_, rfl, hb4, by omega, fun p7 H7 L' np7 s7 hp7 hR' hm' hL' => ?_⟩⟩
        have e : L' = L := rises_ext hR' hR fun s => (hm' s).trans (hm s).symm
        subst e
        refine ⟨_, _, rfl, eqv_ws (L := L') (s7 _ _ (s6 _ _ hp5)) hp7 (by omega), fun H8 s8 => ⟨_, rfl, iteF ?_⟩⟩
        have s38 := (((s4.trans s5).trans s6).trans s7).trans s8
        exact k _ _ ⟨b, mp, t, _, _, _, _, _, _, _, _, x, rfl, B3.same s38, hx, hxl, s38 _ _ hmp, tx.same s38⟩
      -- cut
      refine Blk.cons (fun _ σ' H' => ∃ (b mp t : Addr) (y2 y3 y4 y7 y8 y9 y10 : Option V) (x : Str) (d : Nat), σ' = [some (.ref a), some (.ref b), y2, y3, y4, some (.str x), some (.ref mp), y7, y8, y9, y10, some (.int (d : Int))] ∧ Bag H' b ∧ Wd x ∧ x.length ≤ 56 ∧ H' mp = some (.lst [.ref t]) ∧ TW C H' t x ∧ d ≤ x.length)
        ⟨_, ps_set (i := 11) sc_law.nd rfl (.inl rfl) (pe_call GP hr1 (by rfl) gP kP bP .nil pass0 (pa_cons (pv 1) (pa_cons (pe_op op_add (pe_callB call_len_str (by rfl) B.len PySem.boot_len (pa_cons (pv 5) pa_nil)) pe_int) pa_nil))), ?_⟩ ?_
      · rintro _ D σ H3 ⟨b, mp, t, y2, y3, y4, y7, y8, y9, y10, y11, x, rfl, B3, hx, hxl, hmp, tx⟩ k
        refine ⟨_, rfl, _, rfl, x, rfl, line_of (by omega), _, _, rfl, rfl, b, _, rfl, B3, by omega, by omega, fun d H4 d0 d1 B4 f4 => ?_⟩
        obtain ⟨e, rfl⟩ : ∃ e : Nat, d = (e : Int) := ⟨d.toNat, by omega⟩
        have nmb : mp ≠ b := refs_ne (its := [(t, x)]) hmp B3
        exact k _ _ ⟨b, mp, t, _, _, _, _, _, _, _, x, e, rfl, B4, hx, hxl, f4 _ _ hmp nmb, tx.fx B3 f4, by omega⟩
      refine Blk.one ⟨_, ps_if (PW.pt (pw_and (pt_cmpR op_le (pe_callB call_len_str (by rfl) B.len PySem.boot_len (pa_cons (pv 5) pa_nil)) pe_int (nomark _)) (pw_and1 (pt_cmpR (op_neOwn (C := C) GE mE.at_ mE.fn bE T.ne T.hm hr2) (pe_ix ix_list (pv 6) pe_int (fun _ _ => rfl))
          (pe_meth (pe_make MI GI hr4 (by rfl) T.mgC bI .nil pass0 (pa_cons (pe_slice sl_str (pv 5) po_none (po_some (pv 11))) pa_nil)) T.cl mJ GJ hr6 bJ .nil pass0 (pa_cons (pe_make MI GI hr4 (by rfl) T.mgC bI .nil pass0 (pa_cons (pe_slice sl_str (pv 5) (po_some (pv 11)) po_none) pa_nil)) pa_nil)) (nomark _))))) pss_never pss_nil, ?_⟩
      rintro _ D σ H3 ⟨b, mp, t, y2, y3, y4, y7, y8, y9, y10, x, d, rfl, B3, hx, hxl, hmp, tx, hd⟩ k
      refine ⟨_, rfl, x, rfl, line_of (by omega), _, _, rfl, rfl, _, rfl, ite2 (fun _ => ?_) (fun z => absurd (decide_eq_true (by omega)) z)⟩
      have l1 := cutS_length x none (some (d : Int))
      have l2 := cutS_length x (some (d : Int)) none
      have ecut : cutS x none (some (d : Int)) ++ cutS x (some (d : Int)) none = x := by
        refine ext_tl ?_
        rw [tl_append, cut_to (by omega) (by omega), cut_from (by omega) (by omega), List.take_append_drop]
      have w1 : Wd (cutS x none (some (d : Int))) := Wd.cut hx
      have w2 : Wd (cutS x (some (d : Int)) none) := Wd.cut hx
      refine ⟨_, rfl, mp, _, 0, _, rfl, rfl, SqL.of hmp, rfl, ?_⟩
      refine ⟨_, rfl, _, rfl, _, rfl, x, rfl, line_of (by omega), fun p4 dx4 np4 nd4 ne4 => ⟨p4, dx4, _, rfl, upd_same, w1, by omega, fun H5 t5 k5 => ⟨rfl, ?_⟩⟩⟩
      have s5 : Same H3 H5 := Same.made np4 nd4 k5
      obtain ⟨d5, d6, ks5, h5, _⟩ := id t5
      refine ⟨p4, d5, _, rfl, h5, tf_no _ _ (by decide +kernel) (by decide +kernel), ?_⟩
      refine ⟨_, rfl, _, rfl, _, rfl, x, rfl, line_of (by omega), fun p6 dx6 np6 nd6 ne6 => ⟨p6, dx6, _, rfl, upd_same, w2, by omega, fun H7 t7 k7 => ⟨rfl, ?_⟩⟩⟩
      have s7 : Same H5 H7 := Same.made np6 nd6 k7
      refine ⟨p4, p6, _, _, _, _, _, _, rfl, t5.same s7, t7, by decide, fun p8 H8 np8 s8 t8 => ?_⟩
      have t8' := TW.join w1 w2 t8
      rw [ecut] at t8'
      have s38 := (s5.trans s7).trans s8
      have tx8 := tx.same s38
      obtain ⟨d9, d10, k9, h9, _⟩ := id tx8
      obtain ⟨d11, d12, k11, h11, _⟩ := id t8'
      exact ⟨t, p8, d9, d11, _, _, rfl, rfl, h9, h11, ⟨t, p8, _, _, _, _, _, rfl, tx8, t8', fun _ => Iff.rfl, true, rfl, _, rfl, iteF (k _ _ ⟨b, _, _, _, _, _, _, _, _, _, _, rfl, B3.same s38⟩)⟩⟩
    · exact ⟨_, pss_one (ps_ret pe_bl), fun σ H3 _ => q H3⟩
end
end Sf
namespace Sf
open PySem PySem.Spec PyProof.Rows L2 TL
theorem all_mk {P : Program} {w : World} {K : PySem.W.Frag} {h : Heap} {mg : Str → Option Value} {fa f : Addr} (X : K.In h) (G : h.Ns mainGlobals mg) (hfa : mg "law" = some (.ref fa))
    {od an : Option Addr} {sl : Array (Option Value)} {oc kV dc pm cd ct : Value}
    (aL : PySem.W.nsIn K mainGlobals "law" = some (some (.ref f))) (lL : K.lookup f = some ⟨oc, od, .func (PySem.W.fnOf "law" "law" (defArgs s_law) (defBody s_law) (defScope s_law) .none kV dc pm an cd ct), sl⟩) (cL : PySem.W.codeIn K cd "law" = true) (kL : PySem.W.keepIn K (.ref f) = true)
    (F_law_begin : FnAt K mg "_law_begin" s__law_begin ["_law_script"])
    (F_law_pull : FnAt K mg "_law_pull" s__law_pull ["_law_bag", "_law_many"])
    (F_law_flip : FnAt K mg "_law_flip" s__law_flip ["_law_sign_here"])
    (F_law_sign : FnAt K mg "_law_sign" s__law_sign ["_law_bag", "_law_many"])
    (F_law_word : FnAt K mg "_law_word" s__law_word ["_law_bag", "_law_upto", "_law_many"])
    (F_law_any_word : FnAt K mg "_law_any_word" s__law_any_word ["_law_bag", "_law_upto"])
    (F_law_same : FnAt K mg "_law_same" s__law_same ["_law_found", "_law_due"])
    (Fis_word : FnAt K mg "is_word" s_is_word ["text"])
    (Fneed_word : FnAt K mg "need_word" s_need_word ["text"])
    (Fglued : FnAt K mg "glued" s_glued ["one", "other"])
    (Frank : FnAt K mg "rank" s_rank ["word"])
    (F_law_rank : FnAt K mg "_law_rank" s__law_rank ["_law_word_here"])
    (F_law_rise : FnAt K mg "_law_rise" s__law_rise ["_law_words"])
    (F_law_short : FnAt K mg "_law_short" s__law_short ["_law_word_here"])
    (F_law_spots : FnAt K mg "_law_spots" s__law_spots ["_law_word_here"])
    (Fturned : FnAt K mg "turned" s_turned ["word"])
    (Fmoved : FnAt K mg "moved" s_moved ["start", "spots"])
    (Ftrack_of : FnAt K mg "track_of" s_track_of ["spots", "last"])
    (F_law_back : FnAt K mg "_law_back" s__law_back ["_law_word_here"])
    (B : Blt mg) {t_MOST_WORD : Tok} (CMOST_WORD : mg "MOST_WORD" = some (.int 60 t_MOST_WORD)) {t_SIGNS : Tok} (CSIGNS : mg "SIGNS" = some (.str (Str.ofString "aAbBcCdDeEfFgGhH") t_SIGNS)) {C : Addr} (T : TC K mg C) (mk : PySem.W.makesIn K C = true) (kc : PySem.W.keepIn K (.ref C) = true)
    (M__init__ : MAt K C "__init__" "Track.__init__" s_Track___init__ ["self", "word"])
    (Mspots : MAt K C "spots" "Track.spots" s_Track_spots ["self"])
    (Mend : MAt K C "end" "Track.end" s_Track_end ["self"])
    (Mjoined : MAt K C "joined" "Track.joined" s_Track_joined ["self", "other"])
    (Mback : MAt K C "back" "Track.back" s_Track_back ["self"])
    (M__eq__ : MAt K C "__eq__" "Track.__eq__" s_Track___eq__ ["self", "other"]) :
    ∃ fd : FuncData, (∀ (s : Shared) (v : Value), BindsTo s fd ⟨[v], []⟩ [("_law_script", v)]) ∧ ∀ base : Heap, K.In base → base.Ns mainGlobals mg → FnOk P w K mg base CX0 8 fa fd ["_law_script"] (spLaw K) := by
  have e := hfa.symm.trans (PySem.W.mg_of X G aL)
  cases e
  have FL := fun_mk (st := s_law) lL cL kL
  refine ⟨PySem.W.fnOf "law" "law" (defArgs s_law) (defBody s_law) (defScope s_law) .none kV dc pm an cd ct, fun s v => .of_eq rfl, fun base _ _ => ?_⟩
  have hBe := has_begin (P := P) (w := w) (base := base) F_law_begin B
  have hP := has_pull (P := P) (w := w) (base := base) F_law_pull B
  have hFl := has_flip (P := P) (w := w) (base := base) F_law_flip
  have hSi := has_sign (P := P) (w := w) (base := base) F_law_sign hP
  have hW := has_word (P := P) (w := w) (base := base) F_law_word B hP hSi hFl
  have hA := has_any (P := P) (w := w) (base := base) F_law_any_word hP hW
  have hS := has_same (P := P) (w := w) (base := base) F_law_same B
  have hIw := has_isword (P := P) (w := w) (base := base) Fis_word B CMOST_WORD CSIGNS
  have hN := has_need (P := P) (w := w) (base := base) Fneed_word hIw
  have hG := has_glued (P := P) (w := w) (base := base) Fglued B B.min
  have hRk := has_rank (P := P) (w := w) (base := base) Frank B
  have hRl := has_rankL (P := P) (w := w) (base := base) F_law_rank B
  have hRi := has_rise (P := P) (w := w) (base := base) F_law_rise B hRl
  have hSh := has_short (P := P) (w := w) (base := base) F_law_short hFl
  have hLs := has_lspots (P := P) (w := w) (base := base) F_law_spots B hRi hSh
  have hI := has_init (P := P) (w := w) (base := base) M__init__ T hN hG
  have hT := has_turned (P := P) (w := w) (base := base) Fturned
  have hMv := has_moved (P := P) (w := w) (base := base) Fmoved hG
  have hTo := has_trackof (P := P) (w := w) (base := base) Ftrack_of T mk kc hI
  have hSp := has_spots (P := P) (w := w) (base := base) Mspots T B hRk
  have hEn := has_end (P := P) (w := w) (base := base) Mend T
  have hJ := has_joined (P := P) (w := w) (base := base) Mjoined T hMv hTo hG
  have hBk := has_backM (P := P) (w := w) (base := base) Mback T hMv hTo hT
  have hEq := has_eq (P := P) (w := w) (base := base) M__eq__ T B
  have hBa := has_back (P := P) (w := w) (base := base) F_law_back hFl
  exact ok_law FL B T mk kc hBe hP hA (hS 1) (hS 2) hI hSp hEn hJ hBk hEq hLs hSh hBa
end Sf
open PySem PySem.W PyProof.Rows
set_option maxRecDepth 100000 in
set_option maxHeartbeats 0 in
theorem PySem.Challenge.cw_spoorfold_k10_whole_tracks_joined_in_any_holds : PySem.Challenge.rw_spoorfold_k10_whole_tracks_joined_in_any.Holds := by
  w_on; o_law; k_head; (case hw => w_witness2)
  k_fill
  refine L2.walk_of (l := PySem.Challenge.rw_spoorfold_k10_whole_tracks_joined_in_any) (n := 63) (k := 8) (x := "_law_script") (CX := fun _ => L2.CX0) (sp := fun w => Sf.spLaw _) rfl (by decide) rfl ⟨rfl, by decide, by decide⟩ (fun w h Y => PySem.W.kIn_of Y) ?F (fun _ _ a ns hl _ hS => ⟨a, ns, rfl, hS, hl, fun _ => rfl⟩) (fun _ _ _ _ _ h => h)
  case F =>
    intro w mg fa h KX G hmg
    refine' Sf.all_mk KX G hmg ?aL ?lL ?cL ?kL (Sf.fnAt_mk KX G ?a0 ?l0 ?c0 ?k0 (fun _ _ _ _ _ _ us hl => match us, hl with | [_], _ => rfl)) (Sf.fnAt_mk KX G ?a1 ?l1 ?c1 ?k1 (fun _ _ _ _ _ _ us hl => match us, hl with | [_, _], _ => rfl)) (Sf.fnAt_mk KX G ?a2 ?l2 ?c2 ?k2 (fun _ _ _ _ _ _ us hl => match us, hl with | [_], _ => rfl)) (Sf.fnAt_mk KX G ?a3 ?l3 ?c3 ?k3 (fun _ _ _ _ _ _ us hl => match us, hl with | [_, _], _ => rfl)) (Sf.fnAt_mk KX G ?a4 ?l4 ?c4 ?k4 (fun _ _ _ _ _ _ us hl => match us, hl with | [_, _, _], _ => rfl)) (Sf.fnAt_mk KX G ?a5 ?l5 ?c5 ?k5 (fun _ _ _ _ _ _ us hl => match us, hl with | [_, _], _ => rfl)) (Sf.fnAt_mk KX G ?a6 ?l6 ?c6 ?k6 (fun _ _ _ _ _ _ us hl => match us, hl with | [_, _], _ => rfl)) (Sf.fnAt_mk KX G ?a7 ?l7 ?c7 ?k7 (fun _ _ _ _ _ _ us hl => match us, hl with | [_], _ => rfl)) (Sf.fnAt_mk KX G ?a8 ?l8 ?c8 ?k8 (fun _ _ _ _ _ _ us hl => match us, hl with | [_], _ => rfl)) (Sf.fnAt_mk KX G ?a9 ?l9 ?c9 ?k9 (fun _ _ _ _ _ _ us hl => match us, hl with | [_, _], _ => rfl)) (Sf.fnAt_mk KX G ?a10 ?l10 ?c10 ?k10 (fun _ _ _ _ _ _ us hl => match us, hl with | [_], _ => rfl)) (Sf.fnAt_mk KX G ?a11 ?l11 ?c11 ?k11 (fun _ _ _ _ _ _ us hl => match us, hl with | [_], _ => rfl)) (Sf.fnAt_mk KX G ?a12 ?l12 ?c12 ?k12 (fun _ _ _ _ _ _ us hl => match us, hl with | [_], _ => rfl)) (Sf.fnAt_mk KX G ?a13 ?l13 ?c13 ?k13 (fun _ _ _ _ _ _ us hl => match us, hl with | [_], _ => rfl)) (Sf.fnAt_mk KX G ?a14 ?l14 ?c14 ?k14 (fun _ _ _ _ _ _ us hl => match us, hl with | [_], _ => rfl)) (Sf.fnAt_mk KX G ?a15 ?l15 ?c15 ?k15 (fun _ _ _ _ _ _ us hl => match us, hl with | [_], _ => rfl)) (Sf.fnAt_mk KX G ?a16 ?l16 ?c16 ?k16 (fun _ _ _ _ _ _ us hl => match us, hl with | [_, _], _ => rfl)) (Sf.fnAt_mk KX G ?a17 ?l17 ?c17 ?k17 (fun _ _ _ _ _ _ us hl => match us, hl with | [_, _], _ => rfl)) (Sf.fnAt_mk KX G ?a18 ?l18 ?c18 ?k18 (fun _ _ _ _ _ _ us hl => match us, hl with | [_], _ => rfl)) ⟨PySem.W.mg_none_of KX G ?z0, PySem.W.mg_none_of KX G ?z1, PySem.W.mg_none_of KX G ?z2, PySem.W.mg_none_of KX G ?z3, PySem.W.mg_none_of KX G ?z4, PySem.W.mg_none_of KX G ?z5, PySem.W.mg_none_of KX G ?z6, PySem.W.mg_none_of KX G ?z7, PySem.W.mg_none_of KX G ?z8, PySem.W.mg_none_of KX G ?z9, PySem.W.mg_none_of KX G ?z10, PySem.W.mg_none_of KX G ?z11⟩ (PySem.W.mg_of KX G ?d0) (PySem.W.mg_of KX G ?d1) (Sf.TC.mk ⟨?pg, ?hd, ?po, ?sa⟩ ?nP ?nL (PySem.W.mg_of KX G ?aC) ?ha ?hn ?htk ?hm ?ne) ?mk ?kc (Sf.mAt_mk ?ma0 ?mi0 ?ml0 ?mc0 ?mk0 (fun _ _ _ _ _ _ us hl => match us, hl with | [_, _], _ => rfl)) (Sf.mAt_mk ?ma1 ?mi1 ?ml1 ?mc1 ?mk1 (fun _ _ _ _ _ _ us hl => match us, hl with | [_], _ => rfl)) (Sf.mAt_mk ?ma2 ?mi2 ?ml2 ?mc2 ?mk2 (fun _ _ _ _ _ _ us hl => match us, hl with | [_], _ => rfl)) (Sf.mAt_mk ?ma3 ?mi3 ?ml3 ?mc3 ?mk3 (fun _ _ _ _ _ _ us hl => match us, hl with | [_, _], _ => rfl)) (Sf.mAt_mk ?ma4 ?mi4 ?ml4 ?mc4 ?mk4 (fun _ _ _ _ _ _ us hl => match us, hl with | [_], _ => rfl)) (Sf.mAt_mk ?ma5 ?mi5 ?ml5 ?mc5 ?mk5 (fun _ _ _ _ _ _ us hl => match us, hl with | [_, _], _ => rfl))
    (case aL => k_is)
    (case lL => k_is)
    (case cL => k_is)
    (case kL => k_is)
    (case a0 => k_is)
    (case l0 => k_is)
    (case c0 => k_is)
    (case k0 => k_is)
    (case a1 => k_is)
    (case l1 => k_is)
    (case c1 => k_is)
    (case k1 => k_is)
    (case a2 => k_is)
    (case l2 => k_is)
    (case c2 => k_is)
    (case k2 => k_is)
    (case a3 => k_is)
    (case l3 => k_is)
    (case c3 => k_is)
    (case k3 => k_is)
    (case a4 => k_is)
    (case l4 => k_is)
    (case c4 => k_is)
    (case k4 => k_is)
    (case a5 => k_is)
    (case l5 => k_is)
    (case c5 => k_is)
    (case k5 => k_is)
    (case a6 => k_is)
    (case l6 => k_is)
    (case c6 => k_is)
    (case k6 => k_is)
    (case a7 => k_is)
    (case l7 => k_is)
    (case c7 => k_is)
    (case k7 => k_is)
    (case a8 => k_is)
    (case l8 => k_is)
    (case c8 => k_is)
    (case k8 => k_is)
    (case a9 => k_is)
    (case l9 => k_is)
    (case c9 => k_is)
    (case k9 => k_is)
    (case a10 => k_is)
    (case l10 => k_is)
    (case c10 => k_is)
    (case k10 => k_is)
    (case a11 => k_is)
    (case l11 => k_is)
    (case c11 => k_is)
    (case k11 => k_is)
    (case a12 => k_is)
    (case l12 => k_is)
    (case c12 => k_is)
    (case k12 => k_is)
    (case a13 => k_is)
    (case l13 => k_is)
    (case c13 => k_is)
    (case k13 => k_is)
    (case a14 => k_is)
    (case l14 => k_is)
    (case c14 => k_is)
    (case k14 => k_is)
    (case a15 => k_is)
    (case l15 => k_is)
    (case c15 => k_is)
    (case k15 => k_is)
    (case a16 => k_is)
    (case l16 => k_is)
    (case c16 => k_is)
    (case k16 => k_is)
    (case a17 => k_is)
    (case l17 => k_is)
    (case c17 => k_is)
    (case k17 => k_is)
    (case a18 => k_is)
    (case l18 => k_is)
    (case c18 => k_is)
    (case k18 => k_is)
    (case z0 => k_is)
    (case z1 => k_is)
    (case z2 => k_is)
    (case z3 => k_is)
    (case z4 => k_is)
    (case z5 => k_is)
    (case z6 => k_is)
    (case z7 => k_is)
    (case z8 => k_is)
    (case z9 => k_is)
    (case z10 => k_is)
    (case z11 => k_is)
    (case d0 => k_is)
    (case d1 => k_is)
    (case aC => k_is)
    (case pg => k_is)
    (case hd => k_is)
    (case po => k_is)
    (case sa => k_is)
    (case nP => k_is)
    (case nL => k_is)
    (case ha => k_is)
    (case hn => k_is)
    (case htk => k_is)
    (case hm => k_is)
    (case ne => k_is)
    (case mk => k_is)
    (case kc => k_is)
    (case ma0 => k_is)
    (case mi0 => k_is)
    (case ml0 => k_is)
    (case mc0 => k_is)
    (case mk0 => k_is)
    (case ma1 => k_is)
    (case mi1 => k_is)
    (case ml1 => k_is)
    (case mc1 => k_is)
    (case mk1 => k_is)
    (case ma2 => k_is)
    (case mi2 => k_is)
    (case ml2 => k_is)
    (case mc2 => k_is)
    (case mk2 => k_is)
    (case ma3 => k_is)
    (case mi3 => k_is)
    (case ml3 => k_is)
    (case mc3 => k_is)
    (case mk3 => k_is)
    (case ma4 => k_is)
    (case mi4 => k_is)
    (case ml4 => k_is)
    (case mc4 => k_is)
    (case mk4 => k_is)
    (case ma5 => k_is)
    (case mi5 => k_is)
    (case ml5 => k_is)
    (case mc5 => k_is)
    (case mk5 => k_is)
