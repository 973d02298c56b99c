import PyProof.Rows.All
import Wide.All
import OpenK.AllK
import Wide.FinOn
import HandS.ForMost
import HandS.IsInst
import HandS.Zip
import HandS.More
import KE.LtData
import HandS.DictComp
import KE.SortKeyHeap
import HandS.SortKw
import HandS.OwnEq
import PySem.Challenge.RW_spoorfold_k09_whole_rules_of_undoing
set_option Elab.async false
set_option linter.all false
set_option maxRecDepth 100000
namespace Sf
open PySem PySem.Spec PyProof.Rows L2
/-! the text of the law by places -/
def topS (i : Nat) : Stmt := PySem.Challenge.pw_spoorfold_k09_whole_rules_of_undoing.main.body.getD i (.Pass ⟨0, 0, 0, 0⟩)
abbrev s_SpoorError___init__ : Stmt := inClass (topS 1) 0
abbrev s_BadWord___init__ : Stmt := inClass (topS 2) 0
abbrev s_is_word : Stmt := topS 6
abbrev s_need_word : Stmt := topS 7
abbrev s_rank : Stmt := topS 8
abbrev s_turned : Stmt := topS 9
abbrev s_glued : Stmt := topS 10
abbrev s_Track___init__ : Stmt := inClass (topS 12) 0
abbrev s_Track_spots : Stmt := inClass (topS 12) 1
abbrev s_Track_end : Stmt := inClass (topS 12) 2
abbrev s_Track_plain : Stmt := inClass (topS 12) 3
abbrev s_Track_joined : Stmt := inClass (topS 12) 4
abbrev s_Track_back : Stmt := inClass (topS 12) 5
abbrev s_Track_within : Stmt := inClass (topS 12) 6
abbrev s_Track___eq__ : Stmt := inClass (topS 12) 7
abbrev s_Track___len__ : Stmt := inClass (topS 12) 8
abbrev s_Track___str__ : Stmt := inClass (topS 12) 9
abbrev s_Track___repr__ : Stmt := inClass (topS 12) 10
abbrev s_moved : Stmt := topS 13
abbrev s_track_of : Stmt := topS 14
abbrev s__law_begin : Stmt := topS 16
abbrev s__law_pull : Stmt := topS 17
abbrev s__law_sign : Stmt := topS 18
abbrev s__law_flip : Stmt := topS 19
abbrev s__law_word : Stmt := topS 20
abbrev s__law_any_word : Stmt := topS 21
abbrev s__law_same : Stmt := topS 22
abbrev s_law : Stmt := topS 23
end Sf
namespace Sf
open PySem PySem.Spec PyProof.Rows L2 TL
/-! ### helpers of heaps and blocks -/
theorem same_upd {H : Hp} {p : Addr} {o : HO} (h : H p = none) : Same H (upd H p o) := fun b x e => by
  rw [upd_ne (ne_of_none e h)]
  exact e
/-- all but what stands at b stands -/
def Fx (b : Addr) (H H' : Hp) : Prop := ∀ a o, H a = some o → a ≠ b → H' a = some o
theorem Fx.refl {b : Addr} {H : Hp} : Fx b H H := fun _ _ h _ => h
theorem Fx.of {b : Addr} {H H' : Hp} (h : Same H H') : Fx b H H' := fun a o e _ => h a o e
theorem Fx.trans {b : Addr} {H H1 H2 : Hp} (h : Fx b H H1) (k : Fx b H1 H2) : Fx b H H2 := fun a o e n => k a o (h a o e n) n
theorem Fx.same {b : Addr} {H H1 H2 : Hp} (h : Fx b H H1) (k : Same H1 H2) : Fx b H H2 := h.trans (.of k)
theorem Fx.upd {b : Addr} {H H1 : Hp} {o : HO} (h : Fx b H H1) : Fx b H (upd H1 b o) := fun a u e n => by
  rw [upd_ne n]
  exact h a u e n
theorem Fx.new {b p : Addr} {H H1 : Hp} {o : HO} (h : Fx b H H1) (n : H1 p = none) : Fx b H (L2.upd H1 p o) := h.same (same_upd n)
theorem Fx.seq {b a : Addr} {H H1 : Hp} {xs : List V} {K : PySem.W.Frag} (h : Fx b H H1) (n : a ≠ b) (s : SqL K H a xs) : SqL K H1 a xs := by
  rcases s with (s | ⟨o, s⟩) | s
  · exact .inl (.inl (h _ _ s n))
  · exact .inl (.inr ⟨o, h _ _ s n⟩)
  · exact .inr s
theorem seq_by {X : Cx} {st : Stmt} {rest : List Stmt} {D : Ends} {σ : L2.St} {H : Hp} (J : L2.St → Hp → Prop) (hr : ∃ u, PSs X rest u ∧ ∀ σ' H', J σ' H' → u D σ' H')
    (hs : ∀ u : TS, (∀ σ' H', J σ' H' → u D σ' H') → ∃ t, PS X st t ∧ t { D with nx := u D } σ H) : ∃ t, PSs X (st :: rest) t ∧ t D σ H := by
  obtain ⟨u, hu, k⟩ := hr
  obtain ⟨t, ht, h⟩ := hs u k
  exact ⟨tSeq t u, pss_cons ht hu, h⟩
theorem line_of {n : Nat} (h : n ≤ 100000) : n ≤ sizeLine := Nat.le_trans h (by decide)
theorem lineLt_of {n : Nat} (h : n ≤ 100000) : n < sizeLine := Nat.lt_of_le_of_lt h (by decide)
/-! ### the bag of the laws: its list at l, three numbers -/
structure BagL (H : Hp) (b l : Addr) (ns : List Int) (k z r : Int) : Prop where
  hb : H b = some (.lst [.ref l, .int k, .int z, .int r])
  hl : H l = some (.lst (ns.map V.int))
  k0 : 0 ≤ k
  z0 : 0 ≤ z
  r0 : 0 ≤ r
  r1 : r < 2147483647
def Bag (H : Hp) (b : Addr) : Prop := ∃ (l : Addr) (ns : List Int) (k z r : Int), BagL H b l ns k z r
theorem bag_ne {l : Addr} {ns : List Int} {vs : List V} : HO.lst (.ref l :: vs) ≠ HO.lst (ns.map V.int) := fun e => by
  cases ns with
  | nil => cases e
  | cons x r => cases e
theorem BagL.ne {H : Hp} {b l : Addr} {ns : List Int} {k z r : Int} (h : BagL H b l ns k z r) : l ≠ b := fun e => by
  have h1 := h.hb
  have h2 := h.hl
  rw [e, h1] at h2
  exact bag_ne (Option.some.inj h2)
theorem BagL.set {H : Hp} {b l : Addr} {ns : List Int} {k z r k' z' r' : Int} (h : BagL H b l ns k z r) (hk : 0 ≤ k') (hz : 0 ≤ z') (h0 : 0 ≤ r') (h1 : r' < 2147483647) :
    BagL (upd H b (.lst [.ref l, .int k', .int z', .int r'])) b l ns k' z' r' :=
  ⟨upd_same, by rw [upd_ne h.ne]; exact h.hl, hk, hz, h0, h1⟩
theorem Bag.same {H H' : Hp} {b : Addr} (s : Same H H') : Bag H b → Bag H' b
  | ⟨l, ns, k, z, r, h⟩ => ⟨l, ns, k, z, r, s _ _ h.hb, s _ _ h.hl, h.k0, h.z0, h.r0, h.r1⟩
theorem Bag.new {H : Hp} {b p : Addr} {o : HO} (h : Bag H b) (n : H p = none) : Bag (upd H p o) b := h.same (same_upd n)
theorem Bag.ne {H : Hp} {b p : Addr} (h : Bag H b) (n : H p = none) : p ≠ b := fun e => by
  obtain ⟨l, ns, k, z, r, h⟩ := h
  rw [e, h.hb] at n
  cases n
theorem len_eq {α : Type} {xs : List α} {n : Nat} (h : xs.length = n) : ((xs.length : Nat) : Int) = (n : Int) := by rw [h]
theorem int_at {ns : List Int} {k : Int} (h0 : 0 ≤ k) (h1 : k < ((ns.map V.int).length : Nat)) : ∃ v : Int, atI (ns.map V.int) k = some (.int v) := by
  rw [List.length_map] at h1
  refine ⟨ns[k.toNat]'(by omega), at_of (j := k.toNat) (by omega) ?_⟩
  rw [List.getElem?_map, List.getElem?_eq_getElem (by omega)]
  rfl
end Sf
namespace Sf
open PySem PySem.Spec PyProof.Rows L2 TL
/-! ### what stands at the top: a def of the text; a def that keeps a promise; a constant; built-in names -/
def FnAt (K : PySem.W.Frag) (mg : Str → Option Value) (x : Str) (st : Stmt) (ps : List Str) : Prop := ∃ (f : Addr) (fd : FuncData), mg x = some (.ref f) ∧ Fun K x x st f fd ∧ Binds K fd ps []
def Has (P : Program) (w : World) (K : PySem.W.Frag) (mg : Str → Option Value) (base : Heap) (k : Nat) (x : Str) (ps : List Str) (sp : Sp) : Prop :=
  ∃ (f : Addr) (fd : FuncData), mg x = some (.ref f) ∧ PySem.W.keepIn K (.ref f) = true ∧ Binds K fd ps [] ∧ FnOk P w K mg base CX0 k f fd ps sp
theorem FnAt.has {P : Program} {w : World} {K : PySem.W.Frag} {mg : Str → Option Value} {base : Heap} {k : Nat} {x : Str} {st : Stmt} {ps : List Str} {sp : Sp} (h : FnAt K mg x st ps)
    (ok : ∀ {f : Addr} {fd : FuncData}, Fun K x x st f fd → FnOk P w K mg base CX0 k f fd ps sp) : Has P w K mg base k x ps sp := by
  obtain ⟨f, fd, g, F, b⟩ := h
  exact ⟨f, fd, g, F.kp, b, ok F⟩
theorem fnAt_mk {K : PySem.W.Frag} {h : Heap} {mg : Str → Option Value} {x : Str} {st : Stmt} {ps : List Str} {f : Addr} {oc : Value} {od an : Option Addr} {osl : Array (Option Value)} {kV doc pm cdv ct : Value} (X : K.In h) (G : h.Ns mainGlobals mg)
    (a : PySem.W.nsIn K mainGlobals x = some (some (.ref f))) (l : K.lookup f = some ⟨oc, od, .func (PySem.W.fnOf x x (defArgs st) (defBody st) (defScope st) .none kV doc pm an cdv ct), osl⟩)
    (c : PySem.W.codeIn K cdv x = true) (k : PySem.W.keepIn K (.ref f) = true)
    (b : ∀ (kV doc pm : Value) (an : Option Addr) (cdv ct : Value) (us : List Value), us.length = ps.length → bindArgs (PySem.W.fnOf x x (defArgs st) (defBody st) (defScope st) .none kV doc pm an cdv ct) ⟨us, []⟩ = pure (ps.zip us)) : FnAt K mg x st ps :=
  ⟨f, _, PySem.W.mg_of X G a, fun_mk l c k, (fun_mk l c k).binds b⟩
structure Blt (mg : Str → Option Value) : Prop where
  len : mg "len" = none
  range : mg "range" = none
  isinstance : mg "isinstance" = none
  list : mg "list" = none
  tuple : mg "tuple" = none
  bool : mg "bool" = none
  int : mg "int" = none
  str : mg "str" = none
  all : mg "all" = none
  zip : mg "zip" = none
  min : mg "min" = none
  sorted : mg "sorted" = none
theorem lc_gen {J : It} {n : Nat} {g : TG} {tt : TT} {te : TE} {vs : List Nat} {σ : L2.St} {H1 : Hp} {D : Addr} {Qd : Hp → Prop} (Pv : Nat → Hp → Prop) (h0 : Pv 0 (upd H1 D (.lst [])))
    (hgo : ∀ i H, i < n → Pv i H → J.go i H) (hst : ∀ H, Pv n H → J.stop n H)
    (hs : ∀ i x H H', i < n → Pv i H → J.yld i H x H' → g x (wipe σ vs) H' fun σ2 H2 => wipe σ2 vs = wipe σ vs ∧ tt σ2 H2 fun b H3 =>
      if b = true then te σ2 H3 fun y H4 => ∃ acc, H4 D = some (.lst acc) ∧ acc.length < sizeLine ∧ Pv (i + 1) (upd H4 D (.lst (acc ++ [y]))) else Pv (i + 1) H3) (hd : ∀ H, Pv n H → Qd H) :
    ∃ W : Nat → Nat → Hp → Prop, (∃ m, W 0 m (upd H1 D (.lst []))) ∧ ∀ i m H, W i m H →
      (J.stop i H ∧ Qd H) ∨ (J.go i H ∧ ∃ Nx : Hp → Prop, (∀ H', Nx H' → ∃ m', m' < m ∧ W (i + 1) m' H') ∧ ∀ x H', J.yld i H x H' → g x (wipe σ vs) H' fun σ2 H2 => wipe σ2 vs = wipe σ vs ∧ tt σ2 H2 fun b H3 =>
        if b = true then te σ2 H3 fun y H4 => ∃ acc, H4 D = some (.lst acc) ∧ acc.length < sizeLine ∧ Nx (upd H4 D (.lst (acc ++ [y]))) else Nx H3) := by
  refine ⟨fun i m H => m = n - i ∧ i ≤ n ∧ Pv i H, ⟨n, rfl, Nat.zero_le _, h0⟩, ?_⟩
  rintro i m H ⟨rfl, hi, p⟩
  by_cases hlt : i < n
  · exact .inr ⟨hgo i H hlt p, Pv (i + 1), fun H' p' => ⟨n - (i + 1), by omega, rfl, hlt, p'⟩, fun x H' y => hs i x H H' hlt p y⟩
  · have e : i = n := by omega
    subst e
    exact .inl ⟨hst H p, hd H p⟩
theorem for_gen {J : It} {n : Nat} {g : TG} {tb : TS} {D : Ends} {σ : L2.St} {H : Hp} (Pv : Nat → L2.St → Hp → Prop) (h0 : Pv 0 σ H) (hgo : ∀ i σ H, i < n → Pv i σ H → J.go i H) (hst : ∀ σ H, Pv n σ H → J.stop n H)
    (hs : ∀ i x σ H H', i < n → Pv i σ H → J.yld i H x H' → g x σ H' fun σ2 H2 => tb { D with nx := Pv (i + 1), ct := Pv (i + 1), bk := D.nx } σ2 H2) (hd : ∀ σ H, Pv n σ H → D.nx σ H) :
    ∃ W : Nat → Nat → L2.St → Hp → Prop, (∃ m, W 0 m σ H) ∧ ∀ i m σ H, W i m σ H →
      (J.stop i H ∧ D.nx σ H) ∨ (J.go i H ∧ ∃ N : L2.St → Hp → Prop, (∀ σ' H', N σ' H' → ∃ m', m' < m ∧ W (i + 1) m' σ' H') ∧ ∀ x H', J.yld i H x H' → g x σ H' fun σ2 H2 => tb { D with nx := N, ct := N, bk := D.nx } σ2 H2) := by
  refine ⟨fun i m σ H => m = n - i ∧ i ≤ n ∧ Pv i σ H, ⟨n, rfl, Nat.zero_le _, h0⟩, ?_⟩
  rintro i m σ H ⟨rfl, hi, p⟩
  by_cases hlt : i < n
  · exact .inr ⟨hgo i σ H hlt p, Pv (i + 1), fun σ' H' p' => ⟨n - (i + 1), by omega, rfl, hlt, p'⟩, fun x H' y => hs i x σ H H' hlt p y⟩
  · have e : i = n := by omega
    subst e
    exact .inl ⟨hst σ H p, hd σ H p⟩
theorem yes_if {σ : L2.St} {H : Hp} {A B : Hp → Prop} (h : A H) : tYes σ H (fun b H3 => if b = true then A H3 else B H3) := by
  show if true = true then A H else B H
  exact iteT h
/-! ### signs and words -/
def sgn (c : Nat) : Bool := (decide (97 ≤ c) && decide (c ≤ 104)) || (decide (65 ≤ c) && decide (c ≤ 72))
theorem sgn_iff {c : Nat} : sgn c = true ↔ (97 ≤ c ∧ c ≤ 104) ∨ (65 ≤ c ∧ c ≤ 72) := by
  unfold sgn
  simp only [Bool.or_eq_true, Bool.and_eq_true, decide_eq_true_eq]
def flipC (c : Nat) : Nat := if 97 ≤ c then c - 32 else c + 32
def Wd (x : Str) : Prop := ∀ c ∈ tl x, sgn c = true
abbrev one (c : Nat) : Str := ⟨#[c]⟩
theorem tl_one (c : Nat) : tl (one c) = [c] := rfl
theorem len_one (c : Nat) : (one c).length = 1 := rfl
theorem len_app (x y : Str) : (x ++ y).length = x.length + y.length := by
  rw [len_tl, len_tl, len_tl, tl_append, List.length_append]
theorem Wd.app {x y : Str} (hx : Wd x) (hy : Wd y) : Wd (x ++ y) := fun c hc => by
  rw [tl_append, List.mem_append] at hc
  exact hc.elim (hx c) (hy c)
theorem wd_one {c : Nat} (h : sgn c = true) : Wd (one c) := fun d hd => by
  rw [tl_one, List.mem_singleton] at hd
  rw [hd]
  exact h
theorem tl_small : (Str.ofString "abcdefgh").cps.toList = [97, 98, 99, 100, 101, 102, 103, 104] := by decide +kernel
theorem tl_great : (Str.ofString "ABCDEFGH").cps.toList = [65, 66, 67, 68, 69, 70, 71, 72] := by decide +kernel
theorem tl_signs : (Str.ofString "aAbBcCdDeEfFgGhH").cps.toList = [97, 65, 98, 66, 99, 67, 100, 68, 101, 69, 102, 70, 103, 71, 104, 72] := by decide +kernel
theorem in_small {c : Nat} : (c ∈ (Str.ofString "abcdefgh").cps.toList) ↔ (97 ≤ c ∧ c ≤ 104) := by
  rw [tl_small]
  simp only [List.mem_cons, List.not_mem_nil, or_false]
  omega
theorem in_signs {c : Nat} : (c ∈ (Str.ofString "aAbBcCdDeEfFgGhH").cps.toList) ↔ sgn c = true := by
  rw [tl_signs, sgn_iff]
  simp only [List.mem_cons, List.not_mem_nil, or_false]
  omega
theorem upper_one {c : Nat} (h : 97 ≤ c ∧ c ≤ 104) : Txt.upper (one c) = one (c - 32) := by
  have : c = 97 ∨ c = 98 ∨ c = 99 ∨ c = 100 ∨ c = 101 ∨ c = 102 ∨ c = 103 ∨ c = 104 := by omega
  rcases this with rfl | rfl | rfl | rfl | rfl | rfl | rfl | rfl <;> decide +kernel
theorem lower_one {c : Nat} (h : 65 ≤ c ∧ c ≤ 72) : Txt.lower (one c) = one (c + 32) := by
  have : c = 65 ∨ c = 66 ∨ c = 67 ∨ c = 68 ∨ c = 69 ∨ c = 70 ∨ c = 71 ∨ c = 72 := by omega
  rcases this with rfl | rfl | rfl | rfl | rfl | rfl | rfl | rfl <;> decide +kernel
theorem flip_sgn {c : Nat} (h : sgn c = true) : sgn (flipC c) = true := by
  rw [sgn_iff] at h ⊢
  unfold flipC
  split <;> omega
theorem at_small {e : Int} (h0 : 0 ≤ e) (h1 : e < 8) : atI (Str.ofString "abcdefgh").cps.toList e = some (97 + e.toNat) := by
  have : e = 0 ∨ e = 1 ∨ e = 2 ∨ e = 3 ∨ e = 4 ∨ e = 5 ∨ e = 6 ∨ e = 7 := by omega
  rw [tl_small]
  rcases this with rfl | rfl | rfl | rfl | rfl | rfl | rfl | rfl <;> rfl
theorem at_great {e : Int} (h0 : 0 ≤ e) (h1 : e < 8) : atI (Str.ofString "ABCDEFGH").cps.toList e = some (65 + e.toNat) := by
  have : e = 0 ∨ e = 1 ∨ e = 2 ∨ e = 3 ∨ e = 4 ∨ e = 5 ∨ e = 6 ∨ e = 7 := by omega
  rw [tl_great]
  rcases this with rfl | rfl | rfl | rfl | rfl | rfl | rfl | rfl <;> rfl
theorem at_end {x : List Nat} (h : x ≠ []) : ∃ c, atI x (-1) = some c ∧ c ∈ x := by
  refine ⟨x.getLast h, ?_, List.getLast_mem h⟩
  have e := atI_last x.dropLast (x.getLast h)
  rw [List.dropLast_concat_getLast h] at e
  exact e
theorem str_ne {x : Str} (h : ¬ V.str x = V.str "") : tl x ≠ [] := fun e => h (by
  have : x = "" := ext_tl (by rw [e]; decide +kernel)
  rw [this])
theorem wd_nil : Wd "" := fun c hc => by
  have e : tl "" = [] := by decide +kernel
  rw [e] at hc
  cases hc
/-! ### two values of the same data -/
def flat4 : V → Bool
  | .non => true
  | .bl _ => true
  | .int _ => true
  | .str _ => true
  | _ => false
def Eqv (H : Hp) : Nat → V → V → Prop
  | 0, x, y => flat4 x = true ∧ x = y
  | n + 1, x, y => (flat4 x = true ∧ x = y) ∨ ∃ (p q : Addr) (xs ys : List V), x = .ref p ∧ y = .ref q ∧ ((H p = some (.lst xs) ∧ H q = some (.lst ys)) ∨ (H p = some (.tup xs) ∧ H q = some (.tup ys))) ∧
      xs.length = ys.length ∧ xs.length ≤ 100000 ∧ ∀ (i : Nat) (x y : V), xs[i]? = some x → ys[i]? = some y → Eqv H n x y
theorem Eqv.same {H H' : Hp} (s : Same H H') : ∀ {n : Nat} {x y : V}, Eqv H n x y → Eqv H' n x y
  | 0, _, _, h => h
  | _ + 1, _, _, .inl h => .inl h
  | _ + 1, _, _, .inr ⟨p, q, xs, ys, ex, ey, hp, hl, hz, k⟩ => .inr ⟨p, q, xs, ys, ex, ey, hp.elim (fun h => .inl ⟨s _ _ h.1, s _ _ h.2⟩) (fun h => .inr ⟨s _ _ h.1, s _ _ h.2⟩), hl, hz, fun i x y hx hy => Eqv.same s (k i x y hx hy)⟩
theorem Eqv.flat {H : Hp} {n : Nat} {x : V} (h : flat4 x = true) : Eqv H n x x := by
  cases n with
  | zero => exact ⟨h, rfl⟩
  | succ n => exact .inl ⟨h, rfl⟩
theorem flat_kit {K : PySem.W.Frag} {H : Hp} {x : V} (h : flat4 x = true) : ∃ (T : String) (b1 b2 b3 : Bool), TyX K H x (.type T) ∧ kitB T "list" = some false ∧ kitB T "tuple" = some false ∧ kitB T "bool" = some b1 ∧ kitB T "int" = some b2 ∧ kitB T "str" = some b3 := by
  cases x with
  | non => exact ⟨"NoneType", false, false, false, .base .non, by decide +kernel, by decide +kernel, by decide +kernel, by decide +kernel, by decide +kernel⟩
  | bl b => exact ⟨"bool", true, true, false, .base (.bl b), by decide +kernel, by decide +kernel, by decide +kernel, by decide +kernel, by decide +kernel⟩
  | int b => exact ⟨"int", false, true, false, .base (.int b), by decide +kernel, by decide +kernel, by decide +kernel, by decide +kernel, by decide +kernel⟩
  | str b => exact ⟨"str", false, false, true, .base (.str b), by decide +kernel, by decide +kernel, by decide +kernel, by decide +kernel, by decide +kernel⟩
  | byt b => cases h
  | flt b => cases h
  | ref b => cases h
  | ty b => cases h
theorem TyX.same {K : PySem.W.Frag} {H H' : Hp} {x : V} {T : String} (s : Same H H') (f : flat4 x = true) (h : TyX K H x (.type T)) : TyX K H' x (.type T) := by
  cases x with
  | non => cases h with | base h => cases h with | non => exact .base .non
  | bl b => cases h with | base h => cases h with | bl => exact .base (.bl b)
  | int b => cases h with | base h => cases h with | int => exact .base (.int b)
  | str b => cases h with | base h => cases h with | str => exact .base (.str b)
  | byt b => cases f
  | flt b => cases f
  | ref b => cases f
  | ty b => cases f
theorem kit2 {K : PySem.W.Frag} {T : String} (h1 : kitB T "list" = some false) (h2 : kitB T "tuple" = some false) : PySem.W.kitAny K (.type T) [.type "list", .type "tuple"] = some false :=
  kitAny_cons (kit_ty h1) (fun _ => kitAny_cons (kit_ty h2) (fun _ => kitAny_nil) (fun q => nomatch q)) (fun q => nomatch q)
theorem scal_flat {x : V} (h : flat4 x = true) : scal x x = true := by
  cases x <;> first | rfl | cases h
theorem ne_bl (b : Bool) : (!decide (V.bl b = V.bl b)) = false := by simp
end Sf
namespace Sf
open PySem PySem.Spec PyProof.Rows L2 TL
/-! ### blocks by what holds ahead and behind -/
def Stp {ι : Type} (X : Cx) (st : Stmt) (pre post : ι → L2.St → Hp → Prop) : Prop := ∃ t, PS X st t ∧ ∀ (i : ι) (D : Ends) (σ : L2.St) (H : Hp), pre i σ H → (∀ σ' H', post i σ' H' → D.nx σ' H') → t D σ H
def Blk {ι : Type} (X : Cx) (sts : List Stmt) (pre post : ι → L2.St → Hp → Prop) : Prop := ∃ t, PSs X sts t ∧ ∀ (i : ι) (D : Ends) (σ : L2.St) (H : Hp), pre i σ H → (∀ σ' H', post i σ' H' → D.nx σ' H') → t D σ H
theorem Blk.cons {ι : Type} {X : Cx} {st : Stmt} {rest : List Stmt} {pre post : ι → L2.St → Hp → Prop} (mid : ι → L2.St → Hp → Prop) (a : Stp X st pre mid) (b : Blk X rest mid post) : Blk X (st :: rest) pre post := by
  obtain ⟨t, ht, h⟩ := a
  obtain ⟨u, hu, k⟩ := b
  exact ⟨tSeq t u, pss_cons ht hu, fun i D σ H hp hq => h i _ σ H hp fun σ' H' hm => k i D σ' H' hm hq⟩
theorem Blk.one {ι : Type} {X : Cx} {st : Stmt} {pre post : ι → L2.St → Hp → Prop} (a : Stp X st pre post) : Blk X [st] pre post := by
  obtain ⟨t, ht, h⟩ := a
  exact ⟨t, pss_one ht, h⟩
/-- the same within a block -/
theorem Stp.rng {ι : Type} {X : Cx} {tg iter : Expr} {body : List Stmt} {pos : Pos} {wi : TI} {k : Nat} {pre post : ι → L2.St → Hp → Prop} (Pv : ι → Nat → Nat → L2.St → Hp → Prop) (hp : PassesOwn (model X.prog X.w) X.A X.env X.xe) (hc : X.calm = true) (hi : PI X tg iter wi) (hg : PG X tg (gName k))
    (hk : ∀ (j : ι) (σ : L2.St) (H : Hp) (R : It → Hp → Prop), pre j σ H → (∀ n H1, Pv j n 0 σ H1 → R (Itr 0 n) H1) → wi σ H R)
    (hb : Blk (ι := ι × Nat × Nat) X body (fun i σ H => i.2.2 < i.2.1 ∧ ∃ σ0, Pv i.1 i.2.1 i.2.2 σ0 H ∧ σ = σ0.set k (some (.int (0 + (i.2.2 : Int))))) (fun i σ H => Pv i.1 i.2.1 (i.2.2 + 1) σ H))
    (hr : ∀ j n σ H, Pv j n n σ H → post j σ H) (hs : ∀ x, foldedSetIterable iter X.env x = pure x := by intro _; rfl) : Stp X (.For tg iter body [] pos) pre post := by
  obtain ⟨tb, hb, kb⟩ := hb
  refine ⟨_, ps_for hp hc hi hg hb hs, fun j D σ H h0 hq => ?_⟩
  refine hk j σ H _ h0 fun n H1 h0 => ?_
  exact for_range (lo := 0) (n := n) (Pv j n) h0 (fun i σ1 H2 hlt hv => kb (j, n, i) _ _ _ ⟨hlt, σ1, hv, rfl⟩ fun σ' H' h => h) (fun σ1 H2 hv => hq σ1 H2 (hr j n σ1 H2 hv))
/-- the rest of a def's body -/
def Tl (X : Cx) (sts : List Stmt) (D : Ends) (J : L2.St → Hp → Prop) : Prop := ∃ u, PSs X sts u ∧ ∀ σ H, J σ H → u D σ H
theorem Tl.start {X : Cx} {sts : List Stmt} {D : Ends} {σ : L2.St} {H : Hp} (h : Tl X sts D (fun σ' H' => σ' = σ ∧ H' = H)) : ∃ t, PSs X sts t ∧ t D σ H := by
  obtain ⟨u, hu, k⟩ := h
  exact ⟨u, hu, k σ H ⟨rfl, rfl⟩⟩
theorem Tl.cons {X : Cx} {st : Stmt} {rest : List Stmt} {D : Ends} {J : L2.St → Hp → Prop} (mid : L2.St → Hp → Prop) (a : Stp (ι := Unit) X st (fun _ => J) (fun _ => mid)) (b : Tl X rest D mid) : Tl X (st :: rest) D J := by
  obtain ⟨t, ht, h⟩ := a
  obtain ⟨u, hu, k⟩ := b
  exact ⟨tSeq t u, pss_cons ht hu, fun σ H hj => h () _ σ H hj k⟩
end Sf
namespace Sf
open PySem PySem.Spec PyProof.Rows L2 TL
section
variable {P : Program} {w : World} {K : PySem.W.Frag} {mg : Str → Option Value} {base : Heap}
/-! ### _law_pull: some number below many -/
def spPull : Sp := fun vs H Q _ => ∃ (b : Addr) (n : Int), vs = [.ref b, .int n] ∧ Bag H b ∧ 0 < n ∧ n < 1073741824 ∧
  ∀ (d : Int) (H' : Hp), 0 ≤ d → d < n → Bag H' b → Fx b H H' → Q (.int d) H'
theorem sc_pull : FnScope ["_law_bag", "_law_many", "_law_cell", "_law_digit"] ["_law_bag", "_law_many"] (defScope s__law_pull) := ⟨rfl, rfl, rfl, by decide +kernel, rfl, by decide +kernel, by decide +kernel⟩
theorem ok_pull {f : Addr} {fd : FuncData} {j : Nat} (F : Fun K "_law_pull" "_law_pull" s__law_pull f fd) (ml : mg "len" = none) : FnOk P w K mg base CX0 (j + 1) f fd ["_law_bag", "_law_many"] spPull := by
  refine F.ok sc_pull (fun vs H Q E h => ?_) (fun cdv A outer s H vs Q E hr h => ?_)
  · obtain ⟨b, n, rfl, _⟩ := h
    rfl
  · obtain ⟨b, n, rfl, ⟨l, ns, k, z, r, hB⟩, hn0, hn1, q⟩ := h
    refine seq_by (fun σ H1 => ∃ (y2 : Option V) (k z r : Int), σ = [some (.ref b), some (.int n), y2, none] ∧ BagL H1 b l ns k z r ∧ Fx b H H1) ?_ ?_
    · refine ⟨_, pss_cons (ps_if (pt_cmpR op_gt (pe_ix ix_list (pv 0) pe_int (fun _ _ => rfl)) pe_int (nomark _))
          (pss_cons (ps_set (i := 3) sc_pull.nd rfl (.inl rfl) (pe_op op_mod (pe_ix ix_list (pv 0) pe_int (fun _ _ => rfl)) (pv 1)))
          (pss_cons (ps_asg (pe_op op_fdiv (pe_ix ix_list (pv 0) pe_int (fun _ _ => rfl)) (pv 1)) (pg_sub (pv 0) pe_int set_list))
          (pss_one (ps_ret (pv 3))))) pss_nil)
        (pss_cons (ps_asg (pe_op op_mod (pe_op op_add (pe_op op_add (pe_op op_mul (pe_op op_mod (pe_op op_mul (pe_ix ix_list (pv 0) pe_int (fun _ _ => rfl)) (pe_ix ix_list (pv 0) pe_int (fun _ _ => rfl))) pe_int) pe_int)
            (pe_op op_mul (pe_ix ix_list (pv 0) pe_int (fun _ _ => rfl)) pe_int)) pe_int) pe_int) (pg_sub (pv 0) pe_int set_list))
        (pss_one (ps_ret (pe_op op_mod (pe_op op_add (pe_op op_fdiv (pe_ix ix_list (pv 0) pe_int (fun _ _ => rfl)) pe_int) (pe_op op_mul (pe_op op_mod (pe_ix ix_list (pv 0) pe_int (fun _ _ => rfl)) pe_int) pe_int)) (pv 1))))), ?_⟩
      rintro σ H1 ⟨y2, k, z, r, rfl, B, fx⟩
      have hS := SqL.of (K := K) B.hb
      have rr0 := B.r0
      have rr1 := B.r1
      have zz0 := B.z0
      refine ⟨_, rfl, b, _, 2, _, rfl, rfl, hS, at_of (j := 2) rfl rfl, z, 0, rfl, rfl, _, rfl, ite2 (fun e => ?_) (fun e => ?_)⟩
      · have zp : 0 < z := of_decide_eq_true e
        refine ⟨_, rfl, b, _, 2, _, rfl, rfl, hS, at_of (j := 2) rfl rfl, _, rfl, z, n, rfl, rfl, hn0, ?_⟩
        refine ⟨_, rfl, b, _, 2, _, rfl, rfl, hS, at_of (j := 2) rfl rfl, _, rfl, z, n, rfl, rfl, ⟨hn0, hn1⟩, ?_⟩
        refine ⟨_, rfl, b, _, 2, 2, rfl, rfl, B.hb, rfl, ?_⟩
        refine ⟨_, rfl, ?_⟩
        refine q _ _ (Int.emod_nonneg _ (by omega)) (Int.emod_lt_of_pos _ hn0) ⟨l, ns, k, z / n, r, B.set B.k0 (Int.ediv_nonneg B.z0 (by omega)) B.r0 B.r1⟩ fx.upd
      · refine ⟨_, rfl, b, _, 3, _, rfl, rfl, hS, at_of (j := 3) rfl rfl, _, rfl, b, _, 3, _, rfl, rfl, hS, at_of (j := 3) rfl rfl, r, r, rfl, rfl, .inl ⟨by omega, by omega⟩,
          _, 2147483629, rfl, rfl, (by show (0 : Int) < 2147483629; decide), _, 5, rfl, rfl, .inr ⟨by decide, by decide⟩,
          _, rfl, b, _, 3, _, rfl, rfl, hS, at_of (j := 3) rfl rfl, r, 16807, rfl, rfl, .inr ⟨by decide, by decide⟩, _, _, rfl, rfl, _, 2531011, rfl, rfl, _, 2147483647, rfl, rfl, (by show (0 : Int) < 2147483647; decide), ?_⟩
        refine ⟨_, rfl, b, _, 3, 3, rfl, rfl, B.hb, rfl, ?_⟩
        have h0 : 0 ≤ (r * r % 2147483629 * 5 + r * 16807 + 2531011) % 2147483647 := Int.emod_nonneg _ (by decide)
        have h1 : (r * r % 2147483629 * 5 + r * 16807 + 2531011) % 2147483647 < 2147483647 := Int.emod_lt_of_pos _ (by decide)
        have B' : BagL (upd H1 b (.lst [.ref l, .int k, .int z, .int ((r * r % 2147483629 * 5 + r * 16807 + 2531011) % 2147483647)])) b l ns k z ((r * r % 2147483629 * 5 + r * 16807 + 2531011) % 2147483647) := B.set B.k0 B.z0 h0 h1
        have hS' := SqL.of (K := K) B'.hb
        refine ⟨_, rfl, b, _, 3, _, rfl, rfl, hS', at_of (j := 3) rfl rfl, _, 61, rfl, rfl, ⟨by decide, by decide⟩,
          _, rfl, b, _, 3, _, rfl, rfl, hS', at_of (j := 3) rfl rfl, _, 8191, rfl, rfl, (by show (0 : Int) < 8191; decide), _, 31, rfl, rfl, .inr ⟨by decide, by decide⟩, _, _, rfl, rfl, _, rfl, _, n, rfl, rfl, hn0, ?_⟩
        exact q _ _ (Int.emod_nonneg _ (by omega)) (Int.emod_lt_of_pos _ hn0) ⟨l, ns, k, z, _, B'⟩ fx.upd
    · intro u hu
      have hS := SqL.of (K := K) hB.hb
      have hS2 := SqL.of (K := K) hB.hl
      have rr0 := hB.r0
      have rr1 := hB.r1
      have zz0 := hB.z0
      have kk0 := hB.k0
      refine ⟨_, ps_if (PW.pt (pw_and (pt_cmpR op_eq (pe_ix ix_list (pv 0) pe_int (fun _ _ => rfl)) pe_int (nomark _))
            (pw_and1 (pt_cmpR op_lt (pe_ix ix_list (pv 0) pe_int (fun _ _ => rfl)) (pe_callB call_len_seq (by rfl) ml PySem.boot_len (pa_cons (pe_ix ix_list (pv 0) pe_int (fun _ _ => rfl)) pa_nil)) (nomark _)))))
          (pss_cons (ps_set (i := 2) sc_pull.nd rfl (.inl rfl) (pe_ix ix_list (pe_ix ix_list (pv 0) pe_int (fun _ _ => rfl)) (pe_ix ix_list (pv 0) pe_int (fun _ _ => rfl)) (fun _ _ => rfl)))
          (pss_cons (ps_asg (pe_op op_add (pe_ix ix_list (pv 0) pe_int (fun _ _ => rfl)) pe_int) (pg_sub (pv 0) pe_int set_list))
          (pss_one (ps_if (pt_cmpR op_ge (pv 2) (pe_op op_pow pe_int pe_int) (nomark _))
            (pss_one (ps_asg (pv 2) (pg_sub (pv 0) pe_int set_list)))
            (pss_one (ps_asg (pe_op op_mod (pe_op op_add (pe_op op_add (pe_op op_mul (pe_ix ix_list (pv 0) pe_int (fun _ _ => rfl)) pe_int) (pe_op op_mul (pe_op op_mod (pv 2) pe_int) pe_int)) pe_int) pe_int) (pg_sub (pv 0) pe_int set_list)))))))
          pss_nil, ?_⟩
      refine ⟨_, rfl, b, _, 2, _, rfl, rfl, hS, at_of (j := 2) rfl rfl, rfl, _, rfl, ite2 (fun e => ?_) (fun e => ?_)⟩
      · refine ⟨_, rfl, b, _, 1, _, rfl, rfl, hS, at_of (j := 1) rfl rfl, _, rfl, b, _, 0, _, rfl, rfl, hS, at_of (j := 0) rfl rfl, l, _, rfl, .inl hS2, k, _, rfl, rfl, _, rfl, ite2 (fun e2 => ?_) (fun e2 => ?_)⟩
        · obtain ⟨v, hv⟩ := int_at (ns := ns) kk0 (of_decide_eq_true e2)
          refine ⟨_, rfl, b, _, 0, _, rfl, rfl, hS, at_of (j := 0) rfl rfl, _, rfl, b, _, 1, _, rfl, rfl, hS, at_of (j := 1) rfl rfl, l, _, k, _, rfl, rfl, hS2, hv, ?_⟩
          refine ⟨_, rfl, b, _, 1, _, rfl, rfl, hS, at_of (j := 1) rfl rfl, k, 1, rfl, rfl, _, rfl, b, _, 1, 1, rfl, rfl, hB.hb, rfl, ?_⟩
          have B' : BagL (upd H b (.lst [.ref l, .int (k + 1), .int z, .int r])) b l ns (k + 1) z r := hB.set (by omega) zz0 rr0 rr1
          have hS' := SqL.of (K := K) B'.hb
          refine ⟨_, rfl, 10, 18, rfl, rfl, ⟨by decide, by decide, by decide⟩, v, _, rfl, rfl, _, rfl, ite2 (fun e3 => ?_) (fun e3 => ?_)⟩
          · have hv0 : 0 ≤ v := by
              have := of_decide_eq_true e3
              have h18 : (10 : Int) ^ (18 : Int).toNat = 1000000000000000000 := by decide +kernel
              rw [h18] at this
              omega
            refine ⟨_, rfl, _, rfl, b, _, 2, 2, rfl, rfl, B'.hb, rfl, ?_⟩
            exact hu _ _ ⟨some (.int v), k + 1, v, r, rfl, B'.set B'.k0 hv0 rr0 rr1, Fx.refl.upd.upd⟩
          · refine ⟨_, rfl, b, _, 3, _, rfl, rfl, hS', at_of (j := 3) rfl rfl, r, 48271, rfl, rfl, .inr ⟨by decide, by decide⟩, _, rfl, v, 2147483629, rfl, rfl, (by show (0 : Int) < 2147483629; decide), _, 69621, rfl, rfl, .inr ⟨by decide, by decide⟩,
              _, _, rfl, rfl, _, 12345, rfl, rfl, _, 2147483647, rfl, rfl, (by show (0 : Int) < 2147483647; decide), ?_⟩
            refine ⟨_, rfl, b, _, 3, 3, rfl, rfl, B'.hb, rfl, ?_⟩
            exact hu _ _ ⟨some (.int v), k + 1, z, _, rfl, B'.set B'.k0 B'.z0 (Int.emod_nonneg _ (by decide)) (Int.emod_lt_of_pos _ (by decide)), Fx.refl.upd.upd⟩
        · exact hu _ _ ⟨none, k, z, r, rfl, hB, .refl⟩
      · exact iteF (hu _ _ ⟨none, k, z, r, rfl, hB, .refl⟩)
end
end Sf
namespace Sf
open PySem PySem.Spec PyProof.Rows L2 TL
section
variable {P : Program} {w : World} {K : PySem.W.Frag} {mg : Str → Option Value} {base : Heap}
abbrev HasPull (P : Program) (w : World) (K : PySem.W.Frag) (mg : Str → Option Value) (base : Heap) : Prop := Has P w K mg base 1 "_law_pull" ["_law_bag", "_law_many"] spPull
theorem has_pull (F : FnAt K mg "_law_pull" s__law_pull ["_law_bag", "_law_many"]) (B : Blt mg) : HasPull P w K mg base := F.has fun F => ok_pull F B.len
/-! ### _law_flip -/
def spFlip : Sp := fun vs H Q _ => ∃ c : Nat, vs = [.str (one c)] ∧ sgn c = true ∧ Q (.str (one (flipC c))) H
abbrev HasFlip (P : Program) (w : World) (K : PySem.W.Frag) (mg : Str → Option Value) (base : Heap) : Prop := Has P w K mg base 1 "_law_flip" ["_law_sign_here"] spFlip
theorem sc_flip : FnScope ["_law_sign_here"] ["_law_sign_here"] (defScope s__law_flip) := ⟨rfl, rfl, rfl, by decide +kernel, rfl, by decide +kernel, by decide +kernel⟩
theorem has_flip (F : FnAt K mg "_law_flip" s__law_flip ["_law_sign_here"]) : HasFlip P w K mg base := F.has fun F => by
  refine F.ok sc_flip (fun vs H Q E h => ?_) (fun cdv A outer s H vs Q E hr h => ?_)
  · obtain ⟨c, rfl, _⟩ := h
    rfl
  · obtain ⟨c, rfl, hc, q⟩ := h
    refine ⟨_, pss_one (ps_ret (pe_ifExp (pt_cmpR op_in_sign (pv 0) pe_str rfl) (pe_upper (pv 0)) (pe_lower (pv 0)))), ?_⟩
    refine ⟨_, rfl, c, _, rfl, rfl, _, rfl, ite2 (fun e => ?_) (fun e => ?_)⟩
    · have h := in_small.mp (of_decide_eq_true e)
      refine ⟨_, rfl, ⟨_, rfl⟩, _, rfl, rfl, by rw [len_one]; decide, ?_⟩
      rw [upper_one h]
      rw [flipC, if_pos h.1] at q
      exact q
    · have h : ¬ (97 ≤ c ∧ c ≤ 104) := fun z => e (decide_eq_true (in_small.mpr z))
      rw [sgn_iff] at hc
      refine ⟨_, rfl, ⟨_, rfl⟩, _, rfl, rfl, by rw [len_one]; decide, ?_⟩
      rw [lower_one (by omega)]
      rw [flipC, if_neg (by omega)] at q
      exact q
/-! ### _law_sign -/
def spSign : Sp := fun vs H Q _ => ∃ (b : Addr) (n : Int), vs = [.ref b, .int n] ∧ Bag H b ∧ 0 < n ∧ n ≤ 8 ∧
  ∀ (c : Nat) (H' : Hp), sgn c = true → Bag H' b → Fx b H H' → Q (.str (one c)) H'
abbrev HasSign (P : Program) (w : World) (K : PySem.W.Frag) (mg : Str → Option Value) (base : Heap) : Prop := Has P w K mg base 2 "_law_sign" ["_law_bag", "_law_many"] spSign
theorem sc_sign : FnScope ["_law_bag", "_law_many"] ["_law_bag", "_law_many"] (defScope s__law_sign) := ⟨rfl, rfl, rfl, by decide +kernel, rfl, by decide +kernel, by decide +kernel⟩
theorem has_sign (F : FnAt K mg "_law_sign" s__law_sign ["_law_bag", "_law_many"]) (hP : HasPull P w K mg base) : HasSign P w K mg base := F.has fun F => by
  obtain ⟨fP, fdP, gP, kP, bP, GP⟩ := hP
  refine F.ok sc_sign (fun vs H Q E h => ?_) (fun cdv A outer s H vs Q E hr h => ?_)
  · obtain ⟨b, n, rfl, _⟩ := h
    rfl
  · obtain ⟨b, n, rfl, hB, hn0, hn1, q⟩ := h
    refine ⟨_, pss_one (ps_ret (pe_ix ix_str (pe_ix ix_list (pe_lst (pa_cons pe_str (pa_cons pe_str pa_nil))) (pe_call GP hr (by rfl) gP kP bP .nil pass0 (pa_cons (pv 0) (pa_cons pe_int pa_nil))) (fun _ _ => rfl))
      (pe_call GP hr (by rfl) gP kP bP .nil pass0 (pa_cons (pv 0) (pa_cons (pv 1) pa_nil))) (fun _ _ => rfl))), ?_⟩
    refine ⟨by decide, fun p np => ?_⟩
    refine ⟨_, rfl, b, 2, rfl, hB.new np, by decide, by decide, fun d H1 d0 d1 B1 f1 => ?_⟩
    have hp : H1 p = some (.lst [.str "abcdefgh", .str "ABCDEFGH"]) := f1 _ _ upd_same (hB.ne np)
    have hd : d = 0 ∨ d = 1 := by omega
    rcases hd with rfl | rfl
    · refine ⟨p, _, 0, _, rfl, rfl, SqL.of hp, at_of (j := 0) rfl rfl, ?_⟩
      refine ⟨_, rfl, _, rfl, b, n, rfl, B1, hn0, by omega, fun e H2 e0 e1 B2 f2 => ?_⟩
      refine ⟨_, e, _, rfl, rfl, (by decide +kernel), at_small e0 (by omega), ?_⟩
      exact q _ _ (sgn_iff.mpr (by omega)) B2 ((Fx.new .refl np).trans (f1.trans f2))
    · refine ⟨p, _, 1, _, rfl, rfl, SqL.of hp, at_of (j := 1) rfl rfl, ?_⟩
      refine ⟨_, rfl, _, rfl, b, n, rfl, B1, hn0, by omega, fun e H2 e0 e1 B2 f2 => ?_⟩
      refine ⟨_, e, _, rfl, rfl, (by decide +kernel), at_great e0 (by omega), ?_⟩
      exact q _ _ (sgn_iff.mpr (by omega)) B2 ((Fx.new .refl np).trans (f1.trans f2))
/-! ### _law_word -/
def spWord : Sp := fun vs H Q _ => ∃ (b : Addr) (u n : Int), vs = [.ref b, .int u, .int n] ∧ Bag H b ∧ 0 ≤ u ∧ u ≤ 1000 ∧ 0 < n ∧ n ≤ 8 ∧
  ∀ (x : Str) (H' : Hp), Wd x → x.length ≤ u.toNat → Bag H' b → Fx b H H' → Q (.str x) H'
abbrev HasWord (P : Program) (w : World) (K : PySem.W.Frag) (mg : Str → Option Value) (base : Heap) : Prop := Has P w K mg base 3 "_law_word" ["_law_bag", "_law_upto", "_law_many"] spWord
theorem sc_word : FnScope ["_law_bag", "_law_upto", "_law_many", "_law_found", "_law_turn", "_law_sign_here"] ["_law_bag", "_law_upto", "_law_many"] (defScope s__law_word) := ⟨rfl, rfl, rfl, by decide +kernel, rfl, by decide +kernel, by decide +kernel⟩
theorem has_word (F : FnAt K mg "_law_word" s__law_word ["_law_bag", "_law_upto", "_law_many"]) (B : Blt mg) (hP : HasPull P w K mg base) (hS : HasSign P w K mg base) (hF : HasFlip P w K mg base) : HasWord P w K mg base := F.has fun F => by
  obtain ⟨fP, fdP, gP, kP, bP, GP⟩ := hP
  obtain ⟨fS, fdS, gS, kS, bS, GS⟩ := hS
  obtain ⟨fF, fdF, gF, kF, bF, GF⟩ := hF
  refine F.ok sc_word (fun vs H Q E h => ?_) (fun cdv A outer s H vs Q E hr h => ?_)
  · obtain ⟨b, u, n, rfl, _⟩ := h
    rfl
  · obtain ⟨b, u, n, rfl, hB, hu0, hu1, hn0, hn1, q⟩ := h
    have hr1 : Room 1 _ := hr.mono (by decide)
    refine ⟨_, pss_cons (ps_set (i := 3) sc_word.nd rfl (.inl rfl) pe_str)
      (pss_cons (ps_for PassesOwn.never rfl (pi_range1 rfl B.range (pa_cons (pe_call GP hr1 (by rfl) gP kP bP .nil pass0 (pa_cons (pv 0) (pa_cons (pe_op op_add (pv 1) pe_int) pa_nil))) pa_nil)) (pg_name (i := 4) sc_word.nd rfl (.inl rfl))
        (pss_cons (ps_set (i := 5) sc_word.nd rfl (.inl rfl) (pe_call GS hr (by rfl) gS kS bS .nil pass0 (pa_cons (pv 0) (pa_cons (pv 2) pa_nil))))
        (pss_cons (ps_if (PW.pt (pw_and (pt_cmpR op_ne (pv 3) pe_str (nomark _)) (pw_and1 (pt_cmpR op_eq (pe_call GP hr1 (by rfl) gP kP bP .nil pass0 (pa_cons (pv 0) (pa_cons pe_int pa_nil))) pe_int (nomark _)))))
          (pss_one (ps_set (i := 5) sc_word.nd rfl (.inl rfl) (pe_call GF hr1 (by rfl) gF kF bF .nil pass0 (pa_cons (pe_ix ix_str (pv 3) (pe_un un_neg pe_int) (fun _ _ => rfl)) pa_nil)))) pss_nil)
        (pss_one (ps_set (i := 3) sc_word.nd rfl (.inl rfl) (pe_op op_add_str (pv 3) (pv 5)))))))
      (pss_one (ps_ret (pv 3)))), ?_⟩
    refine ⟨_, rfl, _, rfl, u, 1, rfl, rfl, b, u + 1, rfl, hB, by omega, by omega, fun d H1 d0 d1 B1 f1 => ?_⟩
    refine ⟨d, rfl, by omega, by omega, for_range (lo := 0) (n := d.toNat) (fun i σ H2 => ∃ (x : Str) (y4 y5 : Option V), σ = [some (.ref b), some (.int u), some (.int n), some (.str x), y4, y5] ∧ Wd x ∧ x.length ≤ i ∧ Bag H2 b ∧ Fx b H H2)
      ⟨"", none, none, rfl, wd_nil, (by decide +kernel), B1, f1⟩ ?_ ?_⟩
    · rintro i σ H2 hi ⟨x, y4, y5, rfl, hx, hlen, B2, f2⟩
      have hsz : x.length + 1 ≤ sizeLine := Nat.le_trans (Nat.add_le_add_right (Nat.le_trans hlen (by omega : i ≤ 1000)) 1) (by decide)
      refine ⟨_, rfl, _, rfl, b, n, rfl, B2, hn0, hn1, fun c H3 hc B3 f3 => ?_⟩
      have fin : ∀ (c : Nat) (H4 : Hp), sgn c = true → Bag H4 b → Fx b H H4 → ∃ (x' : Str) (y4 y5 : Option V), [some (V.ref b), some (.int u), some (.int n), some (.str (x ++ one c)), some (.int (0 + i)), some (.str (one c))] = [some (.ref b), some (.int u), some (.int n), some (.str x'), y4, y5] ∧ Wd x' ∧ x'.length ≤ i + 1 ∧ Bag H4 b ∧ Fx b H H4 :=
        fun c H4 hc B4 f4 => ⟨_, _, _, rfl, hx.app (wd_one hc), by rw [len_app, len_one]; omega, B4, f4⟩
      refine ⟨_, rfl, rfl, _, rfl, ite2 (fun e => ?_) (fun e => ?_)⟩
      · refine ⟨_, rfl, b, 4, rfl, B3, by decide, by decide, fun d2 H4 _ _ B4 f4 => ?_⟩
        refine ⟨rfl, _, rfl, ite2 (fun e2 => ?_) (fun e2 => ?_)⟩
        · have hne : tl x ≠ [] := str_ne fun z => by
            rw [z] at e
            simp at e
          obtain ⟨c2, hc2, hm⟩ := at_end hne
          refine ⟨_, rfl, 1, rfl, x, _, c2, rfl, rfl, by omega, hc2, c2, rfl, hx c2 hm, ?_⟩
          exact ⟨_, rfl, _, rfl, x, _, rfl, rfl, hsz, fin _ _ (flip_sgn (hx c2 hm)) B4 (f2.trans (f3.trans f4))⟩
        · exact ⟨_, rfl, _, rfl, x, _, rfl, rfl, hsz, fin _ _ hc B4 (f2.trans (f3.trans f4))⟩
      · exact iteF ⟨_, rfl, _, rfl, x, _, rfl, rfl, hsz, fin _ _ hc B3 (f2.trans f3)⟩
    · rintro σ H2 ⟨x, y4, y5, rfl, hx, hlen, B2, f2⟩
      exact ⟨_, rfl, q x H2 hx (by omega) B2 f2⟩
/-! ### _law_any_word -/
def spAny : Sp := fun vs H Q _ => ∃ (b : Addr) (u : Int), vs = [.ref b, .int u] ∧ Bag H b ∧ 0 ≤ u ∧ u ≤ 1000 ∧
  ∀ (x : Str) (H' : Hp), Wd x → x.length ≤ u.toNat → Bag H' b → Fx b H H' → Q (.str x) H'
abbrev HasAny (P : Program) (w : World) (K : PySem.W.Frag) (mg : Str → Option Value) (base : Heap) : Prop := Has P w K mg base 4 "_law_any_word" ["_law_bag", "_law_upto"] spAny
theorem sc_any : FnScope ["_law_bag", "_law_upto"] ["_law_bag", "_law_upto"] (defScope s__law_any_word) := ⟨rfl, rfl, rfl, by decide +kernel, rfl, by decide +kernel, by decide +kernel⟩
theorem has_any (F : FnAt K mg "_law_any_word" s__law_any_word ["_law_bag", "_law_upto"]) (hP : HasPull P w K mg base) (hW : HasWord P w K mg base) : HasAny P w K mg base := F.has fun F => by
  obtain ⟨fP, fdP, gP, kP, bP, GP⟩ := hP
  obtain ⟨fW, fdW, gW, kW, bW, GW⟩ := hW
  refine F.ok sc_any (fun vs H Q E h => ?_) (fun cdv A outer s H vs Q E hr h => ?_)
  · obtain ⟨b, u, rfl, _⟩ := h
    rfl
  · obtain ⟨b, u, rfl, hB, hu0, hu1, q⟩ := h
    refine ⟨_, pss_one (ps_ret (pe_call GW hr (by rfl) gW kW bW .nil pass0 (pa_cons (pv 0) (pa_cons (pv 1) (pa_cons (pe_ix ix_list (pe_lst (pa_cons pe_int (pa_cons pe_int (pa_cons pe_int (pa_cons pe_int pa_nil)))))
      (pe_call GP (hr.mono (by decide)) (by rfl) gP kP bP .nil pass0 (pa_cons (pv 0) (pa_cons pe_int pa_nil))) (fun _ _ => rfl)) pa_nil))))), ?_⟩
    refine ⟨_, rfl, _, rfl, by decide, fun p np => ?_⟩
    refine ⟨_, rfl, b, 4, rfl, hB.new np, by decide, by decide, fun d H1 d0 d1 B1 f1 => ?_⟩
    have hp : H1 p = some (.lst [.int 2, .int 1, .int 3, .int 8]) := f1 _ _ upd_same (hB.ne np)
    have hv : ∃ v : Int, atI [V.int 2, .int 1, .int 3, .int 8] d = some (.int v) ∧ 0 < v ∧ v ≤ 8 := by
      have hd : d = 0 ∨ d = 1 ∨ d = 2 ∨ d = 3 := by omega
      rcases hd with rfl | rfl | rfl | rfl
      · exact ⟨2, rfl, by decide, by decide⟩
      · exact ⟨1, rfl, by decide, by decide⟩
      · exact ⟨3, rfl, by decide, by decide⟩
      · exact ⟨8, rfl, by decide, by decide⟩
    obtain ⟨v, hv, v0, v1⟩ := hv
    refine ⟨p, _, d, _, rfl, rfl, SqL.of hp, hv, b, u, v, rfl, B1, hu0, hu1, v0, v1, fun x H2 hx hl B2 f2 => ?_⟩
    exact q x H2 hx hl B2 ((Fx.new .refl np).trans (f1.trans f2))
/-! ### _law_begin -/
def spBegin (K : PySem.W.Frag) : Sp := fun vs H Q _ => ∃ (a : Addr) (ns : List Int), vs = [.ref a] ∧ SqL K H a (ns.map V.int) ∧ ∀ (b : Addr) (H' : Hp), H b = none → Bag H' b → Same H H' → Q (.ref b) H'
abbrev HasBegin (P : Program) (w : World) (K : PySem.W.Frag) (mg : Str → Option Value) (base : Heap) : Prop := Has P w K mg base 1 "_law_begin" ["_law_script"] (spBegin K)
theorem sc_begin : FnScope ["_law_script", "_law_salt", "_law_cell"] ["_law_script"] (defScope s__law_begin) := ⟨rfl, rfl, rfl, by decide +kernel, rfl, by decide +kernel, by decide +kernel⟩
theorem cut_ints (ns : List Int) (lo hi : Option Int) : ∃ ms : List Int, cutV (ns.map V.int) lo hi = ms.map V.int := by
  refine ⟨(ns.drop (HT.sIx (ns.map V.int).length 0 lo)).take (HT.sIx (ns.map V.int).length (ns.map V.int).length hi - HT.sIx (ns.map V.int).length 0 lo), ?_⟩
  unfold cutV
  rw [List.map_take, List.map_drop]
theorem has_begin (F : FnAt K mg "_law_begin" s__law_begin ["_law_script"]) (B : Blt mg) : HasBegin P w K mg base := F.has fun F => by
  refine F.ok sc_begin (fun vs H Q E h => ?_) (fun cdv A outer s H vs Q E hr h => ?_)
  · obtain ⟨a, ns, rfl, _⟩ := h
    rfl
  · obtain ⟨a, ns, rfl, hS, q⟩ := h
    refine ⟨_, pss_cons (ps_set (i := 1) sc_begin.nd rfl (.inl rfl) pe_int)
      (pss_cons (ps_for PassesOwn.never rfl (pi_list (pe_slice sl_list (pv 0) po_none (po_some pe_int))) (pg_name (i := 2) sc_begin.nd rfl (.inl rfl))
        (pss_one (ps_set (i := 1) sc_begin.nd rfl (.inl rfl) (pe_op op_mod (pe_op op_add (pe_op op_add (pe_op op_mul (pv 1) pe_int) (pe_op op_mod (pv 2) pe_int)) pe_int) pe_int))))
      (pss_one (ps_ret (pe_lst (pa_cons (pe_callTy call_list_of (by rfl) B.list (by decide +kernel) (pa_cons (pe_slice sl_list (pv 0) po_none (po_some pe_int)) pa_nil)) (pa_cons pe_int (pa_cons pe_int (pa_cons (pv 1) pa_nil)))))))), ?_⟩
    obtain ⟨ms, em⟩ := cut_ints ns none (some 63)
    refine ⟨_, rfl, 63, rfl, a, _, rfl, hS, fun p np => ?_⟩
    have s1 : Same H (upd H p (.lst (cutV (ns.map V.int) none (some 63)))) := same_upd np
    have hp : SqL K (upd H p (.lst (cutV (ns.map V.int) none (some 63)))) p (ms.map V.int) := SqL.of (by rw [upd_same, em])
    refine ⟨p, rfl, ⟨_, hp⟩, for_list (K := K) (a := p) (xs := ms.map V.int) (fun i σ H2 => ∃ (r : Int) (y : Option V), σ = [some (.ref a), some (.int r), y] ∧ 0 ≤ r ∧ r < 2147483647 ∧ H2 = upd H p (.lst (cutV (ns.map V.int) none (some 63))))
      ⟨977, none, rfl, by decide, by decide, rfl⟩ (fun i σ H2 _ ⟨_, _, _, _, _, e⟩ => by rw [e]; exact hp) ?_ ?_⟩
    · rintro i v σ H2 hi ⟨r, y, rfl, r0, r1, rfl⟩
      obtain ⟨z, rfl⟩ : ∃ z, v = V.int z := by
        rw [List.getElem?_map] at hi
        cases e : ms[i]? with
        | none =>
          rw [e] at hi
          cases hi
        | some z =>
          rw [e] at hi
          exact ⟨z, (Option.some.inj hi).symm⟩
      refine ⟨_, rfl, r, 1009, rfl, rfl, .inr ⟨by decide, by decide⟩, _, rfl, z, 2147483629, rfl, rfl, (by show (0 : Int) < 2147483629; decide), _, _, rfl, rfl, _, 7, rfl, rfl, _, 2147483629, rfl, rfl, (by show (0 : Int) < 2147483629; decide), ?_⟩
      have h0 : 0 ≤ (r * 1009 + z % 2147483629 + 7) % 2147483629 := Int.emod_nonneg _ (by decide)
      have h1 : (r * 1009 + z % 2147483629 + 7) % 2147483629 < 2147483629 := Int.emod_lt_of_pos _ (by decide)
      exact ⟨_, _, rfl, h0, by omega, rfl⟩
    · rintro σ H2 ⟨r, y, rfl, r0, r1, rfl⟩
      refine ⟨_, rfl, 63, rfl, a, _, rfl, s1.seq hS, fun p2 np2 => ?_⟩
      have hp2 : SqL K (upd (upd H p (.lst (cutV (ns.map V.int) none (some 63)))) p2 (.lst (cutV (ns.map V.int) none (some 63)))) p2 (ms.map V.int) := SqL.of (by rw [upd_same, em])
      have s2 := s1.trans (same_upd (o := .lst (cutV (ns.map V.int) none (some 63))) np2)
      refine ⟨p2, _, rfl, .inl hp2, fun l nl => ?_⟩
      have s3 := s2.trans (same_upd (o := .lst (ms.map V.int)) nl)
      refine ⟨_, rfl, (by show 4 ≤ sizeLine; decide), fun b nb => ?_⟩
      have s4 := s3.trans (same_upd (o := .lst [.ref l, .int 0, .int 0, .int r]) nb)
      refine q b _ (s3.free nb) ⟨l, ms, 0, 0, r, upd_same, ?_, by decide, by decide, r0, r1⟩ s4
      have nlb : l ≠ b := fun z => by
        rw [← z, upd_same] at nb
        cases nb
      rw [upd_ne nlb, upd_same]
end
end Sf
namespace Sf
open PySem PySem.Spec PyProof.Rows L2 TL
section
variable {P : Program} {w : World} {K : PySem.W.Frag} {mg : Str → Option Value} {base : Heap}
/-! ### _law_same: True of two values of the same data -/
def spSame (n : Nat) : Sp := fun vs H Q _ => ∃ x y : V, vs = [x, y] ∧ Eqv H n x y ∧ ∀ H', Same H H' → Q (.bl true) H'
abbrev HasSame (P : Program) (w : World) (K : PySem.W.Frag) (mg : Str → Option Value) (base : Heap) (n : Nat) : Prop := Has P w K mg base (n + 1) "_law_same" ["_law_found", "_law_due"] (spSame n)
theorem sc_same : FnScope ["_law_found", "_law_due", "_law_one", "_law_other"] ["_law_found", "_law_due"] (defScope s__law_same) := ⟨rfl, rfl, rfl, by decide +kernel, rfl, by decide +kernel, by decide +kernel⟩
theorem all_true (n : Nat) : (List.replicate n true).all id = true := by
  induction n with
  | zero => rfl
  | succ n ih => rw [List.replicate_succ, List.all_cons, ih]; rfl
theorem has_same (F : FnAt K mg "_law_same" s__law_same ["_law_found", "_law_due"]) (B : Blt mg) : ∀ n, HasSame P w K mg base n := by
  intro n
  induction n with
  | zero =>
    refine F.has fun F => ?_
    refine F.ok sc_same (fun vs H Q E h => ?_) (fun cdv A outer s H vs Q E hr h => ?_)
    · obtain ⟨x, y, rfl, _⟩ := h
      rfl
    · obtain ⟨x, y, rfl, ⟨fx, rfl⟩, q⟩ := h
      obtain ⟨T, b1, b2, b3, ty, k1, k2, k3, k4, k5⟩ := flat_kit (K := K) (H := H) fx
      refine ⟨_, pss_cons (ps_if (pt_val (pe_callB call_isiT (by rfl) B.isinstance (by decide +kernel) (pa_cons (pv 1) (pa_cons (pe_tup (pa_cons (pe_bltn (v := .ty "list") (by rfl) B.list (by decide +kernel) rfl) (pa_cons (pe_bltn (v := .ty "tuple") (by rfl) B.tuple (by decide +kernel) rfl) pa_nil))) pa_nil)))) pss_never pss_nil)
        (pss_cons (ps_if (PW.pt (pw_or (pt_cmpR op_isN (pv 1) pe_non (nomark _)) (pw_or1 (pt_cmpR op_isN (pv 0) pe_non (nomark _))))) (pss_one (ps_ret (pe_and (pe_cmpR op_isN (pv 0) pe_non (nomark _)) (pe_one (pe_cmpR op_isN (pv 1) pe_non (nomark _)))))) pss_nil)
        (pss_cons (ps_if (PW.pt (pw_or (pt_cmpR op_ne (pe_callB call_isi (by rfl) B.isinstance (by decide +kernel) (pa_cons (pv 0) (pa_cons (pe_bltn (v := .ty "bool") (by rfl) B.bool (by decide +kernel) rfl) pa_nil))) (pe_callB call_isi (by rfl) B.isinstance (by decide +kernel) (pa_cons (pv 1) (pa_cons (pe_bltn (v := .ty "bool") (by rfl) B.bool (by decide +kernel) rfl) pa_nil))) (nomark _))
            (pw_or1 (pt_cmpR op_ne (pe_callB call_isi (by rfl) B.isinstance (by decide +kernel) (pa_cons (pv 0) (pa_cons (pe_bltn (v := .ty "int") (by rfl) B.int (by decide +kernel) rfl) pa_nil))) (pe_callB call_isi (by rfl) B.isinstance (by decide +kernel) (pa_cons (pv 1) (pa_cons (pe_bltn (v := .ty "int") (by rfl) B.int (by decide +kernel) rfl) pa_nil))) (nomark _))))) pss_never pss_nil)
        (pss_one (ps_ret (pe_and (pe_cmpR op_eq (pe_callB call_isi (by rfl) B.isinstance (by decide +kernel) (pa_cons (pv 0) (pa_cons (pe_bltn (v := .ty "str") (by rfl) B.str (by decide +kernel) rfl) pa_nil))) (pe_callB call_isi (by rfl) B.isinstance (by decide +kernel) (pa_cons (pv 1) (pa_cons (pe_bltn (v := .ty "str") (by rfl) B.str (by decide +kernel) rfl) pa_nil))) (nomark _)) (pe_one (pe_cmpR op_eq (pv 0) (pv 1) (nomark _)))))))), ?_⟩
      refine ⟨x, rfl, (by show 2 ≤ sizeLine; decide), fun p np => ?_⟩
      have s1 := same_upd (o := .tup [.ty "list", .ty "tuple"]) np
      have ty1 := TyX.same s1 fx ty
      refine ⟨x, p, _, _, [.type "list", .type "tuple"], false, rfl, upd_same, .cons (.ty _) (.cons (.ty _) .nil), ty1, kit2 k1 k2, _, rfl, iteF ?_⟩
      refine ⟨x, rfl, rfl, _, rfl, ite2 (fun e => ?_) (fun e => ?_)⟩
      · have ex : x = .non := of_decide_eq_true e
        subst ex
        refine iteT ⟨_, rfl, rfl, _, rfl, ite2 (fun _ => ⟨_, rfl, rfl, ?_⟩) (fun z => absurd (decide_eq_true rfl) z)⟩
        exact q _ s1
      · refine ⟨x, rfl, rfl, _, rfl, ite2 (fun e2 => absurd e2 e) (fun _ => ?_)⟩
        refine ⟨x, rfl, x, _, _, _, b1, rfl, .ty "bool", ty1, kit_ty k3, x, rfl, x, _, _, _, b1, rfl, .ty "bool", ty1, kit_ty k3, rfl, _, rfl, ite2 (fun z => ?_) (fun _ => ?_)⟩
        · rw [ne_bl] at z
          cases z
        · refine ⟨x, rfl, x, _, _, _, b2, rfl, .ty "int", ty1, kit_ty k4, x, rfl, x, _, _, _, b2, rfl, .ty "int", ty1, kit_ty k4, rfl, _, rfl, ite2 (fun z => ?_) (fun _ => ?_)⟩
          · rw [ne_bl] at z
            cases z
          · refine ⟨x, rfl, x, _, _, _, b3, rfl, .ty "str", ty1, kit_ty k5, x, rfl, x, _, _, _, b3, rfl, .ty "str", ty1, kit_ty k5, rfl, _, rfl, ite2 (fun z => ?_) (fun z => absurd (decide_eq_true rfl) z)⟩
            refine ⟨x, rfl, x, rfl, scal_flat fx, ?_⟩
            rw [decide_eq_true rfl]
            exact q _ s1
  | succ n ih =>
    obtain ⟨fR, fdR, gR, kR, bR, GR⟩ := ih
    refine F.has fun F => ?_
    refine F.ok sc_same (fun vs H Q E h => ?_) (fun cdv A outer s H vs Q E hr h => ?_)
    · obtain ⟨x, y, rfl, _⟩ := h
      rfl
    · obtain ⟨x, y, rfl, hE, q⟩ := h
      refine seq_by (fun σ H1 => σ = [some x, some x, none, none] ∧ flat4 x = true ∧ Same H H1) ?_ ?_
      · refine ⟨_, (pss_cons (ps_if (PW.pt (pw_or (pt_cmpR op_isN (pv 1) pe_non (nomark _)) (pw_or1 (pt_cmpR op_isN (pv 0) pe_non (nomark _))))) (pss_one (ps_ret (pe_and (pe_cmpR op_isN (pv 0) pe_non (nomark _)) (pe_one (pe_cmpR op_isN (pv 1) pe_non (nomark _)))))) pss_nil)
        (pss_cons (ps_if (PW.pt (pw_or (pt_cmpR op_ne (pe_callB call_isi (by rfl) B.isinstance (by decide +kernel) (pa_cons (pv 0) (pa_cons (pe_bltn (v := .ty "bool") (by rfl) B.bool (by decide +kernel) rfl) pa_nil))) (pe_callB call_isi (by rfl) B.isinstance (by decide +kernel) (pa_cons (pv 1) (pa_cons (pe_bltn (v := .ty "bool") (by rfl) B.bool (by decide +kernel) rfl) pa_nil))) (nomark _))
            (pw_or1 (pt_cmpR op_ne (pe_callB call_isi (by rfl) B.isinstance (by decide +kernel) (pa_cons (pv 0) (pa_cons (pe_bltn (v := .ty "int") (by rfl) B.int (by decide +kernel) rfl) pa_nil))) (pe_callB call_isi (by rfl) B.isinstance (by decide +kernel) (pa_cons (pv 1) (pa_cons (pe_bltn (v := .ty "int") (by rfl) B.int (by decide +kernel) rfl) pa_nil))) (nomark _))))) pss_never pss_nil)
        (pss_one (ps_ret (pe_and (pe_cmpR op_eq (pe_callB call_isi (by rfl) B.isinstance (by decide +kernel) (pa_cons (pv 0) (pa_cons (pe_bltn (v := .ty "str") (by rfl) B.str (by decide +kernel) rfl) pa_nil))) (pe_callB call_isi (by rfl) B.isinstance (by decide +kernel) (pa_cons (pv 1) (pa_cons (pe_bltn (v := .ty "str") (by rfl) B.str (by decide +kernel) rfl) pa_nil))) (nomark _)) (pe_one (pe_cmpR op_eq (pv 0) (pv 1) (nomark _)))))))), ?_⟩
        rintro σ H1 ⟨rfl, fx, s1⟩
        obtain ⟨T, b1, b2, b3, ty1, k1, k2, k3, k4, k5⟩ := flat_kit (K := K) (H := H1) fx
        refine ⟨x, rfl, rfl, _, rfl, ite2 (fun e => ?_) (fun e => ?_)⟩
        · have ex : x = .non := of_decide_eq_true e
          subst ex
          refine iteT ⟨_, rfl, rfl, _, rfl, ite2 (fun _ => ⟨_, rfl, rfl, ?_⟩) (fun z => absurd (decide_eq_true rfl) z)⟩
          exact q _ s1
        · refine ⟨x, rfl, rfl, _, rfl, ite2 (fun e2 => absurd e2 e) (fun _ => ?_)⟩
          refine ⟨x, rfl, x, _, _, _, b1, rfl, .ty "bool", ty1, kit_ty k3, x, rfl, x, _, _, _, b1, rfl, .ty "bool", ty1, kit_ty k3, rfl, _, rfl, ite2 (fun z => ?_) (fun _ => ?_)⟩
          · rw [ne_bl] at z
            cases z
          · refine ⟨x, rfl, x, _, _, _, b2, rfl, .ty "int", ty1, kit_ty k4, x, rfl, x, _, _, _, b2, rfl, .ty "int", ty1, kit_ty k4, rfl, _, rfl, ite2 (fun z => ?_) (fun _ => ?_)⟩
            · rw [ne_bl] at z
              cases z
            · refine ⟨x, rfl, x, _, _, _, b3, rfl, .ty "str", ty1, kit_ty k5, x, rfl, x, _, _, _, b3, rfl, .ty "str", ty1, kit_ty k5, rfl, _, rfl, ite2 (fun z => ?_) (fun z => absurd (decide_eq_true rfl) z)⟩
              refine ⟨x, rfl, x, rfl, scal_flat fx, ?_⟩
              rw [decide_eq_true rfl]
              exact q _ s1
      · intro u hu
        refine ⟨_, ps_if (pt_val (pe_callB call_isiT (by rfl) B.isinstance (by decide +kernel) (pa_cons (pv 1) (pa_cons (pe_tup (pa_cons (pe_bltn (v := .ty "list") (by rfl) B.list (by decide +kernel) rfl) (pa_cons (pe_bltn (v := .ty "tuple") (by rfl) B.tuple (by decide +kernel) rfl) pa_nil))) pa_nil))))
          (pss_cons (ps_if (PW.pt (pw_or (pt_cmpR op_ne (pe_callB call_isi (by rfl) B.isinstance (by decide +kernel) (pa_cons (pv 0) (pa_cons (pe_bltn (v := .ty "list") (by rfl) B.list (by decide +kernel) rfl) pa_nil))) (pe_callB call_isi (by rfl) B.isinstance (by decide +kernel) (pa_cons (pv 1) (pa_cons (pe_bltn (v := .ty "list") (by rfl) B.list (by decide +kernel) rfl) pa_nil))) (nomark _)) (pw_or1 (pt_cmpR op_ne (pe_callB call_isi (by rfl) B.isinstance (by decide +kernel) (pa_cons (pv 0) (pa_cons (pe_bltn (v := .ty "tuple") (by rfl) B.tuple (by decide +kernel) rfl) pa_nil))) (pe_callB call_isi (by rfl) B.isinstance (by decide +kernel) (pa_cons (pv 1) (pa_cons (pe_bltn (v := .ty "tuple") (by rfl) B.tuple (by decide +kernel) rfl) pa_nil))) (nomark _))))) pss_never pss_nil)
          (pss_one (ps_ret (pe_and (pe_cmpR op_eq (pe_callB call_len_seq (by rfl) B.len PySem.boot_len (pa_cons (pv 0) pa_nil)) (pe_callB call_len_seq (by rfl) B.len PySem.boot_len (pa_cons (pv 1) pa_nil)) (nomark _))
            (pe_one (pe_callB (cr_all rfl) (by rfl) B.all (by decide +kernel) (pa_cons (pe_lc (own := [("_law_one", 2), ("_law_other", 3)]) (g := gTup K 2 (gCons (gName 2) (gCons (gName 3) gNil))) (tt := tYes) (by rfl) sc_same.nd (RZ.pi_zipA (by rfl) B.zip (pa_cons (pv 0) (pa_cons (pv 1) pa_nil)))
              (blkOk_by (own := [("_law_one", 2), ("_law_other", 3)]) (N := ["_law_found", "_law_due", "_law_one", "_law_other"]) (sc := defScope s__law_same) (by decide +kernel))
              (fun _ _ _ _ _ => pg_tup rfl (pgs_cons (pg_name (i := 2) sc_same.nd rfl (.inl rfl)) (pgs_cons (pg_name (i := 3) sc_same.nd rfl (.inl rfl)) pgs_nil))) (fun _ _ _ _ _ => pts_nil)
              (fun _ _ _ _ _ => pe_call GR hr (by rfl) gR kR bR .nil pass0 (pa_cons (pv 2) (pa_cons (pv 3) pa_nil)))) pa_nil))))))) pss_nil, ?_⟩
        refine ⟨y, rfl, (by show 2 ≤ sizeLine; decide), fun p np => ?_⟩
        have s1 := same_upd (o := .tup [.ty "list", .ty "tuple"]) np
        rcases hE with ⟨fx, rfl⟩ | ⟨pa, pb, xs, ys, rfl, rfl, hxy, hlen, hsz, hEach⟩
        · obtain ⟨T, b1, b2, b3, ty, k1, k2, k3, k4, k5⟩ := flat_kit (K := K) (H := upd H p (.tup [.ty "list", .ty "tuple"])) fx
          exact ⟨x, p, _, _, [.type "list", .type "tuple"], false, rfl, upd_same, .cons (.ty _) (.cons (.ty _) .nil), ty, kit2 k1 k2, _, rfl, iteF (hu _ _ ⟨rfl, fx, s1⟩)⟩
        · obtain ⟨T, bl, bt, tyx, tyy, kany, kl, kt⟩ : ∃ (T : String) (bl bt : Bool), TyX K (upd H p (.tup [.ty "list", .ty "tuple"])) (.ref pa) (.type T) ∧ TyX K (upd H p (.tup [.ty "list", .ty "tuple"])) (.ref pb) (.type T) ∧
              PySem.W.kitAny K (.type T) [.type "list", .type "tuple"] = some true ∧ kitB T "list" = some bl ∧ kitB T "tuple" = some bt := by
            rcases hxy with ⟨ha, hb⟩ | ⟨ha, hb⟩
            · exact ⟨"list", true, false, .base (.lst (s1 _ _ ha)), .base (.lst (s1 _ _ hb)), kitAny_cons (kit_ty (b := "list") (r := true) (by decide +kernel)) (fun q => nomatch q) (fun _ => rfl), by decide +kernel, by decide +kernel⟩
            · exact ⟨"tuple", false, true, .base (.tup (s1 _ _ ha)), .base (.tup (s1 _ _ hb)), kitAny_cons (kit_ty (b := "list") (r := false) (by decide +kernel)) (fun _ => kitAny_cons (kit_ty (b := "tuple") (r := true) (by decide +kernel)) (fun q => nomatch q) (fun _ => rfl)) (fun q => nomatch q), by decide +kernel, by decide +kernel⟩
          refine ⟨_, p, _, _, [.type "list", .type "tuple"], true, rfl, upd_same, .cons (.ty _) (.cons (.ty _) .nil), tyy, kany, _, rfl, iteT ?_⟩
          refine ⟨_, rfl, _, _, _, _, bl, rfl, .ty "list", tyx, kit_ty kl, _, rfl, _, _, _, _, bl, rfl, .ty "list", tyy, kit_ty kl, rfl, _, rfl, ite2 (fun z => ?_) (fun _ => ?_)⟩
          · rw [ne_bl] at z
            cases z
          refine ⟨_, rfl, _, _, _, _, bt, rfl, .ty "tuple", tyx, kit_ty kt, _, rfl, _, _, _, _, bt, rfl, .ty "tuple", tyy, kit_ty kt, rfl, _, rfl, ite2 (fun z => ?_) (fun _ => ?_)⟩
          · rw [ne_bl] at z
            cases z
          have sqx : SqL K (upd H p (.tup [.ty "list", .ty "tuple"])) pa xs ∨ SqT K (upd H p (.tup [.ty "list", .ty "tuple"])) pa xs := hxy.elim (fun h => .inl (SqL.of (s1 _ _ h.1))) (fun h => .inr (SqT.of (s1 _ _ h.1)))
          have sqy : SqL K (upd H p (.tup [.ty "list", .ty "tuple"])) pb ys ∨ SqT K (upd H p (.tup [.ty "list", .ty "tuple"])) pb ys := hxy.elim (fun h => .inl (SqL.of (s1 _ _ h.2))) (fun h => .inr (SqT.of (s1 _ _ h.2)))
          refine ⟨_, rfl, pa, xs, rfl, sqx, _, rfl, pb, ys, rfl, sqy, rfl, _, rfl, ite2 (fun _ => ?_) (fun z => absurd (decide_eq_true (by rw [hlen])) z)⟩
          refine ⟨_, rfl, _, rfl, pa, pb, xs, ys, rfl, ?_⟩
          have turn : ∀ (i : Nat) (x y : V) (D T : Addr) (H2 : Hp), (upd H p (.tup [.ty "list", .ty "tuple"])) D = none → xs[i]? = some x → ys[i]? = some y → Same (upd H p (.tup [.ty "list", .ty "tuple"])) H2 → H2 D = some (.lst (List.replicate i (V.bl true))) → H2 T = none →
              ∃ x' y' : V, [x, y] ++ [] = [x', y'] ∧ Eqv (upd H2 T (.tup [x, y])) n x' y' ∧ ∀ H', Same (upd H2 T (.tup [x, y])) H' → ∃ acc, H' D = some (.lst acc) ∧ acc.length < sizeLine ∧ (Same (upd H p (.tup [.ty "list", .ty "tuple"])) (upd H' D (.lst (acc ++ [.bl true]))) ∧ (upd H' D (.lst (acc ++ [.bl true]))) D = some (.lst (List.replicate (i + 1) (V.bl true)))) := by
            intro i x y D T H2 nD hx hy s2 hD nT
            have s3 : Same H2 (upd H2 T (.tup [x, y])) := same_upd nT
            have hi : i < xs.length := (List.getElem?_eq_some_iff.mp hx).1
            refine ⟨x, y, rfl, (hEach i x y hx hy).same (s1.trans (s2.trans s3)), fun H' s4 => ⟨_, s4 _ _ (s3 _ _ hD), ?_, fun a o e => ?_, ?_⟩⟩
            · rw [List.length_replicate]
              exact lineLt_of (by omega)
            · rw [upd_ne (ne_of_none e nD)]
              exact s4 _ _ (s3 _ _ (s2 _ _ e))
            · rw [upd_same, List.replicate_succ']
          have fin : ∀ (D : Addr) (H2 : Hp), Same (upd H p (.tup [.ty "list", .ty "tuple"])) H2 → H2 D = some (.lst (List.replicate xs.length (V.bl true))) → ∃ (a : Addr) (bs : List Bool), [V.ref D] = [V.ref a] ∧ SqL K H2 a (bs.map V.bl) ∧ Q (.bl (bs.all id)) H2 := by
            intro D H2 s2 hD
            refine ⟨D, List.replicate xs.length true, rfl, SqL.of (by rw [hD, List.map_replicate]), ?_⟩
            rw [all_true]
            exact q _ (s1.trans s2)
          rcases hxy with ⟨ha, hb⟩ | ⟨ha, hb⟩
          · refine .inl ⟨SqL.of (s1 _ _ ha), SqL.of (s1 _ _ hb), fun D nD => ?_⟩
            refine lc_gen (n := xs.length) (fun i H2 => Same (upd H p (.tup [.ty "list", .ty "tuple"])) H2 ∧ H2 D = some (.lst (List.replicate i (V.bl true)))) ⟨same_upd nD, upd_same⟩ ?_ ?_ ?_ ?_
            · rintro i H2 hi ⟨s2, hD⟩
              exact ⟨xs, ys, _, _, SqL.of (s2 _ _ (s1 _ _ ha)), SqL.of (s2 _ _ (s1 _ _ hb)), List.getElem?_eq_getElem hi, List.getElem?_eq_getElem (by omega)⟩
            · rintro H2 ⟨s2, hD⟩
              exact ⟨xs, ys, SqL.of (s2 _ _ (s1 _ _ ha)), SqL.of (s2 _ _ (s1 _ _ hb)), .inl (Nat.le_refl _)⟩
            · rintro i v H2 H3 hi ⟨s2, hD⟩ ⟨T, x, y, rfl, nT, rfl, f1, f2⟩
              refine ⟨T, [x, y], rfl, .inl (.inl upd_same), rfl, x, [y], rfl, y, [], rfl, rfl, rfl, ?_⟩
              refine yes_if ?_
              exact ⟨_, rfl, _, rfl, turn i x y D T H2 nD (f1 xs (SqL.of (s2 _ _ (s1 _ _ ha)))) (f2 ys (SqL.of (s2 _ _ (s1 _ _ hb)))) s2 hD nT⟩
            · rintro H2 ⟨s2, hD⟩
              exact fin D H2 s2 hD
          · refine .inr ⟨SqT.of (s1 _ _ ha), SqT.of (s1 _ _ hb), fun D nD => ?_⟩
            refine lc_gen (n := xs.length) (fun i H2 => Same (upd H p (.tup [.ty "list", .ty "tuple"])) H2 ∧ H2 D = some (.lst (List.replicate i (V.bl true)))) ⟨same_upd nD, upd_same⟩ ?_ ?_ ?_ ?_
            · rintro i H2 hi ⟨s2, hD⟩
              exact ⟨xs, ys, _, _, SqT.of (s2 _ _ (s1 _ _ ha)), SqT.of (s2 _ _ (s1 _ _ hb)), List.getElem?_eq_getElem hi, List.getElem?_eq_getElem (by omega)⟩
            · rintro H2 ⟨s2, hD⟩
              exact ⟨xs, ys, SqT.of (s2 _ _ (s1 _ _ ha)), SqT.of (s2 _ _ (s1 _ _ hb)), .inl (Nat.le_refl _)⟩
            · rintro i v H2 H3 hi ⟨s2, hD⟩ ⟨T, x, y, rfl, nT, rfl, f1, f2⟩
              refine ⟨T, [x, y], rfl, .inl (.inl upd_same), rfl, x, [y], rfl, y, [], rfl, rfl, rfl, ?_⟩
              refine yes_if ?_
              exact ⟨_, rfl, _, rfl, turn i x y D T H2 nD (f1 xs (SqT.of (s2 _ _ (s1 _ _ ha)))) (f2 ys (SqT.of (s2 _ _ (s1 _ _ hb)))) s2 hD nT⟩
            · rintro H2 ⟨s2, hD⟩
              exact fin D H2 s2 hD
end
end Sf
namespace Sf
open PySem PySem.Spec PyProof.Rows L2 TL
section
variable {P : Program} {w : World} {K : PySem.W.Frag} {mg : Str → Option Value} {base : Heap}
/-! ### is_word -/
def isW (x : Str) : Bool := decide (x.length ≤ 60) && (tl x).all sgn
def spIsWord : Sp := fun vs H Q _ => ∃ x : Str, vs = [.str x] ∧ x.length ≤ 100000 ∧ ∀ H', Same H H' → Q (.bl (isW x)) H'
abbrev HasIsWord (P : Program) (w : World) (K : PySem.W.Frag) (mg : Str → Option Value) (base : Heap) : Prop := Has P w K mg base 1 "is_word" ["text"] spIsWord
theorem sc_isword : FnScope ["text", "sign"] ["text"] (defScope s_is_word) := ⟨rfl, rfl, rfl, by decide +kernel, rfl, by decide +kernel, by decide +kernel⟩
theorem dec_signs {c : Nat} : decide (c ∈ (Str.ofString "aAbBcCdDeEfFgGhH").cps.toList) = sgn c := by
  rw [Bool.eq_iff_iff, decide_eq_true_eq]
  exact in_signs
theorem getElem?_of_cps {x : Str} {i c : Nat} (h : x.cps[i]? = some c) : (tl x)[i]? = some c := by
  rw [← h]
  exact Array.getElem?_toList
theorem has_isword (F : FnAt K mg "is_word" s_is_word ["text"]) (B : Blt mg) {t1 t2 : Tok} (mM : mg "MOST_WORD" = some (.int 60 t1)) (mS : mg "SIGNS" = some (.str (Str.ofString "aAbBcCdDeEfFgGhH") t2)) : HasIsWord P w K mg base := F.has fun F => by
  refine F.ok sc_isword (fun vs H Q E h => ?_) (fun cdv A outer s H vs Q E hr h => ?_)
  · obtain ⟨x, rfl, _⟩ := h
    rfl
  · obtain ⟨x, rfl, hlen, q⟩ := h
    have hz : x.cps.size = (tl x).length := len_tl x
    refine ⟨_, pss_one (ps_ret (pe_and (pe_cmpR op_le (pe_callB call_len_str (by rfl) B.len PySem.boot_len (pa_cons (pv 0) pa_nil)) (pe_glob (v := .int 60) (by rfl) mM ⟨_, rfl⟩) (nomark _))
      (pe_one (pe_callB (cr_all rfl) (by rfl) B.all (by decide +kernel) (pa_cons (pe_lc (own := [("sign", 1)]) (g := gName 1) (tt := tYes) (by rfl) sc_isword.nd (pi_str (pv 0))
        (blkOk_by (own := [("sign", 1)]) (N := ["text", "sign"]) (sc := defScope s_is_word) (by decide +kernel)) (fun _ _ _ _ _ => pg_name (i := 1) sc_isword.nd rfl (.inl rfl)) (fun _ _ _ _ _ => pts_nil)
        (fun _ _ _ _ _ => pe_cmpR op_in_sign (pv 1) (pe_glob (v := .str (Str.ofString "aAbBcCdDeEfFgGhH")) (by rfl) mS ⟨_, rfl⟩) rfl)) pa_nil))))), ?_⟩
    refine ⟨_, rfl, x, rfl, line_of hlen, _, 60, rfl, rfl, _, rfl, ite2 (fun e => ?_) (fun e => ?_)⟩
    · refine ⟨_, rfl, x, rfl, fun D nD => ?_⟩
      refine lc_gen (n := x.cps.size) (fun i H2 => Same H H2 ∧ H2 D = some (.lst (((tl x).take i).map fun c => V.bl (sgn c)))) ⟨same_upd nD, upd_same⟩ ?_ ?_ ?_ ?_
      · rintro i H2 hi ⟨s2, hD⟩
        exact hi
      · rintro H2 ⟨s2, hD⟩
        exact Nat.le_refl _
      · rintro i v H2 H3 hi ⟨s2, hD⟩ ⟨rfl, c, hc, rfl⟩
        refine ⟨rfl, yes_if ?_⟩
        refine ⟨_, rfl, c, _, rfl, rfl, _, hD, ?_, fun a o e => ?_, ?_⟩
        · rw [List.length_map, List.length_take]
          exact lineLt_of (Nat.le_trans (Nat.min_le_right _ _) (by rw [← hz]; exact hlen))
        · rw [upd_ne (ne_of_none e nD)]
          exact s2 _ _ e
        · have ed : decide (c ∈ (Str.ofString "aAbBcCdDeEfFgGhH").cps.toList) = sgn c := dec_signs
          rw [upd_same, List.take_add_one, getElem?_of_cps hc, List.map_append, ed]
          rfl
      · rintro H2 ⟨s2, hD⟩
        refine ⟨D, (tl x).map sgn, rfl, SqL.of ?_, ?_⟩
        · rw [hD, List.take_of_length_le (by rw [hz]; exact Nat.le_refl _), List.map_map]
          rfl
        · have h1 := q H2 s2
          have e1 : decide (x.length ≤ 60) = true := decide_eq_true (by have := of_decide_eq_true e; omega)
          have e2 : ((tl x).map sgn).all id = (tl x).all sgn := by
            rw [List.all_map]
            rfl
          rw [e2]
          unfold isW at h1
          rw [e1, Bool.true_and] at h1
          exact h1
    · have h1 := q H (.refl H)
      have e1 : decide (x.length ≤ 60) = false := decide_eq_false (fun z => e (decide_eq_true (by omega)))
      unfold isW at h1
      rw [e1, Bool.false_and] at h1
      exact h1
theorem isW_true {x : Str} (h : Wd x) (hl : x.length ≤ 60) : isW x = true := by
  unfold isW
  rw [decide_eq_true hl, Bool.true_and, List.all_eq_true]
  exact h
end
end Sf
namespace Sf
open PySem PySem.Spec PyProof.Rows L2 TL
section
variable {X : Cx}
/-! ### text * int -/
theorem op_mul_str : OpR X (binaryOp .Mult) (fun x y H Q => ∃ (a : Str) (n : Int), x = .str a ∧ y = .int n ∧ 0 ≤ n ∧ n ≤ 1000 ∧ a.length ≤ 1000 ∧ Q (.str (Txt.mul a n)) H) := by
  intro pins s σ H x y v u Q I rx ry h
  obtain ⟨a, n, rfl, rfl, h0, h1, h2, q⟩ := h
  obtain ⟨t, rfl⟩ := rx
  obtain ⟨t', rfl⟩ := ry
  refine PySem.SB.mul ⟨?_, fun hn _ => ?_, fun _ _ => ?_⟩ fun t' k => ⟨.str _, H, I.tok k, ⟨t', rfl⟩, q⟩
  · rw [decide_eq_false (by omega), decide_eq_false (by omega)]
    rfl
  · have h3 : (2 ^ 63 - 1) / n ≥ 9223372036854775807 / 1000 := by
      show (9223372036854775807 : Int) / 1000 ≤ (2 ^ 63 - 1) / n
      have e : (2 ^ 63 - 1 : Int) = 9223372036854775807 := by decide
      rw [e]
      refine (Int.le_ediv_iff_mul_le (by omega)).mpr ?_
      have : (9223372036854775807 : Int) / 1000 * n ≤ (9223372036854775807 : Int) / 1000 * 1000 := Int.mul_le_mul_of_nonneg_left h1 (by decide)
      have e2 : (9223372036854775807 : Int) / 1000 * 1000 ≤ 9223372036854775807 := by decide
      omega
    have e3 : (9223372036854775807 : Int) / 1000 = 9223372036854775 := by decide
    omega
  · refine PyProof.Rows.short24 ?_
    have h5 : n.toNat ≤ 1000 := by omega
    exact Nat.le_trans (Nat.mul_le_mul h2 h5) (by decide)
theorem mul_len {a : Str} {n : Int} (h : 0 ≤ n) : (Txt.mul a n).length = a.length * n.toNat := by
  obtain ⟨m, rfl⟩ : ∃ m : Nat, n = (m : Int) := ⟨n.toNat, by omega⟩
  have h1 := PyProof.Rows.len_mul a (m : Int)
  rw [decide_eq_false (by omega)] at h1
  have e : (if false = true then (0 : Int) else (m : Int)) = (m : Int) := rfl
  rw [e, ← Int.natCast_mul] at h1
  rw [Int.toNat_natCast]
  exact Int.ofNat.inj h1
theorem foldl_app (a : Array Nat) : ∀ (k : Nat) (acc : Array Nat) (c : Nat), c ∈ ((List.replicate k a).foldl (· ++ ·) acc).toList → c ∈ acc.toList ∨ c ∈ a.toList
  | 0, acc, c, h => .inl h
  | k + 1, acc, c, h => by
    rw [List.replicate_succ, List.foldl_cons] at h
    rcases foldl_app a k (acc ++ a) c h with h | h
    · rw [Array.toList_append, List.mem_append] at h
      exact h
    · exact .inr h
theorem mul_mem {a : Str} {n : Int} {c : Nat} (h : c ∈ tl (Txt.mul a n)) : c ∈ tl a := by
  unfold Txt.mul at h
  split at h
  · cases h
  · split at h
    · exact h
    · rcases foldl_app a.cps n.toNat #[] c h with h | h
      · cases h
      · exact h
theorem Wd.mul {a : Str} {n : Int} (h : Wd a) : Wd (Txt.mul a n) := fun c hc => h c (mul_mem hc)
theorem tl_cut (z : Str) (lo hi : Option Int) : tl (cutS z lo hi) = ((tl z).drop (HT.sIx z.length 0 lo)).take (HT.sIx z.length z.length hi - HT.sIx z.length 0 lo) := by
  unfold cutS
  rfl
theorem Wd.cut {z : Str} {lo hi : Option Int} (h : Wd z) : Wd (cutS z lo hi) := fun c hc => by
  rw [tl_cut] at hc
  exact h c (List.mem_of_mem_drop (List.mem_of_mem_take hc))
end
end Sf
namespace Sf
open PySem PySem.Spec PyProof.Rows L2 TL
section
variable {X : Cx}
/-! ### text[::-1] -/
def revS (z : Str) : Str := ⟨(tl z).reverse.toArray⟩
theorem tl_revS (z : Str) : tl (revS z) = (tl z).reverse := rfl
theorem rev_picked (z : Str) : ((Builtin.Str.strSliceIndices none none (-1) z.length).filterMap (z.cps[·]?)) = (tl z).reverse := by
  rw [picked_rev]
  apply List.ext_getElem?
  intro i
  have hz : z.length = (tl z).length := len_tl z
  rw [PyProof.Rows.filterMap_get _ _ (fun k hk => by
    obtain ⟨j, hj, rfl⟩ := List.mem_map.mp hk
    have := List.mem_range.mp hj
    show z.length - 1 - j < z.length
    omega), List.map_map]
  by_cases h : i < z.length
  · rw [List.getElem?_reverse (by omega), List.getElem?_map, List.getElem?_range h]
    show some (z.cps.getD (z.length - 1 - i) 0) = _
    have h2 : z.length - 1 - i < z.cps.size := by show z.length - 1 - i < z.length; omega
    rw [← hz, Array.getElem?_toList]
    simp [Array.getD, h2]
  · rw [List.getElem?_eq_none (by rw [List.length_map, List.length_range]; omega), List.getElem?_eq_none (by rw [List.length_reverse, ← hz]; omega)]
def tRevS (te : TE) : TE := fun σ H Q => te σ H fun x H1 => ∃ z, x = .str z ∧ z.length ≤ sizeLine ∧ Q (.str (revS z)) H1
theorem pe_revS {e : Expr} {te : TE} {k : Nat} {p1 p2 p3 pos : Pos} (he : PE X e te) : PE X (.Subscript e (.Slice none none (some (.UnaryOp .USub (.Constant (.int 1) k p1) p2)) p3) pos) (tRevS te) := by
  refine ⟨fun pins s σ H Q I h => ?_⟩
  refine Subscript_ (thn (he.run pins s σ H _ I h) fun v s1 ⟨x, H1, I1, r1, q1⟩ => ?_)
  obtain ⟨z, ex, hz, q⟩ := q1
  subst ex
  obtain ⟨tz, rfl⟩ := r1
  have hst : PO X (some (.UnaryOp .USub (.Constant (.int 1) k p1) p2)) (tPart (tUn (rU fun i => .int (-i)) (tC (.int 1)))) := po_some (pe_un un_neg pe_int)
  refine wpAny_Slice (thn (po_none.run pins s1 σ H1 (fun o H2 => o = none ∧ H2 = H1) I1 ⟨rfl, rfl⟩) fun vl s2 ⟨l, H2, I2, pl, el, e2⟩ => ?_)
  subst el e2
  refine thn (po_none.run pins s2 σ H2 (fun o H3 => o = none ∧ H3 = H2) I2 ⟨rfl, rfl⟩) fun vu s3 ⟨u, H3, I3, pu, eu, e3⟩ => ?_
  subst eu e3
  refine thn (hst.run pins s3 σ H3 (fun o H4 => o = some (-1) ∧ H4 = H3) I3 ⟨1, rfl, -1, rfl, rfl, rfl⟩) fun vs s4 ⟨o, H4, I4, ps, eo, e4⟩ => ?_
  subst eo e4
  cases pl
  cases pu
  cases ps with
  | int _ ts =>
  have I5 : Inv X pins σ H4 { s4 with heap := s4.heap.push { cls := .type "slice", data := .fields #[.none, .none, .int (-1) ts] } } := I4.kept (t' := s4.toks) fun b ob q => Heap.get?_push_of_some _ q
  show wpAny (model X.prog X.w) X.A (subscriptTail e (.Slice none none (some (.UnaryOp .USub (.Constant (.int 1) k p1) p2)) p3) (.str z tz) (.ref s4.heap.objs.size)) (EP X pins σ Q) X.xe { s4 with heap := s4.heap.push { cls := .type "slice", data := .fields #[.none, .none, .int (-1) ts] } }
  refine tail_any (ops := [.str z tz, .ref s4.heap.objs.size]) (typeIs_str _ _ _) (PySem.F.slot_str_getitem.lookup) ?_ (by with_unfolding_all rfl)
  refine wpAny_getItem_str_slice (l := none) (u := none) (st := some (-1, ts)) ⟨_, Heap.get?_push_size _ rfl, rfl, rfl⟩ rfl ?_
  have e1 : sliceMade z tz none none (some (-1, ts)) = Made.str (revS z) := by
    unfold sliceMade slicePicked
    have h1 : ¬ (((((some ((-1 : Int), ts)).map (·.1)).getD 1 == 1) && ((Builtin.Str.strSliceIndices ((none : Option (Int × Tok)).map (·.1)) ((none : Option (Int × Tok)).map (·.1)) (((some ((-1 : Int), ts)).map (·.1)).getD 1) z.length).length == z.length)) = true) := by
      have : ((((some ((-1 : Int), ts)).map (·.1)).getD 1 == 1)) = false := rfl
      rw [this]
      simp
    rw [if_neg h1]
    show Made.str ⟨((Builtin.Str.strSliceIndices none none (-1) z.length).filterMap (z.cps[·]?)).toArray⟩ = _
    rw [rev_picked]
    rfl
  rw [e1]
  refine ⟨?_, .str _, H4, I5.tok _, ⟨_, rfl⟩, q⟩
  rw [len_tl, tl_revS, List.length_reverse, ← len_tl]
  exact hz
/-! ### text.swapcase() -/
theorem mt_swapcase : MtR X "str.swapcase" (fun x xs H Q => ∃ a, x = .str a ∧ xs = [] ∧ a.length ≤ 5592405 ∧ Q (.str (Txt.swapcase a)) H) :=
  mt0 (C := fun a => a.length ≤ 5592405) (g := fun a => .str (Txt.swapcase a)) fun a _ s _ hc h =>
    PySem.SC.swapcase (PyProof.Rows.fit_swapcase hc) (h _ (s.toks + 1) ⟨_, rfl⟩)
theorem pe_swapcase {o : Expr} {to : TE} {apos pos : Pos} (ho : PE X o to) (hbase : attributeBase o "swapcase" X.env (eval o X.env) = eval o X.env := by rfl) (hline : (apos.endLine == pos.line) = true := by rfl) :
    PE X (.Call (.Attribute o "swapcase" apos) [] [] pos) (tM0 (fun x xs H Q => ∃ a, x = .str a ∧ xs = [] ∧ a.length ≤ 5592405 ∧ Q (.str (Txt.swapcase a)) H) to) :=
  pe_m0 PySem.F.slot_str_swapcase PySem.F.type_str_swapcase mt_swapcase ho hbase hline
theorem case_sgn : ∀ c, c < 128 → sgn c = true → (if Unicode.isUpper c then PyProof.Rows.lo1 c else if Unicode.isLower c then PyProof.Rows.up1 c else c) = flipC c := by decide +kernel
theorem sgn_lt {c : Nat} (h : sgn c = true) : c < 128 := by
  rw [sgn_iff] at h
  omega
def flipS (x : Str) : Str := ⟨((tl x).map flipC).toArray⟩
theorem swap_wd {x : Str} (h : Wd x) : Txt.swapcase x = flipS x := by
  unfold Txt.swapcase
  rw [PyProof.Rows.placed_single x _ flipC fun i c hc => by
    have hc' : x.cps[i]? = some c := by simpa using hc
    have hs := h c (List.mem_of_getElem? hc)
    have hlt := sgn_lt hs
    have hk := case_sgn c hlt hs
    unfold Unicode.lowerAt
    rw [hc']
    have hne : (c == 0x3A3) = false := by rw [beq_eq_false_iff_ne]; omega
    simp only [hne, Bool.false_and, Bool.false_eq_true, if_false]
    rw [PyProof.Rows.lowerOf_ascii c hlt, PyProof.Rows.upperOf_ascii c hlt, ← hk]
    by_cases h1 : Unicode.isUpper c = true
    · rw [if_pos h1, if_pos h1]
    · rw [if_neg h1, if_neg h1]
      by_cases h2 : Unicode.isLower c = true
      · rw [if_pos h2, if_pos h2]
      · rw [if_neg h2, if_neg h2]]
  apply ext_tl
  show (x.cps.map flipC).toList = (tl x).map flipC
  rw [Array.toList_map]
theorem flipS_one (c : Nat) : flipS (one c) = one (flipC c) := rfl
theorem tl_flipS (x : Str) : tl (flipS x) = (tl x).map flipC := rfl
theorem rev_wd {x : Str} (h : Wd x) : Wd (revS x) := fun c hc => h c (List.mem_reverse.mp hc)
theorem revS_len (x : Str) : (revS x).length = x.length := by rw [len_tl, tl_revS, List.length_reverse, ← len_tl]
end
end Sf
namespace Sf
open PySem PySem.Spec PyProof.Rows L2 TL
/-! ### words as lists of codes; the stack of a walk (its head is the last sign) -/
abbrev Sg (l : List Nat) : Prop := ∀ c ∈ l, sgn c = true
theorem flip2 {c : Nat} (h : sgn c = true) : flipC (flipC c) = c := by
  rw [sgn_iff] at h
  unfold flipC
  by_cases h1 : 97 ≤ c
  · rw [if_pos h1, if_neg (by omega)]
    omega
  · rw [if_neg h1, if_pos (by omega)]
    omega
theorem flip_inj {c d : Nat} (hc : sgn c = true) (hd : sgn d = true) (h : flipC c = flipC d) : c = d := by
  rw [← flip2 hc, ← flip2 hd, h]
def pushS (s : List Nat) (c : Nat) : List Nat :=
  match s with
  | [] => [c]
  | x :: t => if x = flipC c then t else c :: x :: t
def RedS : List Nat → Prop
  | [] => True
  | [_] => True
  | x :: y :: t => y ≠ flipC x ∧ RedS (y :: t)
theorem RedS.tail {x : Nat} {t : List Nat} (h : RedS (x :: t)) : RedS t := by
  cases t with
  | nil => trivial
  | cons y t => exact h.2
theorem RedS.suffix : ∀ {a b : List Nat}, RedS (a ++ b) → RedS b
  | [], _, h => h
  | _ :: a, _, h => RedS.suffix (a := a) (RedS.tail h)
theorem pushS_red {s : List Nat} {c : Nat} (h : RedS s) : RedS (pushS s c) := by
  cases s with
  | nil => trivial
  | cons x t =>
    unfold pushS
    by_cases e : x = flipC c
    · simp only [if_pos e]
      exact h.tail
    · simp only [if_neg e]
      exact ⟨e, h⟩
theorem pushS_sg {s : List Nat} {c : Nat} (h : Sg s) (hc : sgn c = true) : Sg (pushS s c) := by
  cases s with
  | nil =>
    intro d hd
    rw [pushS, List.mem_singleton] at hd
    rw [hd]
    exact hc
  | cons x t =>
    unfold pushS
    by_cases e : x = flipC c
    · simp only [if_pos e]
      exact fun d hd => h d (List.mem_cons_of_mem _ hd)
    · simp only [if_neg e]
      intro d hd
      rcases List.mem_cons.mp hd with rfl | hd
      · exact hc
      · exact h d hd
theorem pushS_inv {s : List Nat} {c : Nat} (h : RedS s) (hs : Sg s) (hc : sgn c = true) : pushS (pushS s c) (flipC c) = s := by
  cases s with
  | nil =>
    show (if c = flipC (flipC c) then [] else _) = ([] : List Nat)
    rw [if_pos (flip2 hc).symm]
  | cons x t =>
    by_cases e : x = flipC c
    · have e1 : pushS (x :: t) c = t := by simp only [pushS, if_pos e]
      rw [e1, e]
      cases t with
      | nil => rfl
      | cons y t =>
        have hn : ¬ y = flipC (flipC c) := by
          rw [← e]
          exact h.1
        simp only [pushS, if_neg hn]
    · have e1 : pushS (x :: t) c = c :: x :: t := by simp only [pushS, if_neg e]
      rw [e1]
      simp only [pushS, if_pos (flip2 hc).symm]
def runS (s w : List Nat) : List Nat := w.foldl pushS s
theorem runS_cons (s : List Nat) (c : Nat) (w : List Nat) : runS s (c :: w) = runS (pushS s c) w := rfl
theorem runS_app (s u v : List Nat) : runS s (u ++ v) = runS (runS s u) v := List.foldl_append
theorem runS_red : ∀ {w s : List Nat}, RedS s → RedS (runS s w)
  | [], _, h => h
  | _ :: w, _, h => runS_red (w := w) (pushS_red h)
theorem runS_sg : ∀ {w s : List Nat}, Sg s → Sg w → Sg (runS s w)
  | [], _, h, _ => h
  | c :: w, _, h, hw => runS_sg (w := w) (pushS_sg h (hw c (List.mem_cons_self ..))) (fun d hd => hw d (List.mem_cons_of_mem _ hd))
def backL (w : List Nat) : List Nat := (w.map flipC).reverse
theorem backL_cons (c : Nat) (w : List Nat) : backL (c :: w) = backL w ++ [flipC c] := by
  unfold backL
  rw [List.map_cons, List.reverse_cons]
theorem backL_app (u v : List Nat) : backL (u ++ v) = backL v ++ backL u := by
  unfold backL
  rw [List.map_append, List.reverse_append]
theorem backL_sg {w : List Nat} (h : Sg w) : Sg (backL w) := fun c hc => by
  unfold backL at hc
  rw [List.mem_reverse, List.mem_map] at hc
  obtain ⟨d, hd, rfl⟩ := hc
  exact flip_sgn (h d hd)
theorem backL_back {w : List Nat} (h : Sg w) : backL (backL w) = w := by
  unfold backL
  rw [List.map_reverse, List.reverse_reverse, List.map_map]
  have e : w.map (flipC ∘ flipC) = w.map id := List.map_congr_left fun c hc => flip2 (h c hc)
  rw [e, List.map_id]
theorem run_back : ∀ {w s : List Nat}, RedS s → Sg s → Sg w → runS (runS s w) (backL w) = s
  | [], _, _, _, _ => rfl
  | c :: w, s, h, hs, hw => by
    have hc := hw c (List.mem_cons_self ..)
    rw [runS_cons, backL_cons, runS_app, run_back (w := w) (pushS_red h) (pushS_sg hs hc) (fun d hd => hw d (List.mem_cons_of_mem _ hd))]
    exact pushS_inv h hs hc
theorem pushS_of {s : List Nat} {c : Nat} (h : RedS (c :: s)) : pushS s c = c :: s := by
  cases s with
  | nil => rfl
  | cons x t => simp only [pushS, if_neg h.1]
theorem run_of_red : ∀ {w s : List Nat}, RedS (w.reverse ++ s) → runS s w = w.reverse ++ s
  | [], _, _ => rfl
  | c :: w, s, h => by
    rw [List.reverse_cons, List.append_assoc] at h ⊢
    rw [runS_cons, pushS_of (s := s) (RedS.suffix (b := c :: s) h)]
    exact run_of_red h
/-- a word reduced, as a list from its first sign -/
def shortL (w : List Nat) : List Nat := (runS [] w).reverse
theorem shortL_sg {w : List Nat} (h : Sg w) : Sg (shortL w) := fun c hc => runS_sg (s := []) (fun _ z => by cases z) h c (List.mem_reverse.mp hc)
def push (l : List Nat) (c : Nat) : List Nat := (pushS l.reverse c).reverse
theorem shortL_snoc (w : List Nat) (c : Nat) : shortL (w ++ [c]) = push (shortL w) c := by
  unfold shortL push
  rw [runS_app, List.reverse_reverse]
  rfl
theorem push_last {l : List Nat} {c : Nat} (x : Nat) : push (l ++ [x]) c = if x = flipC c then l else l ++ [x] ++ [c] := by
  unfold push
  rw [List.reverse_append]
  show (if x = flipC c then l.reverse else c :: x :: l.reverse).reverse = _
  by_cases e : x = flipC c
  · rw [if_pos e, if_pos e, List.reverse_reverse]
  · rw [if_neg e, if_neg e]
    simp
theorem push_nil (c : Nat) : push [] c = [c] := rfl
/-- two words put together where they meet -/
def glS : List Nat → List Nat → List Nat
  | x :: s, y :: b => if x = flipC y then glS s b else (y :: b).reverse ++ (x :: s)
  | [], b => b.reverse
  | x :: s, [] => x :: s
theorem RedS.join : ∀ {a : List Nat} {y : Nat} {s : List Nat}, RedS (a ++ [y]) → RedS (y :: s) → RedS (a ++ y :: s)
  | [], _, _, _, h => h
  | [x], y, s, h, k => ⟨h.1, k⟩
  | x :: z :: a, y, s, h, k => ⟨h.1, RedS.join (a := z :: a) h.2 k⟩
theorem glS_run : ∀ {b s : List Nat}, RedS b.reverse → RedS s → glS s b = runS s b
  | [], [], _, _ => rfl
  | [], _ :: _, _, _ => rfl
  | y :: b, [], h, _ => by
    have e := run_of_red (w := y :: b) (s := []) (by rw [List.append_nil]; exact h)
    rw [List.append_nil] at e
    exact e.symm
  | y :: b, x :: s, h, k => by
    rw [List.reverse_cons] at h
    by_cases e : x = flipC y
    · have e1 : pushS (x :: s) y = s := by simp only [pushS, if_pos e]
      rw [glS, if_pos e, runS_cons, e1]
      refine glS_run ?_ k.tail
      exact RedS.prefix h
    · have e1 : pushS (x :: s) y = y :: x :: s := by simp only [pushS, if_neg e]
      rw [glS, if_neg e, runS_cons, e1, List.reverse_cons, List.append_assoc]
      exact (run_of_red (RedS.join h (show RedS (y :: x :: s) from ⟨e, k⟩))).symm
where
  RedS.prefix : ∀ {a b : List Nat}, RedS (a ++ b) → RedS a
  | [], _, _ => trivial
  | [_], _, _ => trivial
  | _ :: y :: a, _, h => ⟨h.1, RedS.prefix (a := y :: a) h.2⟩
end Sf
namespace Sf
open PySem PySem.Spec PyProof.Rows L2 TL
/-! ### texts of words -/
def mkS (l : List Nat) : Str := ⟨l.toArray⟩
theorem tl_mkS (l : List Nat) : tl (mkS l) = l := rfl
theorem mkS_tl (x : Str) : mkS (tl x) = x := mk_tl x
theorem mkS_len (l : List Nat) : (mkS l).length = l.length := by rw [len_tl, tl_mkS]
theorem eq_mkS {x : Str} {l : List Nat} (h : tl x = l) : x = mkS l := ext_tl h
/-- a word undone, reduced, glued, as texts -/
def backT (x : Str) : Str := mkS (backL (tl x))
def shortT (x : Str) : Str := mkS (shortL (tl x))
def gluT (x y : Str) : Str := mkS (glS (tl x).reverse (tl y)).reverse
theorem glS_sg : ∀ {s b : List Nat}, Sg s → Sg b → Sg (glS s b)
  | x :: s, y :: b, hs, hb => by
    unfold glS
    by_cases e : x = flipC y
    · rw [if_pos e]
      exact glS_sg (fun c hc => hs c (List.mem_cons_of_mem _ hc)) (fun c hc => hb c (List.mem_cons_of_mem _ hc))
    · rw [if_neg e]
      intro c hc
      rcases List.mem_append.mp hc with hc | hc
      · exact hb c (List.mem_reverse.mp hc)
      · exact hs c hc
  | [], b, _, hb => fun c hc => hb c (List.mem_reverse.mp (by unfold glS at hc; exact hc))
  | x :: s, [], hs, _ => hs
theorem glS_len : ∀ {s b : List Nat}, (glS s b).length ≤ s.length + b.length
  | x :: s, y :: b => by
    unfold glS
    by_cases e : x = flipC y
    · rw [if_pos e]
      have := glS_len (s := s) (b := b)
      simp only [List.length_cons]
      omega
    · rw [if_neg e]
      simp only [List.length_append, List.length_reverse, List.length_cons]
      omega
  | [], b => by
    unfold glS
    simp
  | x :: s, [] => by
    unfold glS
    simp
theorem gluT_wd {x y : Str} (hx : Wd x) (hy : Wd y) : Wd (gluT x y) := fun c hc => by
  unfold gluT at hc
  rw [tl_mkS, List.mem_reverse] at hc
  exact glS_sg (fun d hd => hx d (List.mem_reverse.mp hd)) hy c hc
theorem gluT_len (x y : Str) : (gluT x y).length ≤ x.length + y.length := by
  unfold gluT
  rw [mkS_len, List.length_reverse, len_tl, len_tl]
  have := glS_len (s := (tl x).reverse) (b := tl y)
  rw [List.length_reverse] at this
  exact this
theorem backT_wd {x : Str} (h : Wd x) : Wd (backT x) := fun c hc => backL_sg h c hc
theorem backT_len (x : Str) : (backT x).length = x.length := by
  unfold backT backL
  rw [mkS_len, List.length_reverse, List.length_map, len_tl]
theorem backT_back {x : Str} (h : Wd x) : backT (backT x) = x := by
  unfold backT
  rw [tl_mkS, backL_back h, mkS_tl]
theorem runS_len : ∀ (w s : List Nat), (runS s w).length ≤ s.length + w.length
  | [], s => by simp [runS]
  | c :: w, s => by
    have h := runS_len w (pushS s c)
    rw [runS_cons]
    have h2 : (pushS s c).length ≤ s.length + 1 := by
      cases s with
      | nil => simp [pushS]
      | cons x t =>
        unfold pushS
        by_cases e : x = flipC c
        · simp only [if_pos e, List.length_cons]
          omega
        · simp only [if_neg e, List.length_cons]
          omega
    simp only [List.length_cons]
    omega
theorem shortL_len (w : List Nat) : (shortL w).length ≤ w.length := by
  unfold shortL
  rw [List.length_reverse]
  have := runS_len w []
  simpa using this
theorem glu_one {l : List Nat} {c : Nat} : (glS l.reverse [c]).reverse = push l c := by
  unfold push
  cases h : l.reverse with
  | nil => rfl
  | cons x t =>
    unfold glS pushS
    by_cases e : x = flipC c
    · simp only [if_pos e]
      cases t <;> rfl
    · simp only [if_neg e]
      rfl
end Sf
namespace Sf
open PySem PySem.Spec PyProof.Rows L2 TL
section
variable {P : Program} {w : World} {K : PySem.W.Frag} {mg : Str → Option Value} {base : Heap}
/-! ### need_word, turned, undone -/
def spNeed : Sp := fun vs H Q _ => ∃ x : Str, vs = [.str x] ∧ Wd x ∧ x.length ≤ 60 ∧ ∀ H', Same H H' → Q .non H'
abbrev HasNeed (P : Program) (w : World) (K : PySem.W.Frag) (mg : Str → Option Value) (base : Heap) : Prop := Has P w K mg base 2 "need_word" ["text"] spNeed
theorem sc_need : FnScope ["text"] ["text"] (defScope s_need_word) := ⟨rfl, rfl, rfl, by decide +kernel, rfl, by decide +kernel, by decide +kernel⟩
theorem has_need (F : FnAt K mg "need_word" s_need_word ["text"]) (hI : HasIsWord P w K mg base) : HasNeed P w K mg base := F.has fun F => by
  obtain ⟨fI, fdI, gI, kI, bI, GI⟩ := hI
  refine F.ok sc_need (fun vs H Q E h => ?_) (fun cdv A outer s H vs Q E hr h => ?_)
  · obtain ⟨x, rfl, _⟩ := h
    rfl
  · obtain ⟨x, rfl, hx, hl, q⟩ := h
    refine ⟨_, pss_one (ps_if (pt_not (pt_val (pe_call GI hr (by rfl) gI kI bI .nil pass0 (pa_cons (pv 0) pa_nil)))) pss_never pss_nil), ?_⟩
    refine ⟨_, rfl, x, rfl, by omega, fun H' s' => ⟨_, rfl, ?_⟩⟩
    rw [isW_true hx hl]
    exact iteF (q H' s')
end
end Sf
namespace Sf
open PySem PySem.Spec PyProof.Rows L2 TL
section
variable {P : Program} {w : World} {K : PySem.W.Frag} {mg : Str → Option Value} {base : Heap}
/-! ### glued, shortened, reduced -/
def spGlued : Sp := fun vs H Q _ => ∃ x y : Str, vs = [.str x, .str y] ∧ Wd x ∧ Wd y ∧ x.length + y.length ≤ 100000 ∧ Q (.str (gluT x y)) H
abbrev HasGlued (P : Program) (w : World) (K : PySem.W.Frag) (mg : Str → Option Value) (base : Heap) : Prop := Has P w K mg base 1 "glued" ["one", "other"] spGlued
theorem sc_glued : FnScope ["one", "other", "most", "gone"] ["one", "other"] (defScope s_glued) := ⟨rfl, rfl, rfl, by decide +kernel, rfl, by decide +kernel, by decide +kernel⟩
theorem at_neg {l : List Nat} {g : Nat} (h : g < l.length) : atI l (-1 - (g : Int)) = some (l.reverse[g]'(by rw [List.length_reverse]; exact h)) := by
  unfold atI ixN
  rw [if_neg (by omega), if_pos (by omega)]
  have e : ((-1 - (g : Int)) + (l.length : Nat)).toNat = l.length - 1 - g := by omega
  rw [e, Option.bind_some, List.getElem_reverse, List.getElem?_eq_getElem]
theorem glu_step {a b : List Nat} {g : Nat} (h1 : g < a.length) (h2 : g < b.length) (e : a[g] = flipC b[g]) : glS (a.drop g) (b.drop g) = glS (a.drop (g + 1)) (b.drop (g + 1)) := by
  rw [List.drop_eq_getElem_cons h1, List.drop_eq_getElem_cons h2, glS, if_pos e]
theorem glu_stop {a b : List Nat} {g : Nat} (h : g = min a.length b.length ∨ ∃ (h1 : g < a.length) (h2 : g < b.length), a[g] ≠ flipC b[g]) : glS (a.drop g) (b.drop g) = (b.drop g).reverse ++ a.drop g := by
  rcases h with h | ⟨h1, h2, e⟩
  · rcases Nat.le_total a.length b.length with hl | hl
    · rw [List.drop_eq_nil_of_le (as := a) (by omega), glS, List.append_nil]
    · rw [List.drop_eq_nil_of_le (as := b) (by omega)]
      cases a.drop g <;> rfl
  · rw [List.drop_eq_getElem_cons h1, List.drop_eq_getElem_cons h2, glS, if_neg e]
theorem cut_to {x : Str} {n : Int} (h0 : 0 ≤ n) (h1 : n ≤ x.length) : tl (cutS x none (some n)) = (tl x).take n.toNat := by
  rw [tl_cut]
  obtain ⟨m, rfl⟩ : ∃ m : Nat, n = (m : Int) := ⟨n.toNat, by omega⟩
  rw [HT.sIx_none, HT.sIx_nat, List.drop_zero, Int.toNat_natCast, Nat.sub_zero, Nat.min_eq_left (by omega)]
theorem cut_from {x : Str} {n : Int} (h0 : 0 ≤ n) (h1 : n ≤ x.length) : tl (cutS x (some n) none) = (tl x).drop n.toNat := by
  rw [tl_cut]
  obtain ⟨m, rfl⟩ : ∃ m : Nat, n = (m : Int) := ⟨n.toNat, by omega⟩
  rw [HT.sIx_none, HT.sIx_nat, Int.toNat_natCast, Nat.min_eq_left (by omega)]
  refine List.take_of_length_le ?_
  rw [List.length_drop, ← len_tl]
  exact Nat.le_refl _
theorem has_glued (F : FnAt K mg "glued" s_glued ["one", "other"]) (B : Blt mg) (mmin : mg "min" = none) : HasGlued P w K mg base := F.has fun F => by
  refine F.ok sc_glued (fun vs H Q E h => ?_) (fun cdv A outer s H vs Q E hr h => ?_)
  · obtain ⟨x, y, rfl, _⟩ := h
    rfl
  · obtain ⟨x, y, rfl, hx, hy, hl, q⟩ := h
    have zx := len_tl x
    have zy := len_tl y
    refine ⟨_, pss_cons (ps_set (i := 2) sc_glued.nd rfl (.inl rfl) (pe_callB (call_min2 rfl) (by rfl) mmin (by decide +kernel) (pa_cons (pe_callB call_len_str (by rfl) B.len PySem.boot_len (pa_cons (pv 0) pa_nil)) (pa_cons (pe_callB call_len_str (by rfl) B.len PySem.boot_len (pa_cons (pv 1) pa_nil)) pa_nil))))
      (pss_cons (ps_set (i := 3) sc_glued.nd rfl (.inl rfl) pe_int)
      (pss_cons (ps_while PassesOwn.never (PW.pt (pw_and (pt_cmpR op_lt (pv 3) (pv 2) (nomark _)) (pw_and1 (pt_cmpR op_eq (pe_ix ix_str (pv 0) (pe_op op_sub (pe_un un_neg pe_int) (pv 3)) (fun _ _ => rfl)) (pe_swapcase (pe_ix ix_str (pv 1) (pv 3) (fun _ _ => rfl))) (nomark _)))))
        (pss_one (ps_aug (i := 3) sc_glued.nd rfl (.inl rfl) pe_int ip_add)))
      (pss_one (ps_ret (pe_op op_add_str (pe_slice sl_str (pv 0) po_none (po_some (pe_op op_sub (pe_callB call_len_str (by rfl) B.len PySem.boot_len (pa_cons (pv 0) pa_nil)) (pv 3)))) (pe_slice sl_str (pv 1) (po_some (pv 3)) po_none)))))), ?_⟩
    refine ⟨_, rfl, x, rfl, line_of (by omega), _, rfl, y, rfl, line_of (by omega), _, _, rfl, ?_⟩
    have em : (if (y.length : Int) < (x.length : Int) then (y.length : Int) else (x.length : Int)) = ((min (tl x).reverse.length (tl y).length : Nat) : Int) := by
      rw [List.length_reverse, ← zx, ← zy]
      split <;> omega
    rw [em]
    refine ⟨fun m σ H1 => ∃ g : Nat, σ = [some (.str x), some (.str y), some (.int ((min (tl x).reverse.length (tl y).length : Nat) : Int)), some (.int (g : Int))] ∧ H1 = H ∧ g ≤ min (tl x).reverse.length (tl y).length ∧ glS (tl x).reverse (tl y) = glS ((tl x).reverse.drop g) ((tl y).drop g) ∧ m = min (tl x).reverse.length (tl y).length - g, ⟨_, 0, rfl, rfl, Nat.zero_le _, rfl, rfl⟩, ?_⟩
    · rintro m σ H1 ⟨g, rfl, rfl, hg, eg, rfl⟩
      have fin : (g = min (tl x).reverse.length (tl y).length ∨ ∃ (h1 : g < (tl x).reverse.length) (h2 : g < (tl y).length), (tl x).reverse[g] ≠ flipC (tl y)[g]) → Q (.str (cutS x none (some ((x.length : Int) - (g : Int))) ++ cutS y (some (g : Int)) none)) H1 := by
        intro hstop
        have e : cutS x none (some ((x.length : Int) - (g : Int))) ++ cutS y (some (g : Int)) none = gluT x y := by
          refine eq_mkS ?_
          rw [List.length_reverse, ← zx, ← zy] at hg
          rw [eg, glu_stop hstop, tl_append, cut_to (by omega) (by omega), cut_from (by omega) (by omega), List.reverse_append, List.reverse_reverse, List.reverse_drop, List.reverse_reverse, List.length_reverse, ← zx]
          have e1 : ((x.length : Int) - (g : Int)).toNat = x.length - g := by omega
          rw [e1, Int.toNat_natCast]
        rw [e]
        exact q
      have tail : (g = min (tl x).reverse.length (tl y).length ∨ ∃ (h1 : g < (tl x).reverse.length) (h2 : g < (tl y).length), (tl x).reverse[g] ≠ flipC (tl y)[g]) → ∃ v : V, some (some (V.str x)) = some (some v) ∧ ∃ v2 : V, some (some (V.str x)) = some (some v2) ∧ ∃ z : Str, [v2] = [V.str z] ∧ z.length ≤ sizeLine ∧ ∃ v3 : V, some (some (V.int (g : Int))) = some (some v3) ∧
          ∃ i j : Int, V.int z.length = .int i ∧ v3 = .int j ∧ ∃ k : Int, V.int (i - j) = .int k ∧ ∃ z2 : Str, v = .str z2 ∧ z2.length ≤ sizeLine ∧ ∃ v4 : V, some (some (V.str y)) = some (some v4) ∧ ∃ v5 : V, some (some (V.int (g : Int))) = some (some v5) ∧ ∃ i2 : Int, v5 = .int i2 ∧ ∃ z3 : Str, v4 = .str z3 ∧ z3.length ≤ sizeLine ∧
            ∃ i3 j3 : Str, V.str (cutS z2 none (some k)) = .str i3 ∧ V.str (cutS z3 (some i2) none) = .str j3 ∧ i3.length + j3.length ≤ sizeLine ∧ Q (.str (i3 ++ j3)) H1 := fun hstop =>
        ⟨_, rfl, _, rfl, x, rfl, line_of (by omega), _, rfl, _, _, rfl, rfl, _, rfl, x, rfl, line_of (by omega), _, rfl, _, rfl, _, rfl, y, rfl, line_of (by omega), _, _, rfl, rfl, line_of (Nat.le_trans (Nat.add_le_add (cutS_length x _ _) (cutS_length y _ _)) hl), fin hstop⟩
      refine ⟨_, rfl, _, rfl, (g : Int), _, rfl, rfl, _, rfl, ite2 (fun e => ?_) (fun e => ?_)⟩
      · have hlt : g < min (tl x).reverse.length (tl y).length := by
          have := of_decide_eq_true e
          omega
        have h1 : g < (tl x).reverse.length := by omega
        have h2 : g < (tl y).length := by omega
        have h1' : g < (tl x).length := by
          rw [List.length_reverse] at h1
          exact h1
        have ay : atI (tl y) (g : Int) = some (tl y)[g] := atI_nat (List.getElem?_eq_getElem h2)
        have sy := hy _ (List.getElem_mem h2)
        refine ⟨_, rfl, 1, rfl, _, rfl, -1, (g : Int), rfl, rfl, x, _, _, rfl, rfl, line_of (by omega), at_neg h1', _, rfl, _, rfl, y, _, _, rfl, rfl, line_of (by omega), ay, ⟨_, rfl⟩, _, rfl, rfl, by rw [len_one]; decide, ?_⟩
        rw [swap_wd (wd_one sy), flipS_one]
        refine ⟨rfl, _, rfl, ite2 (fun e2 => ?_) (fun e2 => ?_)⟩
        · have e3 : (tl x).reverse[g] = flipC (tl y)[g] := by
            have := of_decide_eq_true e2
            have h5 := V.str.inj this
            have h6 := congrArg tl h5
            exact List.head_eq_of_cons_eq h6
          refine ⟨fun σ' H' => σ' = [some (.str x), some (.str y), some (.int ((min (tl x).reverse.length (tl y).length : Nat) : Int)), some (.int ((g : Int) + 1))] ∧ H' = H1, fun σ' H' hN => ?_, ?_⟩
          · obtain ⟨rfl, rfl⟩ := hN
            exact ⟨min (tl x).reverse.length (tl y).length - (g + 1), by omega, g + 1, rfl, rfl, by omega, by rw [eg, glu_step h1 h2 e3], rfl⟩
          · exact ⟨_, rfl, _, _, rfl, rfl, rfl, rfl⟩
        · exact tail (.inr ⟨h1, h2, fun z => e2 (decide_eq_true (by rw [z]))⟩)
      · have hge : g = min (tl x).reverse.length (tl y).length := by
          have : ¬ ((g : Int) < ((min (tl x).reverse.length (tl y).length : Nat) : Int)) := fun z => e (decide_eq_true z)
          omega
        exact iteF (tail (.inl hge))
end
end Sf
namespace Sf
open PySem PySem.Spec PyProof.Rows L2 TL
section
variable {P : Program} {w : World} {K : PySem.W.Frag} {mg : Str → Option Value} {base : Heap}
def spTurned : Sp := fun vs H Q _ => ∃ x : Str, vs = [.str x] ∧ Wd x ∧ x.length ≤ 100000 ∧ Q (.str (backT x)) H
abbrev HasTurned (P : Program) (w : World) (K : PySem.W.Frag) (mg : Str → Option Value) (base : Heap) : Prop := Has P w K mg base 1 "turned" ["word"] spTurned
theorem sc_turned : FnScope ["word"] ["word"] (defScope s_turned) := ⟨rfl, rfl, rfl, by decide +kernel, rfl, by decide +kernel, by decide +kernel⟩
theorem has_turned (F : FnAt K mg "turned" s_turned ["word"]) : HasTurned P w K mg base := F.has fun F => by
  refine F.ok sc_turned (fun vs H Q E h => ?_) (fun cdv A outer s H vs Q E hr h => ?_)
  · obtain ⟨x, rfl, _⟩ := h
    rfl
  · obtain ⟨x, rfl, hx, hl, q⟩ := h
    refine ⟨_, pss_one (ps_ret (pe_swapcase (pe_revS (pv 0)))), ?_⟩
    refine ⟨_, rfl, x, rfl, line_of hl, ⟨_, rfl⟩, _, rfl, rfl, by rw [revS_len]; omega, ?_⟩
    have e : Txt.swapcase (revS x) = backT x := by
      rw [swap_wd (rev_wd hx)]
      refine eq_mkS ?_
      rw [tl_flipS, tl_revS, List.map_reverse]
      rfl
    rw [e]
    exact q
end
end Sf
namespace Sf
open PySem PySem.Spec PyProof.Rows L2 TL
/-! ### {**a, **b} -/
section
variable {prog : Program} {w : World} {A : Around} {E : Value → Shared → Prop} {s : Shared}
theorem put_pairs {d : Addr} {kvs : List (Key × Value)} {k : Key} {key v : Value} {Q : Unit → Shared → Prop} (hkey : (mixKind prog w).is k key = true) (hm : s.heap.DictOf (mixKind prog w) d kvs)
    (hQ : ∀ h', h'.DictOf (mixKind prog w) d (stored kvs k v) → Heap.SameBut d s.heap h' → Q () { s with heap := h' })
    (hsz : kvs.length ≤ sizeLine) : wpAny (model prog w) A (dictPut d ((mixKind prog w).hash k) key v) Q E s := by
  obtain ⟨o, es, ep, ho, hc, hd, hk, hp, hn⟩ := hm
  have hes : es.size ≤ sizeLine := by
    have e1 := hp.length
    have e2 : es.toList.length = es.size := by simp
    omega
  unfold dictPut
  refine wpAny_bind (wpAny_dictFind_of hkey ho hd hk ?_)
  have hidx : (es.findIdx? fun e => (mixKind prog w).is k e.key) = kvs.findIdx? fun kv => decide (kv.1 = k) := by
    rw [← hp.findIdx k]
    obtain ⟨l⟩ := es
    simp
  cases hi : es.findIdx? fun e => (mixKind prog w).is k e.key with
  | some i =>
    refine wpAny_updateDict ho hd (hQ _ ⟨_, _, ep, Heap.get?_update_self _ ho (Obj.isFreed_of_dict (Obj.data_mapDict hd _)), hc.mapDict _, Obj.data_mapDict hd _, hk.modify _ _, ?_, ?_⟩ (Heap.SameBut.update ..))
    · rw [stored, if_pos (any_of_findIdx_some (hidx ▸ hi))]
      have hl : (es.toList.findIdx? fun e => (mixKind prog w).is k e.key) = some i := by
        rw [← hi]
        obtain ⟨l⟩ := es
        simp
      have := hp.modify hn hl v
      obtain ⟨l⟩ := es
      simpa using this
    · rw [stored, if_pos (any_of_findIdx_some (hidx ▸ hi)), keys_map_store]
      exact hn
  | none =>
    have hnot : k ∉ kvs.map (·.1) := not_mem_of_findIdx_none (hidx ▸ hi)
    have hany : ¬ (kvs.any fun kv => decide (kv.1 = k)) = true := by
      rw [List.any_eq_true]
      rintro ⟨kv, hkv, he⟩
      exact hnot (List.mem_map.mpr ⟨kv, hkv, of_decide_eq_true he⟩)
    refine wpAny_updateDictKeys (hz := hes) ho hd (hQ _ ⟨_, _, ep + 1, Heap.get?_update_self _ ho (Obj.isFreed_of_dict (Obj.data_mapDictKeys hd _)), hc.mapDictKeys _, Obj.data_mapDictKeys hd _, hk.push hkey _, ?_, ?_⟩ (Heap.SameBut.update ..))
    · rw [stored, if_neg hany]
      have := hp.append hkey ((mixKind prog w).hash k) v
      obtain ⟨l⟩ := es
      simpa using this
    · rw [stored, if_neg hany, List.map_append, List.nodup_append]
      refine ⟨hn, by simp, ?_⟩
      intro a ha b hb
      simp only [List.map_cons, List.map_nil, List.mem_singleton] at hb
      subst hb
      exact fun e => hnot (e ▸ ha)
theorem merge_pairs {d o : Addr} {kvs more : List (Key × Value)} {Q : Unit → Shared → Prop} (hdo : d ≠ o) (hoS : (o == sysModules) = false) (hd : s.heap.DictOf (mixKind prog w) d kvs) (ho : s.heap.DictOf (mixKind prog w) o more)
    (hQ : ∀ h', h'.DictOf (mixKind prog w) d (merged kvs more) → Heap.SameBut d s.heap h' → Q () { s with heap := h' }) (hsz : kvs.length + more.length ≤ sizeLine) :
    wpAny (model prog w) A (mergeMapping d (.ref o) false) Q E s := by
  obtain ⟨od, esd, epd, hod, hcd, hdd, hkd, hpd, hnd⟩ := id hd
  obtain ⟨oo, eso, epo, hoo, hco, hdo', hko, hpo, hno⟩ := id ho
  have hlen : more.length = eso.size := by rw [← hpo.length]; simp
  unfold mergeMapping
  refine wpAny_bind (wpAny_isInstance ho.typeIs isSubtype_dict_dict ?_)
  simp only [if_true]
  refine wpAny_bind (wpAny_specialOf ho.typeIs PySem.F.slot_dict_iter.lookup ?_)
  refine wpAny_bind (wpAny_pure ?_)
  simp only [beq_self_eq_true]
  rw [if_neg (by rw [hoS]; exact Bool.false_ne_true)]
  refine wpAny_bind (wpAny_dictEntries hod hdd ?_)
  have loop : wpAny (model prog w) A (do
      let l ← dictEntries o
      let epoch ← dictEpoch o
      forIn (List.range l.size) PUnit.unit fun i (_ : PUnit) => (do
          let l' ← dictEntries o
          match l'[i]? with
            | some e => do
              holding [e.key, e.val] (dictPut d e.hash e.key e.val)
              let ep' ← dictEpoch o
              if (ep' != epoch) = true then do
                  (unsupported "dict.changed-during-merge" : Sem PUnit)
                  pure (ForInStep.yield PUnit.unit)
                else pure (ForInStep.yield PUnit.unit)
            | _ => do
              (unsupported "dict.changed-during-merge" : Sem PUnit)
              pure (ForInStep.yield PUnit.unit) : Sem (ForInStep PUnit))
      pure ()) Q E s := by
    refine wpAny_bind (wpAny_dictEntries hoo hdo' ?_)
    refine wpAny_bind (wpAny_dictEpoch hoo hdo' ?_)
    refine wpAny_bind ?_
    rw [List.range_eq_range']
    refine wpAny_forIn_list _
      (fun rest _ s' => ∃ h' i, s' = { s with heap := h' } ∧ rest = List.range' i (eso.size - i) ∧ i ≤ eso.size ∧ h'.DictOf (mixKind prog w) d (merged kvs (more.take i)) ∧ h'.get? o = some oo ∧ Heap.SameBut d s.heap h')
      _ ?_ ?_ _ _ ⟨s.heap, 0, rfl, by simp, Nat.zero_le _, by simpa [merged] using hd, hoo, Heap.SameBut.refl _ _⟩
    · rintro x rest b s' ⟨h', i, rfl, hr, hi, hd', hoo', hs'⟩
      have hlt : i < eso.size := by
        rcases Nat.lt_or_ge i eso.size with h | h
        · exact h
        · rw [Nat.sub_eq_zero_of_le h] at hr
          simp at hr
      obtain ⟨rfl, hrest⟩ : x = i ∧ rest = List.range' (i + 1) (eso.size - (i + 1)) := by
        have e : eso.size - i = (eso.size - (i + 1)) + 1 := by omega
        rw [e, List.range'_succ] at hr
        injection hr with h1 h2
        exact ⟨h1, h2⟩
      refine wpAny_bind (wpAny_dictEntries hoo' hdo' ?_)
      rw [Array.getElem?_eq_getElem hlt]
      obtain ⟨kv, hkv⟩ : ∃ kv, more[x]? = some kv := ⟨more[x]'(by rw [hlen]; exact hlt), List.getElem?_eq_getElem _⟩
      obtain ⟨k, v⟩ := kv
      obtain ⟨hkey, hval⟩ := hpo.get? (e := eso[x]) (by simp [hlt]) hkv
      obtain ⟨k', hkey', hhash⟩ := hko eso[x] (Array.getElem_mem hlt)
      obtain rfl : k' = k := (mixKind prog w).inj _ _ _ hkey' hkey
      show wpAny _ _ (holding [eso[x].key, eso[x].val] (dictPut d eso[x].hash eso[x].key eso[x].val) >>= _) _ _ _
      rw [hhash, hval]
      have hmx : (merged kvs (more.take x)).length ≤ sizeLine := by
        have e1 := merged_length_le kvs (more.take x)
        have e2 : (more.take x).length ≤ more.length := by rw [List.length_take]; omega
        omega
      refine wpAny_bind (wpAny_holding (put_pairs (hsz := hmx) hkey hd' fun h'' hd'' hs'' => ?_))
      have hoo'' : h''.get? o = some oo := (hs''.2 o (Ne.symm hdo)).trans hoo'
      refine wpAny_bind (wpAny_dictEpoch hoo'' hdo' ?_)
      rw [if_neg (by simp)]
      exact wpAny_pure ⟨h'', x + 1, rfl, hrest, hlt, by rw [merged_take_succ kvs more x (k', v) hkv]; exact hd'', hoo'', hs'.trans hs''⟩
    · rintro b s' ⟨h', i, rfl, hr, hi, hd', hoo', hs'⟩
      have hin : i = eso.size := by
        rcases Nat.lt_or_ge i eso.size with h | h
        · have e : eso.size - i = (eso.size - (i + 1)) + 1 := by omega
          rw [e, List.range'_succ] at hr
          exact nomatch hr
        · exact Nat.le_antisymm hi h
      refine wpAny_pure (hQ h' ?_ hs')
      rw [hin, ← hlen, List.take_length] at hd'
      exact hd'
  split
  · refine wpAny_bind (wpAny_dictEntries hoo hdo' ?_)
    refine wpAny_bind (MeetsSeq2.wpAny_forIn_array _ (fun rest _ s' => s' = s ∧ ∀ e ∈ rest, e ∈ eso.toList) _ (fun e rest b s' hI => ?_) (fun b s' hI => ?_) _ _ ⟨rfl, fun e he => he⟩)
    · obtain ⟨rfl, hmem⟩ := hI
      obtain ⟨k', hkey', hhash⟩ := hko e (Array.mem_toList_iff.mp (hmem e (List.mem_cons_self ..)))
      have hrest : ∀ e' ∈ rest, e' ∈ eso.toList := fun e' he' => hmem e' (List.mem_cons_of_mem _ he')
      rcases keyIs_shape (show keyIs k' e.key = true from hkey') with ⟨i, t, _, ek⟩ | ⟨x, t, _, ek⟩
      · rw [ek]
        exact wpAny_pure ⟨rfl, hrest⟩
      · rw [ek]
        exact wpAny_pure ⟨rfl, hrest⟩
    · obtain ⟨rfl, _⟩ := hI
      exact loop
  · exact loop
end
section
variable {X : Cx}
theorem stored_put {kvs : List (Key × V)} {vs : List (Key × Value)} (r : KV kvs vs) : ∀ {more : List (Key × V)} {ws : List (Key × Value)}, KV more ws → KV (more.foldl (fun a p => putK a p.1 p.2) kvs) (merged vs ws) := by
  intro more ws h
  induction h generalizing kvs vs with
  | nil => exact r
  | cons p q ih =>
    rename_i a b l m
    obtain ⟨e, rv⟩ := p
    show KV (List.foldl _ (putK kvs a.1 a.2) l) (merged (stored vs b.1 b.2) m)
    rw [← e]
    exact ih (r.put a.1 rv)
def mergeV (a b : List (Key × V)) : List (Key × V) := b.foldl (fun a p => putK a p.1 p.2) a
theorem mergeV_len (a b : List (Key × V)) : (mergeV a b).length ≤ a.length + b.length := by
  unfold mergeV
  induction b generalizing a with
  | nil => simp
  | cons p b ih =>
    rw [List.foldl_cons]
    have h1 := ih (putK a p.1 p.2)
    have h2 := length_putK a p.1 p.2
    simp only [List.length_cons]
    omega
theorem merge_run {A : Around} {E : Value → Shared → Prop} {pins : List (Addr × Obj)} {σ : L2.St} {H : Hp} {s : Shared} {d o : Addr} {kvs more : List (Key × V)} {Q : Unit → Shared → Prop} (I : Inv X pins σ H s) (hdo : d ≠ o) (hd : H d = some (.dK kvs)) (ho : H o = some (.dK more)) (hsz : kvs.length + more.length ≤ sizeLine)
    (h : ∀ s', Inv X pins σ (upd H d (.dK (mergeV kvs more))) s' → Q () s') : wpAny (model X.prog X.w) A (mergeMapping d (.ref o) false) Q E s := by
  obtain ⟨z1, hs1, vs, rel, dd⟩ := dk_of I.hok hd
  obtain ⟨z2, hs2, ws, rel2, dd2⟩ := dk_of I.hok ho
  refine merge_pairs hdo hs2 dd dd2 (fun h' dd' hs => h _ ?_) (by rw [← rel.length, ← rel2.length]; exact hsz)
  have he : ∃ q, h'.get? d = some q := let ⟨q, _, _, hq, _⟩ := dd'; ⟨q, hq⟩
  exact d_write I (by rw [hd]; exact True.intro) hs he (dk_new (Nat.le_trans (mergeV_len _ _) hsz) hs1 (stored_put rel rel2) dd')
/-- {**a, **b}: a new dict first, then a into it, then b -/
def tMerge2 (ta tb : TE) : TE := fun σ H Q => ∀ p, H p = none → ta σ (upd H p (.dK [])) fun x H1 => ∃ (a : Addr) (ka : List (Key × V)), x = .ref a ∧ a ≠ p ∧ H1 a = some (.dK ka) ∧ H1 p = some (.dK []) ∧ ka.length ≤ sizeLine ∧
  tb σ (upd H1 p (.dK (mergeV [] ka))) fun y H2 => ∃ (b : Addr) (kb : List (Key × V)), y = .ref b ∧ b ≠ p ∧ H2 b = some (.dK kb) ∧ H2 p = some (.dK (mergeV [] ka)) ∧ (mergeV [] ka).length + kb.length ≤ sizeLine ∧ Q (.ref p) (upd H2 p (.dK (mergeV (mergeV [] ka) kb)))
theorem pe_merge2 {e1 e2 : Expr} {ta tb : TE} {pos : Pos} (h1 : PE X e1 ta) (h2 : PE X e2 tb) : PE X (.Dict [none, none] [e1, e2] pos) (tMerge2 ta tb) := by
  refine ⟨fun pins s σ H Q I q => ?_⟩
  show wpAny _ _ (do
    standAt pos
    dictDisplay [(none, do let x ← eval e1 X.env; standAt pos; pure x), (none, do let x ← eval e2 X.env; standAt pos; pure x)]) _ _ _
  refine wpAny_bind (wpAny_standAt ?_)
  have hn := I.hok.fresh (Nat.le_refl s.heap.objs.size)
  have I1 := I.laid (a := s.heap.objs.size) (o := .dK []) (h' := s.heap.push { cls := .type "dict", data := .dict #[] }) (t' := s.toks) (fun _ _ q => Heap.get?_push_of_some _ q) (Nat.le_refl _) (dk_empty s.heap I.big)
  have q := q _ hn
  unfold dictDisplay
  simp only [List.forIn_cons, List.forIn_nil, List.isEmpty_nil, if_true]
  refine wpAny_bind ?_
  refine wpAny_bind ?_
  refine wpAny_bind (wpAny_pure ?_)
  dsimp only
  refine wpAny_bind (wpAny_alloc ?_)
  refine wpAny_bind (wpAny_holding (wpAny_bind (thn (h1.run pins _ σ _ _ I1 q) fun v s2 ⟨x, H2, I2, rx, a, ka, ex, hap, ha, hp, hz, q2⟩ => wpAny_bind (wpAny_standAt (wpAny_pure ?_)))))
  subst ex
  cases rx
  refine wpAny_bind (wpAny_onRaise (wpAny_tryCatch (wpAny_onRaise (wpAny_holding (merge_run I2 hap.symm hp ha (by rw [List.length_nil, Nat.zero_add]; exact hz) fun s3 I3 => ?_)))))
  refine wpAny_pure ?_
  dsimp only
  refine wpAny_bind ?_
  simp only [List.isEmpty_nil, if_true]
  refine wpAny_bind (wpAny_pure ?_)
  dsimp only
  refine wpAny_bind (wpAny_pure ?_)
  refine wpAny_bind (wpAny_holding (wpAny_bind (thn (h2.run pins _ σ _ _ I3 q2) fun v s4 ⟨y, H4, I4, ry, b, kb, ey, hbp, hb, hp4, hz4, q4⟩ => wpAny_bind (wpAny_standAt (wpAny_pure ?_)))))
  subst ey
  cases ry
  refine wpAny_bind (wpAny_onRaise (wpAny_tryCatch (wpAny_onRaise (wpAny_holding (merge_run I4 hbp.symm hp4 hb hz4 fun s5 I5 => ?_)))))
  refine wpAny_pure ?_
  dsimp only
  refine wpAny_pure ?_
  simp only [List.isEmpty_nil, if_true]
  refine wpAny_bind (wpAny_pure ?_)
  exact wpAny_pure ⟨.ref _, _, I5, rfl, q4⟩
end
end Sf
namespace Sf
open PySem PySem.Spec PyProof.Rows L2 TL
/-! ### ==, != and len of an own class -/
section
variable {X : Cx} {k : Nat} {f C : Addr} {fd : FuncData} {ps : List Str} {sp : Sp}
theorem run_fnA {A : Around} {Er : Value → Shared → Prop} {pins : List (Addr × Obj)} {σ : L2.St} {H : Hp} {s : Shared} {Q : VK} {us : List Value} {vs : List V} (F : FnOk X.prog X.w X.K X.mg X.base CX0 k f fd ps sp) (hr : Room k A) (e0 : Env0 X.prog X.w X.K X.mg X.base A X.stack s H) (hb : Binds X.K fd ps [])
    (I : Inv X pins σ H s) (r : Vals vs us) (h : sp vs H Q E0) : wpAny (model X.prog X.w) A (call (.ref f) us) (EP X pins σ Q) Er s := by
  have hl : (us ++ []).length = ps.length := by rw [List.append_nil, ← r.length]; exact F.len _ _ _ _ h
  have hbd := hb s us I.kIn hl
  rw [List.append_nil] at hbd
  refine wpAny_call (codeAny_mono (F.run A X.stack s H ⟨us, []⟩ us vs Q E0 hr e0 hbd r h) fun r s' hq => ?_)
  cases r with
  | error e => exact False.elim hq
  | ok fl =>
    cases fl with
    | ret u => exact I.after hq
    | next => exact False.elim hq
    | brk => exact False.elim hq
    | cont => exact False.elim hq
/-- a == b, both of the class at C, by its __eq__ -/
theorem op_eqOwn (F : FnOk X.prog X.w X.K X.mg X.base CX0 k f fd ps sp) (hs : PySem.W.findIn X.K (.ref C) "__eq__" = some (some (.ref f))) (hf : PySem.W.isFn X.K (.ref f) = true) (hb : Binds X.K fd ps []) (hr : Room k X.A) :
    OpR X (compareOp .Eq) (fun x y H Q => ∃ a b dx dy fs gs, x = .ref a ∧ y = .ref b ∧ H a = some (.ins C dx fs) ∧ H b = some (.ins C dy gs) ∧ sp [.ref a, .ref b] H (fun v H' => ∃ t, v = .bl t ∧ Q (.bl t) H') E0) := by
  intro pins s σ H x y v u Q I rx ry h
  obtain ⟨a, b, dx, dy, fs, gs, rfl, rfl, ha, hb', h⟩ := h
  cases rx
  cases ry
  obtain ⟨mA, J, _⟩ := ins_get I.hok ha
  obtain ⟨mB, J', _⟩ := ins_get I.hok hb'
  obtain ⟨od, J, _⟩ := J.look
  obtain ⟨od', J', _⟩ := J'.look
  obtain ⟨m, hF⟩ := I.fr
  refine PySem.W.cmp_K (op := .Eq) (tb := .ref C) hr.units0 hF I.ok.mod.kin J J'.type (by simp [PySem.W.notFirst]) hs hf ?_
  refine wpAny_mono (run_fnA (Er := X.xe) F hr I.env0 hb I (show Vals [V.ref a, V.ref b] [Value.ref a, Value.ref b] from .cons rfl (.cons rfl .nil)) h) (fun v s' hv => ?_) fun _ _ z => z
  obtain ⟨z, H', I', rz, t, rfl, q⟩ := hv
  cases rz
  exact ⟨.bl t, H', I', rfl, q⟩
theorem ifBound_ne {M : Model} {A : Around} {E : Value → Shared → Prop} {s : Shared} {K : PySem.W.Frag} {x : Addr} {ox : Obj} {od : Option Obj} {args : List Value} {Q : Option Value → Shared → Prop} (X : K.In s.heap) (I : PySem.W.InstAt s.heap x ox C od) (hs : PySem.W.findIn K (.ref C) "__ne__" = some (some (.builtin "object.__ne__")))
    (h : wpAny M A (call (.builtin "object.__ne__") (.ref x :: args)) (fun v => Q (some v)) E s) : wpAny M A (callSpecialIfBound? (.ref x) "__ne__" args) Q E s := by
  simp only [callSpecialIfBound?, bindSpecialIfBound?]
  refine wpAny_holding (wpAny_bind (wpAny_bind (wpAny_bind (I.type.here ((PySem.W.looks_findIn X hs).here ?_)))))
  refine wpAny_bind (wpAny_askSetting (wpAny_ite ?_))
  have fin : wpAny M A (call (.builtin "object.__ne__") ([.ref x] ++ args) >>= fun v => pure (some v)) Q E s := wpAny_bind (wpAny_mono h (fun v s' h' => wpAny_pure h') fun _ _ h' => h')
  split
  · exact wpAny_bind (wpAny_of_eq (PySem.F.cmp_object.ne.bind _) (wpAny_pure (by exact fin)))
  · exact wpAny_tryCatch (wpAny_bind (wpAny_of_eq (PySem.F.cmp_object.ne.bind _) (wpAny_pure (by exact fin))))
/-- a != b, both of the class at C, by its __eq__ -/
theorem op_neOwn (F : FnOk X.prog X.w X.K X.mg X.base CX0 k f fd ps sp) (hs : PySem.W.findIn X.K (.ref C) "__eq__" = some (some (.ref f))) (hf : PySem.W.isFn X.K (.ref f) = true) (hb : Binds X.K fd ps []) (hn : PySem.W.findIn X.K (.ref C) "__ne__" = some (some (.builtin "object.__ne__")))
    (hm : PySem.W.mroIn X.K C (.type "object") = some true) (hr : Room (k + 1) X.A) :
    OpR X (compareOp .NotEq) (fun x y H Q => ∃ a b dx dy fs gs, x = .ref a ∧ y = .ref b ∧ H a = some (.ins C dx fs) ∧ H b = some (.ins C dy gs) ∧ sp [.ref a, .ref b] H (fun v H' => ∃ t, v = .bl t ∧ Q (.bl (!t)) H') E0) := by
  intro pins s σ H x y v u Q I rx ry h
  obtain ⟨a, b, dx, dy, fs, gs, rfl, rfl, ha, hb', h⟩ := h
  cases rx
  cases ry
  obtain ⟨mA, J, _⟩ := ins_get I.hok ha
  obtain ⟨mB, J', _⟩ := ins_get I.hok hb'
  obtain ⟨od, J, _⟩ := J.look
  obtain ⟨od', J', _⟩ := J'.look
  have hu1 : X.A.in1.units < cLine := hr.in1.units0
  have one : wpAny (model X.prog X.w) X.A (tryCompare (.ref a) (cmpInfo .NotEq).2.1 (.ref b)) (fun r s' => ∃ v, r = some v ∧ EP X pins σ Q v s') X.xe s := by
    unfold tryCompare
    refine wpAny_bind (ifBound_ne I.kIn J hn ?_)
    refine wpAny_call (codeAny_call_builtin PySem.F.cmp_object.ne.plain PySem.F.cmpEntry_ne (PySem.W.check_slot PySem.F.cmpKind_ne PySem.F.cmpSplit_ne (J.type.andThen (PySem.W.looks_mroIn I.kIn hm)) (PySem.F.cmpArgs_ne _ _) ?_))
    unfold Builtin.«object.__ne__»
    refine wpAny_bind (wpAny_of_eq (a := (.ref a, [.ref b])) rfl ?_)
    dsimp only
    refine wpAny_bind (wpAny_cRoomFor hu1 ?_)
    refine wpAny_bind (PySem.W.ifBound_K I.kIn J hs hf ?_)
    refine wpAny_mono (run_fnA F hr.in1 I.env0.in1 hb I (show Vals [V.ref a, V.ref b] [Value.ref a, Value.ref b] from .cons rfl (.cons rfl .nil)) h) (fun v s' hv => ?_) fun _ _ z => z
    obtain ⟨z, H', I', rz, t, rfl, q⟩ := hv
    cases rz
    refine wpAny_bind (wpAny_truthy_bool ?_)
    exact wpAny_pure (wpAny_pure ⟨_, rfl, .bl (!t), H', I', rfl, q⟩)
  show wpAny (model X.prog X.w) X.A (richCompare .NotEq (.ref a) (.ref b)) _ _ _
  unfold richCompare
  simp only [oneThing_ref]
  refine wpAny_holding (wpAny_bind (wpAny_cRoomFor hr.units0 ?_))
  refine wpAny_bind (J.type.here (wpAny_bind (J'.type.here ?_)))
  split
  · rename_i q
    simp at q
  · refine wpAny_bind (wpAny_pure ?_)
    simp only [Bool.false_eq_true, if_false]
    refine wpAny_bind (wpAny_mono one (fun r s' z => ?_) fun _ _ e => e)
    obtain ⟨v, rfl, hq⟩ := z
    exact wpAny_pure hq
/-- len(a), a of the class at C, by its __len__ -/
theorem call_lenOwn (F : FnOk X.prog X.w X.K X.mg X.base CX0 k f fd ps sp) (hs : PySem.W.findIn X.K (.ref C) "__len__" = some (some (.ref f))) (hf : PySem.W.isFn X.K (.ref f) = true) (hb : Binds X.K fd ps []) (hr : Room (k + 1) X.A) :
    CallR X (.builtin "len") (fun xs H Q => ∃ a dx fs, xs = [.ref a] ∧ H a = some (.ins C dx fs) ∧ sp [.ref a] H (fun v H' => ∃ n : Nat, v = .int (n : Int) ∧ n ≤ sizeLine ∧ Q (.int (n : Int)) H') E0) := by
  intro pins s σ H xs us Q I r h
  obtain ⟨a, dx, fs, rfl, ha, h⟩ := h
  obtain ⟨u1, rfl, r1⟩ := vals1 r
  cases r1
  obtain ⟨mA, J, _⟩ := ins_get I.hok ha
  obtain ⟨od, J, _⟩ := J.look
  obtain ⟨m, hF⟩ := I.fr
  refine PySem.W.len_K hF I.ok.mod.kin J hs hf ?_
  refine wpAny_mono (run_fnA F hr.in1 I.env0.in1 hb I (show Vals [V.ref a] [Value.ref a] from .cons rfl .nil) h) (fun v s' hv => ?_) fun _ _ z => z
  obtain ⟨z, H', I', rz, n, rfl, hn, q⟩ := hv
  obtain ⟨t, rfl⟩ := rz
  have h63 : (n : Int) < 2 ^ 63 := by
    have := line63
    have : n < 2 ^ 63 := Nat.lt_of_le_of_lt hn this
    exact_mod_cast this
  exact ⟨⟨Int.natCast_nonneg n, h63⟩, .int (n : Int), H', I'.tok _, ⟨_, rfl⟩, q⟩
end
end Sf
namespace Sf
open PySem PySem.Spec PyProof.Rows L2 TL
/-! ### lists of texts, joined -/
theorem joinL_nil : ∀ ps : List (List Nat), joinL [] ps = ps.flatten
  | [] => rfl
  | [p] => by simp [joinL]
  | p :: q :: r => by
    show p ++ ([] ++ joinL [] (q :: r)) = _
    rw [joinL_nil (q :: r), List.nil_append]
    rfl
theorem tl_empty : tl (Str.ofString "") = [] := by decide +kernel
theorem join_tl (ys : List Str) : Txt.join (Str.ofString "") ys = mkS (ys.map tl).flatten := by
  refine eq_mkS ?_
  rw [join_eq, tl_join, tl_empty, joinL_nil]
theorem join_ones (l : List Nat) : Txt.join (Str.ofString "") (l.map one) = mkS l := by
  rw [join_tl, List.map_map]
  congr 1
  induction l with
  | nil => rfl
  | cons c l ih =>
    rw [List.map_cons, List.flatten_cons, ih]
    rfl
theorem len_empty : (Str.ofString "").length = 0 := by decide +kernel
theorem ones_sum (l : List Nat) : ((l.map one).map (·.length)).sum = l.length := by
  induction l with
  | nil => rfl
  | cons c l ih =>
    rw [List.map_cons, List.map_cons, List.sum_cons, ih, len_one, List.length_cons]
    omega
theorem join_fit {l : List Nat} (h : l.length ≤ 100000) : ((l.map one).map (·.length)).sum + (l.map one).length * (Str.ofString "").length ≤ 16777216 := by
  rw [ones_sum, len_empty]
  omega
/-- data of a list of single signs -/
def dOnes (l : List Nat) : PyData := .list (l.map fun c => .str (one c))
theorem dp_all {K : PySem.W.Frag} {H : Hp} : ∀ l : List Nat, DpAll K H (l.map fun c => V.str (one c)) (l.map fun c => .str (one c))
  | [] => .nil
  | _ :: l => .cons (.str _) (dp_all l)
theorem ones_lay : ∀ {l : List Nat}, Sg l → PyData.canLayAll0 (l.map fun c => .str (one c)) = true
  | [], _ => rfl
  | c :: l, h => by
    have hc := h c (List.mem_cons_self ..)
    have e : PyData.canLay0 (.str (one c)) = true := by
      rw [sgn_iff] at hc
      have : ∀ d, d < 128 → PyData.canLay0 (.str (one d)) = true := by decide +kernel
      exact this c (by omega)
    rw [List.map_cons, PyData.canLayAll0, e, ones_lay fun d hd => h d (List.mem_cons_of_mem _ hd)]
    rfl
theorem ones_depth : ∀ l : List Nat, PyData.depthAll (l.map fun c => .str (one c)) = 0
  | [] => rfl
  | _ :: l => by
    rw [List.map_cons, PyData.depthAll, ones_depth l]
    rfl
theorem ones_shaped {l : List Nat} (h : Sg l) : SeqAt.shaped (dOnes l) = true := by
  unfold SeqAt.shaped dOnes
  rw [PyData.canLay0, ones_lay h, Bool.true_and, PyData.depth, ones_depth]
  rfl
theorem ones_nil {l : List Nat} : PyData.eqv (dOnes l) (.list []) = l.isEmpty := by
  unfold dOnes
  cases l with
  | nil => simp [PyData.eqv, PyData.eqvAll]
  | cons c l => simp [PyData.eqv, PyData.eqvAll]
theorem Fx.toSame {L : Addr} {H H' : Hp} (f : Fx L H H') (n : H L = none) : Same H H' := fun b o e => f b o e (ne_of_none e n)
theorem glu_take {l : List Nat} {i c : Nat} (h : l[i]? = some c) : gluT (mkS (shortL (l.take i))) (one c) = mkS (shortL (l.take (i + 1))) := by
  unfold gluT
  rw [tl_mkS, tl_one, glu_one, ← shortL_snoc, List.take_add_one, h]
  rfl
end Sf
namespace Sf
open PySem PySem.Spec PyProof.Rows L2 TL
/-! ### reduced words as a group -/
def Rdc (x : Str) : Prop := Wd x ∧ RedS (tl x).reverse
theorem runS_short {s : List Nat} (h : RedS s) (hs : Sg s) : ∀ (n : Nat) (w : List Nat), w.length = n → Sg w → runS s (shortL w) = runS s w := by
  intro n
  induction n with
  | zero =>
    intro w hw _
    rw [List.eq_nil_of_length_eq_zero hw]
    rfl
  | succ n ih =>
    intro w hw hg
    rcases List.eq_nil_or_concat w with rfl | ⟨u, c, rfl⟩
    · rfl
    · rw [List.concat_eq_append] at *
      have hu : Sg u := fun d hd => hg d (List.mem_append_left _ hd)
      have hc : sgn c = true := hg c (List.mem_append_right _ (List.mem_singleton.mpr rfl))
      have hl : u.length = n := by
        rw [List.length_append, List.length_singleton] at hw
        omega
      have ihu := ih u hl hu
      rw [shortL_snoc, runS_app]
      show runS s (push (shortL u) c) = pushS (runS s u) c
      rw [← ihu]
      rcases List.eq_nil_or_concat (shortL u) with e | ⟨r, d, e⟩
      · rw [e]
        rfl
      · rw [List.concat_eq_append] at e
        have hd : sgn d = true := shortL_sg hu d (by rw [e]; simp)
        have hr : Sg r := fun z hz => shortL_sg hu z (by rw [e]; exact List.mem_append_left _ hz)
        rw [e, push_last]
        by_cases q : d = flipC c
        · rw [if_pos q, runS_app]
          show runS s r = pushS (pushS (runS s r) d) c
          have hinv := pushS_inv (s := runS s r) (c := d) (runS_red h) (runS_sg hs hr) hd
          have e2 : flipC d = c := by rw [q, flip2 hc]
          rw [e2] at hinv
          exact hinv.symm
        · rw [if_neg q, runS_app s (r ++ [d]) [c]]
          rfl
theorem run_self {x : Str} (h : Rdc x) : runS [] (tl x) = (tl x).reverse := by
  have := run_of_red (w := tl x) (s := []) (by rw [List.append_nil]; exact h.2)
  rw [List.append_nil] at this
  exact this
theorem tl_glu {x y : Str} (hx : Rdc x) (hy : Rdc y) : tl (gluT x y) = (runS (tl x).reverse (tl y)).reverse := by
  unfold gluT
  rw [tl_mkS, glS_run hy.2 hx.2]
theorem glu_rdc {x y : Str} (hx : Rdc x) (hy : Rdc y) : Rdc (gluT x y) := by
  refine ⟨gluT_wd hx.1 hy.1, ?_⟩
  rw [tl_glu hx hy, List.reverse_reverse]
  exact runS_red hx.2
theorem rev_sg {x : Str} (h : Wd x) : Sg (tl x).reverse := fun c hc => h c (List.mem_reverse.mp hc)
theorem glu_short {x y : Str} (hx : Rdc x) (hy : Rdc y) : tl (gluT x y) = shortL (tl x ++ tl y) := by
  rw [tl_glu hx hy]
  unfold shortL
  rw [runS_app, run_self hx]
theorem glu_assoc {x y z : Str} (hx : Rdc x) (hy : Rdc y) (hz : Rdc z) : gluT (gluT x y) z = gluT x (gluT y z) := by
  refine ext_tl ?_
  rw [tl_glu (glu_rdc hx hy) hz, tl_glu hx (glu_rdc hy hz), tl_glu hx hy, List.reverse_reverse, glu_short hy hz]
  rw [runS_short hx.2 (rev_sg hx.1) _ _ rfl (fun c hc => (List.mem_append.mp hc).elim (hy.1 c) (hz.1 c)), runS_app]
theorem rdc_nil : Rdc (Str.ofString "") := ⟨wd_nil, by rw [tl_empty]; exact True.intro⟩
theorem glu_nil {x : Str} : gluT x (Str.ofString "") = x := by
  refine ext_tl ?_
  unfold gluT
  rw [tl_mkS, tl_empty]
  cases h : (tl x).reverse with
  | nil =>
    rw [List.reverse_eq_nil_iff] at h
    rw [h]
    rfl
  | cons a l =>
    show (a :: l).reverse = _
    rw [← h, List.reverse_reverse]
theorem nil_glu {x : Str} (hx : Rdc x) : gluT (Str.ofString "") x = x := by
  refine ext_tl ?_
  rw [tl_glu rdc_nil hx, tl_empty]
  show (runS [] (tl x)).reverse = _
  rw [run_self hx, List.reverse_reverse]
theorem red_npc2 : ∀ {l : List Nat}, RedS l.reverse → Sg l → RedS (l.map flipC)
  | [], _, _ => True.intro
  | [_], _, _ => True.intro
  | x :: y :: t, h, hs => by
    rw [List.reverse_cons] at h
    have h1 : RedS (y :: t).reverse := glS_run.RedS.prefix h
    rw [List.reverse_cons, List.append_assoc] at h
    have h2 : RedS [y, x] := RedS.suffix (a := t.reverse) h
    have hx := hs x (List.mem_cons_self ..)
    have ih := red_npc2 (l := y :: t) h1 (fun c hc => hs c (List.mem_cons_of_mem _ hc))
    refine ⟨?_, ih⟩
    intro e
    rw [flip2 hx] at e
    exact h2.1 e.symm
theorem back_rdc {x : Str} (hx : Rdc x) : Rdc (backT x) := by
  refine ⟨backT_wd hx.1, ?_⟩
  show RedS (backL (tl x)).reverse
  unfold backL
  rw [List.reverse_reverse]
  exact red_npc2 hx.2 hx.1
theorem glu_back {x : Str} (hx : Rdc x) : gluT x (backT x) = Str.ofString "" := by
  refine ext_tl ?_
  rw [tl_glu hx (back_rdc hx), tl_empty]
  show (runS (tl x).reverse (backL (tl x))).reverse = []
  rw [← run_self hx, run_back (s := []) True.intro (fun _ z => by cases z) hx.1]
  rfl
theorem back_glu {x : Str} (hx : Rdc x) : gluT (backT x) x = Str.ofString "" := by
  have h := glu_back (back_rdc hx)
  rw [backT_back hx.1] at h
  exact h
theorem glu_cancel {e s : Str} (he : Rdc e) (hs : Rdc s) : gluT (backT e) (gluT e s) = s := by
  rw [← glu_assoc (back_rdc he) he hs, back_glu he, nil_glu hs]
theorem glu_cancel2 {e s : Str} (he : Rdc e) (hs : Rdc s) : gluT e (gluT (backT e) s) = s := by
  rw [← glu_assoc he (back_rdc he) hs, glu_back he, nil_glu hs]
theorem glu_inj {e s t : Str} (he : Rdc e) (hs : Rdc s) (ht : Rdc t) (h : gluT e s = gluT e t) : s = t := by
  rw [← glu_cancel he hs, ← glu_cancel he ht, h]
theorem back_of_glu {x y : Str} (hx : Rdc x) (hy : Rdc y) : backT (gluT x y) = gluT (backT y) (backT x) := by
  have h1 := glu_rdc hx hy
  have h2 := glu_rdc (back_rdc hy) (back_rdc hx)
  have e : gluT (gluT x y) (gluT (backT y) (backT x)) = Str.ofString "" := by
    rw [glu_assoc hx hy h2, glu_cancel2 hy (back_rdc hx), glu_back hx]
  have e2 := glu_cancel (s := gluT (backT y) (backT x)) h1 h2
  rw [e, glu_nil] at e2
  exact e2
theorem short_rdc {w : List Nat} (h : Sg w) : Rdc (mkS (shortL w)) := by
  refine ⟨shortL_sg h, ?_⟩
  rw [tl_mkS]
  unfold shortL
  rw [List.reverse_reverse]
  exact runS_red (s := []) True.intro
/-! ### lists without doubles -/
theorem nodup_le : ∀ {ks ms : List Str}, ks.Nodup → (∀ s ∈ ks, s ∈ ms) → ks.length ≤ ms.length
  | [], _, _, _ => Nat.zero_le _
  | k :: ks, ms, hn, h => by
    obtain ⟨a, b, rfl⟩ := List.append_of_mem (h k (List.mem_cons_self ..))
    have hk := (List.nodup_cons.mp hn)
    have ih := nodup_le (ks := ks) (ms := a ++ b) hk.2 (fun s hs => by
      have h1 := h s (List.mem_cons_of_mem _ hs)
      rcases List.mem_append.mp h1 with h1 | h1
      · exact List.mem_append_left _ h1
      · rcases List.mem_cons.mp h1 with rfl | h1
        · exact absurd hs hk.1
        · exact List.mem_append_right _ h1)
    rw [List.length_append] at ih
    rw [List.length_append, List.length_cons, List.length_cons]
    omega
theorem nodup_len {ks ms : List Str} (h1 : ks.Nodup) (h2 : ms.Nodup) (h : ∀ s, s ∈ ks ↔ s ∈ ms) : ks.length = ms.length :=
  Nat.le_antisymm (nodup_le h1 fun s hs => (h s).mp hs) (nodup_le h2 fun s hs => (h s).mpr hs)
theorem nodup_map_glu {e : Str} (he : Rdc e) : ∀ {ks : List Str}, (∀ s ∈ ks, Rdc s) → ks.Nodup → (ks.map (gluT e)).Nodup
  | [], _, _ => List.nodup_nil
  | k :: ks, hr, hn => by
    have hk := List.nodup_cons.mp hn
    rw [List.map_cons, List.nodup_cons]
    refine ⟨fun hm => ?_, nodup_map_glu he (fun s hs => hr s (List.mem_cons_of_mem _ hs)) hk.2⟩
    obtain ⟨t, ht, e2⟩ := List.mem_map.mp hm
    have := glu_inj he (hr t (List.mem_cons_of_mem _ ht)) (hr k (List.mem_cons_self ..)) e2
    rw [this] at ht
    exact hk.1 ht
/-! ### dicts of spots -/
def dOf (ks : List Str) : List (Key × V) := ks.map fun s => (Sum.inr s, V.bl true)
theorem dOf_len (ks : List Str) : (dOf ks).length = ks.length := List.length_map ..
def addS (l : List Str) (s : Str) : List Str := if s ∈ l then l else l ++ [s]
theorem any_dOf (l : List Str) (s : Str) : ((dOf l).any fun kv => decide (kv.1 = (Sum.inr s : Key))) = decide (s ∈ l) := by
  unfold dOf
  rw [List.any_map, Bool.eq_iff_iff, List.any_eq_true, decide_eq_true_eq]
  constructor
  · rintro ⟨t, ht, e⟩
    have e1 : (Sum.inr t : Key) = Sum.inr s := of_decide_eq_true e
    cases e1
    exact ht
  · intro h
    exact ⟨s, h, decide_eq_true rfl⟩
theorem put_dOf (l : List Str) (s : Str) : putK (dOf l) (Sum.inr s) (.bl true) = dOf (addS l s) := by
  unfold putK addS
  rw [any_dOf]
  by_cases h : s ∈ l
  · rw [if_pos (decide_eq_true h), if_pos h]
    unfold dOf
    rw [List.map_map]
    refine List.map_congr_left fun t _ => ?_
    show (if (Sum.inr t : Key) = Sum.inr s then ((Sum.inr t : Key), V.bl true) else (Sum.inr t, V.bl true)) = _
    split <;> rfl
  · rw [if_neg (by rw [decide_eq_false h]; exact Bool.false_ne_true), if_neg h]
    unfold dOf
    rw [List.map_append]
    rfl
theorem addS_mem {l : List Str} {s t : Str} : t ∈ addS l s ↔ t ∈ l ∨ t = s := by
  unfold addS
  by_cases h : s ∈ l
  · rw [if_pos h]
    constructor
    · exact .inl
    · rintro (h1 | rfl)
      · exact h1
      · exact h
  · rw [if_neg h, List.mem_append, List.mem_singleton]
theorem addS_nodup {l : List Str} {s : Str} (h : l.Nodup) : (addS l s).Nodup := by
  unfold addS
  by_cases hs : s ∈ l
  · rw [if_pos hs]
    exact h
  · rw [if_neg hs, List.nodup_append]
    refine ⟨h, by simp, ?_⟩
    intro a ha b hb
    rw [List.mem_singleton] at hb
    subst hb
    exact fun e => hs (e ▸ ha)
theorem addS_len (l : List Str) (s : Str) : (addS l s).length ≤ l.length + 1 := by
  unfold addS
  by_cases hs : s ∈ l
  · rw [if_pos hs]
    omega
  · rw [if_neg hs, List.length_append, List.length_singleton]
    exact Nat.le_refl _
def uni (l m : List Str) : List Str := m.foldl addS l
theorem merge_dOf : ∀ (l m : List Str), mergeV (dOf l) (dOf m) = dOf (uni l m)
  | _, [] => rfl
  | l, s :: m => by
    show mergeV (putK (dOf l) (Sum.inr s) (.bl true)) (dOf m) = _
    rw [put_dOf, merge_dOf]
    rfl
theorem uni_mem : ∀ {m l : List Str} {t : Str}, t ∈ uni l m ↔ t ∈ l ∨ t ∈ m
  | [], l, t => by simp [uni]
  | s :: m, l, t => by
    show t ∈ uni (addS l s) m ↔ _
    rw [uni_mem, addS_mem, List.mem_cons, or_assoc]
theorem uni_nodup : ∀ {m l : List Str}, l.Nodup → (uni l m).Nodup
  | [], _, h => h
  | _ :: m, _, h => uni_nodup (m := m) (addS_nodup h)
theorem uni_len : ∀ (m l : List Str), (uni l m).length ≤ l.length + m.length
  | [], l => by simp [uni]
  | s :: m, l => by
    have h1 := uni_len m (addS l s)
    have h2 := addS_len l s
    show (uni (addS l s) m).length ≤ _
    rw [List.length_cons]
    omega
theorem dOf_nil : dOf [] = [] := rfl
theorem val_dOf {l : List Str} {s : Str} (h : s ∈ l) : valV (dOf l) (Sum.inr s) = some (.bl true) := by
  induction l with
  | nil => cases h
  | cons t l ih =>
    by_cases e : t = s
    · rw [e]
      exact valV_pos rfl
    · have e2 : ¬ ((Sum.inr t : Key) = Sum.inr s) := fun z => e (Sum.inr.inj z)
      show valV ((Sum.inr t, V.bl true) :: dOf l) _ = _
      rw [valV_neg e2]
      exact ih ((List.mem_cons.mp h).resolve_left fun z => e z.symm)
theorem val_dOf_none {l : List Str} {s : Str} (h : s ∉ l) : valV (dOf l) (Sum.inr s) = none := by
  induction l with
  | nil => rfl
  | cons t l ih =>
    have e2 : ¬ ((Sum.inr t : Key) = Sum.inr s) := fun z => h (by rw [Sum.inr.inj z]; exact List.mem_cons_self ..)
    show valV ((Sum.inr t, V.bl true) :: dOf l) _ = _
    rw [valV_neg e2]
    exact ih fun z => h (List.mem_cons_of_mem _ z)
end Sf
namespace Sf
open PySem PySem.Spec PyProof.Rows L2 TL
/-! ### the class Track -/
theorem dc_gen {J : It} {n : Nat} {g : TG} {tt : TT} {tk tv : TE} {vs : List Nat} {σ : L2.St} {H1 : Hp} {D : Addr} {Qd : Hp → Prop} (Pv : Nat → Hp → Prop) (h0 : Pv 0 (upd H1 D (.dK [])))
    (hgo : ∀ i H, i < n → Pv i H → J.go i H) (hst : ∀ H, Pv n H → J.stop n H)
    (hs : ∀ i x H H', i < n → Pv i H → J.yld i H x H' → g x (wipe σ vs) H' fun σ2 H2 => wipe σ2 vs = wipe σ vs ∧ tt σ2 H2 fun b H3 =>
      if b = true then tk σ2 H3 fun y H4 => tv σ2 H4 fun z H5 => ∃ kvs k, y = kV k ∧ H5 D = some (.dK kvs) ∧ kvs.length < sizeLine ∧ Pv (i + 1) (upd H5 D (.dK (putK kvs k z))) else Pv (i + 1) H3) (hd : ∀ H, Pv n H → Qd H) :
    ∃ W : Nat → Nat → Hp → Prop, (∃ m, W 0 m (upd H1 D (.dK []))) ∧ ∀ i m H, W i m H →
      (J.stop i H ∧ Qd H) ∨ (J.go i H ∧ ∃ Nx : Hp → Prop, (∀ H', Nx H' → ∃ m', m' < m ∧ W (i + 1) m' H') ∧ ∀ x H', J.yld i H x H' → g x (wipe σ vs) H' fun σ2 H2 => wipe σ2 vs = wipe σ vs ∧ tt σ2 H2 fun b H3 =>
        if b = true then tk σ2 H3 fun y H4 => tv σ2 H4 fun z H5 => ∃ kvs k, y = kV k ∧ H5 D = some (.dK kvs) ∧ kvs.length < sizeLine ∧ Nx (upd H5 D (.dK (putK kvs k z))) else Nx H3) := by
  refine ⟨fun i m H => m = n - i ∧ i ≤ n ∧ Pv i H, ⟨n, rfl, Nat.zero_le _, h0⟩, ?_⟩
  rintro i m H ⟨rfl, hi, p⟩
  by_cases hlt : i < n
  · exact .inr ⟨hgo i H hlt p, Pv (i + 1), fun H' p' => ⟨n - (i + 1), by omega, rfl, hlt, p'⟩, fun x H' y => hs i x H H' hlt p y⟩
  · have e : i = n := by omega
    subst e
    exact .inl ⟨hst H p, hd H p⟩
def tf (d : Addr) (e : Str) : List (Str × V) := putF "last" (.str e) (putF "passed" (.ref d) [])
theorem pl_ne : ¬ (("passed" : Str) = "last") := by decide +kernel
theorem lp_ne : ¬ (("last" : Str) = "passed") := by decide +kernel
theorem tf_eq (d : Addr) (e : Str) : tf d e = ([("passed", V.ref d), ("last", V.str e)] : List (Str × V)) := by
  show (if ("passed" : Str) = "last" then [(("passed" : Str), V.str e)] else (("passed" : Str), V.ref d) :: putF "last" (V.str e) []) = ([("passed", V.ref d), ("last", V.str e)] : List (Str × V))
  rw [if_neg pl_ne]
  all_goals rfl
theorem tf_passed (d : Addr) (e : Str) : (tf d e).lookup ("passed" : Str) = some (.ref d) := by
  unfold tf
  rw [lookup_putF, if_neg pl_ne, lookup_putF, if_pos rfl]
theorem tf_last (d : Addr) (e : Str) : (tf d e).lookup ("last" : Str) = some (.str e) := by
  unfold tf
  rw [lookup_putF, if_pos rfl]
theorem tf_no (d : Addr) (e : Str) {m : Str} (h1 : ¬ m = "last") (h2 : ¬ m = "passed") : (tf d e).lookup m = none := by
  unfold tf
  rw [lookup_putF, if_neg h1, lookup_putF, if_neg h2]
  all_goals rfl
theorem tf_len (d : Addr) (e : Str) : (tf d e).length = 2 := by rw [tf_eq]; rfl
theorem tf_putP (d d' : Addr) (e : Str) : putF "passed" (.ref d') (tf d e) = tf d' e := by
  rw [tf_eq, tf_eq]
  show (if ("passed" : Str) = "passed" then [(("passed" : Str), V.ref d'), ("last", V.str e)] else _) = _
  rw [if_pos rfl]
theorem tf_putL (d : Addr) (e e' : Str) : putF "last" (.str e') (tf d e) = tf d e' := by
  rw [tf_eq, tf_eq]
  show (if ("passed" : Str) = "last" then _ else (("passed" : Str), V.ref d) :: (if ("last" : Str) = "last" then [(("last" : Str), V.str e')] else _)) = _
  rw [if_neg pl_ne, if_pos rfl]
/-- the spots of a track with end e: at most B of them, of at most B signs -/
structure Spots (ks : List Str) (S : Str → Prop) (e : Str) (B : Nat) : Prop where
  nd : ks.Nodup
  mem : ∀ s, s ∈ ks ↔ S s
  rd : ∀ s, S s → Rdc s
  ln : ∀ s, S s → s.length ≤ B
  re : Rdc e
  le : e.length ≤ B
  many : ks.length ≤ B
def Trk (C : Addr) (H : Hp) (p : Addr) (S : Str → Prop) (e : Str) (B : Nat) : Prop := ∃ (dx d : Addr) (ks : List Str), H p = some (.ins C dx (tf d e)) ∧ H d = some (.dK (dOf ks)) ∧ Spots ks S e B
theorem Trk.same {C : Addr} {H H' : Hp} {p : Addr} {S : Str → Prop} {e : Str} {B : Nat} (s : Same H H') : Trk C H p S e B → Trk C H' p S e B
  | ⟨dx, d, ks, h1, h2, h3⟩ => ⟨dx, d, ks, s _ _ h1, s _ _ h2, h3⟩
theorem Trk.fx {C b : Addr} {H H' : Hp} {p : Addr} {S : Str → Prop} {e : Str} {B : Nat} (hB : Bag H b) (f : Fx b H H') : Trk C H p S e B → Trk C H' p S e B
  | ⟨dx, d, ks, h1, h2, h3⟩ => by
    obtain ⟨l, ns, k, z, r, hb⟩ := hB
    exact ⟨dx, d, ks, f _ _ h1 (ne_of h1 hb.hb (by intro q; cases q)), f _ _ h2 (ne_of h2 hb.hb (by intro q; cases q)), h3⟩
theorem Trk.cong {C : Addr} {H : Hp} {p : Addr} {S S' : Str → Prop} {e e' : Str} {B : Nat} (hS : ∀ s, S s ↔ S' s) (he : e = e') : Trk C H p S e B → Trk C H p S' e' B
  | ⟨dx, d, ks, h1, h2, h3⟩ => ⟨dx, d, ks, by rw [← he]; exact h1, h2, h3.nd, fun s => (h3.mem s).trans (hS s), fun s h => h3.rd s ((hS s).mpr h), fun s h => h3.ln s ((hS s).mpr h), by rw [← he]; exact h3.re, by rw [← he]; exact h3.le, h3.many⟩
def spotP (x : Str) : Str → Prop := fun s => ∃ i, i ≤ (tl x).length ∧ s = mkS (shortL ((tl x).take i))
theorem kit_self {K : PySem.W.Frag} {t : Value} : PySem.W.kitOne K t t = some true := by
  unfold PySem.W.kitOne
  rw [if_pos (beq_self_eq_true t)]
structure TC (K : PySem.W.Frag) (mg : Str → Option Value) (C : Addr) : Prop where
  cl : Cls K C
  nP : PySem.W.findIn K (.ref C) "passed" = some none
  nL : PySem.W.findIn K (.ref C) "last" = some none
  mgC : mg "Track" = some (.ref C)
  ha : PySem.W.findIn K (.ref C) "__class__" = some (some (.builtin "object.__class__"))
  hn : PySem.W.specialIn K (.builtin "object.__class__") "__get__" = some (some (.builtin "getset_descriptor.__get__"))
  htk : PySem.W.takesIn K (.builtin "object.__class__") = some true
  hm : PySem.W.mroIn K C (.type "object") = some true
  ne : PySem.W.findIn K (.ref C) "__ne__" = some (some (.builtin "object.__ne__"))
def MAt (K : PySem.W.Frag) (C : Addr) (m q : Str) (st : Stmt) (ps : List Str) : Prop := ∃ (f : Addr) (fd : FuncData), Meth K C m f ∧ Fun K m q st f fd ∧ Binds K fd ps []
def HasM (P : Program) (w : World) (K : PySem.W.Frag) (mg : Str → Option Value) (base : Heap) (C : Addr) (k : Nat) (m : Str) (ps : List Str) (sp : Sp) : Prop :=
  ∃ (f : Addr) (fd : FuncData), Meth K C m f ∧ Binds K fd ps [] ∧ FnOk P w K mg base CX0 k f fd ps sp
theorem MAt.has {P : Program} {w : World} {K : PySem.W.Frag} {mg : Str → Option Value} {base : Heap} {C : Addr} {k : Nat} {m q : Str} {st : Stmt} {ps : List Str} {sp : Sp} (h : MAt K C m q st ps)
    (ok : ∀ {f : Addr} {fd : FuncData}, Fun K m q st f fd → FnOk P w K mg base CX0 k f fd ps sp) : HasM P w K mg base C k m ps sp := by
  obtain ⟨f, fd, g, F, b⟩ := h
  exact ⟨f, fd, g, b, ok F⟩
theorem mAt_mk {K : PySem.W.Frag} {C : Addr} {m q : Str} {st : Stmt} {ps : List Str} {f : Addr} {oc : Value} {od an : Option Addr} {osl : Array (Option Value)} {kV doc pm cdv ct : Value}
    (a : PySem.W.findIn K (.ref C) m = some (some (.ref f))) (i : PySem.W.isFn K (.ref f) = true) (l : K.lookup f = some ⟨oc, od, .func (PySem.W.fnOf m q (defArgs st) (defBody st) (defScope st) .none kV doc pm an cdv ct), osl⟩)
    (c : PySem.W.codeIn K cdv q = true) (k : PySem.W.keepIn K (.ref f) = true)
    (b : ∀ (kV doc pm : Value) (an : Option Addr) (cdv ct : Value) (us : List Value), us.length = ps.length → bindArgs (PySem.W.fnOf m q (defArgs st) (defBody st) (defScope st) .none kV doc pm an cdv ct) ⟨us, []⟩ = pure (ps.zip us)) : MAt K C m q st ps :=
  ⟨f, _, ⟨a, i, k⟩, fun_mk l c k, (fun_mk l c k).binds b⟩
section
variable {P : Program} {w : World} {K : PySem.W.Frag} {mg : Str → Option Value} {base : Heap} {C : Addr}
/-! ### __init__ -/
def spInit (C : Addr) : Sp := fun vs H Q _ => ∃ (p dx : Addr) (x : Str), vs = [.ref p, .str x] ∧ H p = some (.ins C dx []) ∧ Wd x ∧ x.length ≤ 60 ∧
  ∀ H', Trk C H' p (spotP x) (shortT x) 61 → (∀ b o, H b = some o → b ≠ p → H' b = some o) → Q .non H'
theorem sc_init : FnScope ["self", "word", "here", "passed", "sign"] ["self", "word"] (defScope s_Track___init__) := ⟨rfl, rfl, rfl, by decide +kernel, rfl, by decide +kernel, by decide +kernel⟩
theorem has_init (F : MAt K C "__init__" "Track.__init__" s_Track___init__ ["self", "word"]) (T : TC K mg C) (hN : HasNeed P w K mg base) (hG : HasGlued P w K mg base) : HasM P w K mg base C 3 "__init__" ["self", "word"] (spInit C) := F.has fun F => by
  obtain ⟨fN, fdN, gN, kN, bN, GN⟩ := hN
  obtain ⟨fG, fdG, gG, kG, bG, GG⟩ := hG
  refine F.ok sc_init (fun vs H Q E h => ?_) (fun cdv A outer s H vs Q E hr h => ?_)
  · obtain ⟨p, dx, x, rfl, _⟩ := h
    rfl
  · obtain ⟨p, dx, x, rfl, hp, hx, hl, q⟩ := h
    have hz : x.cps.size = (tl x).length := len_tl x
    have hzl : x.length = (tl x).length := len_tl x
    refine ⟨_, pss_cons (ps_expr (pe_call GN hr (by rfl) gN kN bN .nil pass0 (pa_cons (pv 1) pa_nil)))
      (pss_cons (ps_set (i := 2) sc_init.nd rfl (.inl rfl) pe_str)
      (pss_cons (ps_set (i := 3) sc_init.nd rfl (.inl rfl) (pe_disp (pps_cons (pv 2) pe_bl pps_nil) (by rfl) (by rfl) (fun z => by cases z) (by decide)))
      (pss_cons (ps_for PassesOwn.never rfl (pi_str (pv 1)) (pg_name (i := 4) sc_init.nd rfl (.inl rfl))
        (pss_cons (ps_set (i := 2) sc_init.nd rfl (.inl rfl) (pe_call GG (hr.mono (by decide)) (by rfl) gG kG bG .nil pass0 (pa_cons (pv 2) (pa_cons (pv 4) pa_nil))))
        (pss_one (ps_dput (hu_of hr) (pv 3) (pv 2) pe_bl rfl))))
      (pss_cons (ps_fld (pv 0) (pv 3) rfl) (pss_one (ps_fld (pv 0) (pv 2) rfl)))))), ?_⟩
    refine ⟨_, rfl, x, rfl, hx, hl, fun H1 s1 => ?_⟩
    refine fun d nd => ⟨_, rfl, upd_same, [(Sum.inr (Str.ofString ""), .bl true)], rfl, by decide, ?_⟩
    rw [upd_upd]
    have e0 : mergeK [] [((Sum.inr (Str.ofString "") : Key), V.bl true)] = dOf [Str.ofString ""] := rfl
    rw [e0]
    have hp1 : H1 p = some (.ins C dx []) := s1 _ _ hp
    have npd : p ≠ d := ne_of_none hp1 nd
    refine ⟨_, rfl, x, rfl, for_gen (n := x.cps.size) (fun i σ H2 => ∃ (y : Option V) (ks : List Str), σ = [some (.ref p), some (.str x), some (.str (mkS (shortL ((tl x).take i)))), some (.ref d), y] ∧ Fx d H1 H2 ∧ H2 d = some (.dK (dOf ks)) ∧ ks.Nodup ∧ (∀ s, s ∈ ks ↔ ∃ j, j ≤ i ∧ s = mkS (shortL ((tl x).take j))) ∧ ks.length ≤ i + 1)
      ⟨none, [Str.ofString ""], rfl, Fx.of (same_upd nd), upd_same, by simp, fun s => ?_, by decide⟩ (fun i σ H2 hi _ => hi) (fun σ H2 _ => Nat.le_refl _) ?_ ?_⟩
    · rw [List.mem_singleton]
      constructor
      · rintro rfl
        exact ⟨0, Nat.le_refl _, by rw [List.take_zero]; decide +kernel⟩
      · rintro ⟨j, hj, e⟩
        have : j = 0 := by omega
        rw [e, this, List.take_zero]
        decide +kernel
    · rintro i v σ H2 H3 hi ⟨y, ks, rfl, f2, hd, hn, hm, hk⟩ ⟨rfl, c, hc, rfl⟩
      have hc' := getElem?_of_cps hc
      have hs := hx c (List.mem_of_getElem? hc')
      have hlen := shortL_len ((tl x).take i)
      rw [List.length_take] at hlen
      refine ⟨_, rfl, _, rfl, _, _, rfl, ?_, wd_one hs, ?_, ?_⟩
      · exact shortL_sg fun d hd => hx d (List.mem_of_mem_take hd)
      · rw [mkS_len, len_one]
        omega
      · rw [glu_take hc']
        refine ⟨_, rfl, _, rfl, d, _, rfl, DPut.k (k := Sum.inr (mkS (shortL ((tl x).take (i + 1))))) hd ?_, ?_⟩
        · rw [dOf_len]
          exact lineLt_of (by omega)
        · rw [put_dOf]
          refine ⟨_, _, rfl, f2.upd, upd_same, addS_nodup hn, fun s => ?_, by have := addS_len ks (mkS (shortL ((tl x).take (i + 1)))); omega⟩
          rw [addS_mem, hm]
          constructor
          · rintro (⟨j, hj, e⟩ | e)
            · exact ⟨j, by omega, e⟩
            · exact ⟨i + 1, Nat.le_refl _, e⟩
          · rintro ⟨j, hj, e⟩
            by_cases hji : j ≤ i
            · exact .inl ⟨j, hji, e⟩
            · have : j = i + 1 := by omega
              subst this
              exact .inr e
    · rintro σ H2 ⟨y, ks, rfl, f2, hd, hn, hm, hk⟩
      have hp2 : H2 p = some (.ins C dx []) := f2 _ _ hp1 npd
      have ndp : d ≠ p := npd.symm
      refine ⟨_, rfl, _, rfl, p, C, dx, [], rfl, hp2, T.cl, T.nP, (by show 0 < 1000; decide), ?_⟩
      refine ⟨_, rfl, _, rfl, p, C, dx, _, rfl, upd_same, T.cl, T.nL, (by show 1 < 1000; decide), ?_⟩
      have e1 : mkS (shortL ((tl x).take x.cps.size)) = shortT x := by
        rw [List.take_of_length_le (by rw [hz]; exact Nat.le_refl _)]
        rfl
      rw [e1]
      refine q _ ⟨dx, d, ks, upd_same, by rw [upd_ne ndp, upd_ne ndp]; exact hd, hn, fun s => ?_, fun s => ?_, fun s => ?_, ?_, ?_, ?_⟩ fun b o e hb => ?_
      · rw [hm, hz]
        rfl
      · rintro ⟨j, hj, rfl⟩
        exact short_rdc fun c hc => hx c (List.mem_of_mem_take hc)
      · rintro ⟨j, hj, rfl⟩
        rw [mkS_len]
        have := shortL_len ((tl x).take j)
        rw [List.length_take] at this
        omega
      · exact short_rdc hx
      · show (mkS (shortL (tl x))).length ≤ 61
        rw [mkS_len]
        have := shortL_len (tl x)
        omega
      · omega
      · rw [upd_ne hb, upd_ne hb]
        exact f2 _ _ (s1 _ _ e) (ne_of_none (s1 _ _ e) nd)
end
end Sf
namespace Sf
open PySem PySem.Spec PyProof.Rows L2 TL
section
variable {P : Program} {w : World} {K : PySem.W.Frag} {mg : Str → Option Value} {base : Heap} {C : Addr}
/-! ### moved -/
def spMoved : Sp := fun vs H Q _ => ∃ (e : Str) (d : Addr) (ks : List Str) (B : Nat), vs = [.str e, .ref d] ∧ H d = some (.dK (dOf ks)) ∧ Rdc e ∧ ks.Nodup ∧ (∀ s ∈ ks, Rdc s ∧ s.length ≤ B) ∧ e.length + B ≤ 100000 ∧ ks.length ≤ 100000 ∧
  ∀ (d' : Addr) (H' : Hp), H d' = none → Same H H' → H' d' = some (.dK (dOf (ks.map (gluT e)))) → Q (.ref d') H'
abbrev HasMoved (P : Program) (w : World) (K : PySem.W.Frag) (mg : Str → Option Value) (base : Heap) : Prop := Has P w K mg base 2 "moved" ["start", "spots"] spMoved
theorem sc_moved : FnScope ["start", "spots", "spot"] ["start", "spots"] (defScope s_moved) := ⟨rfl, rfl, rfl, by decide +kernel, rfl, by decide +kernel, by decide +kernel⟩
theorem has_moved (F : FnAt K mg "moved" s_moved ["start", "spots"]) (hG : HasGlued P w K mg base) : HasMoved P w K mg base := F.has fun F => by
  obtain ⟨fG, fdG, gG, kG, bG, GG⟩ := hG
  refine F.ok sc_moved (fun vs H Q E h => ?_) (fun cdv A outer s H vs Q E hr h => ?_)
  · obtain ⟨e, d, ks, B, rfl, _⟩ := h
    rfl
  · obtain ⟨e, d, ks, B, rfl, hd, he, hn, hrd, hB, hkl, q⟩ := h
    refine ⟨_, pss_one (ps_ret (pe_lock (pe_dc (own := [("spot", 2)]) (g := gName 2) (tt := tYes) (by rfl) sc_moved.nd (pi_keys (pv 1))
      (blkOk_by (own := [("spot", 2)]) (N := ["start", "spots", "spot"]) (sc := defScope s_moved) (by decide +kernel)) (fun _ _ _ _ _ => pg_name (i := 2) sc_moved.nd rfl (.inl rfl)) (fun _ _ _ _ _ => pts_nil)
      (fun _ _ _ _ _ => pe_call GG hr (by rfl) gG kG bG .nil pass0 (pa_cons (pv 0) (pa_cons (pv 2) pa_nil))) (fun _ _ _ _ _ => pe_bl)))), ?_⟩
    refine ⟨d, _, hd, True.intro, fun od => ⟨_, rfl, d, od, rfl, .inl ⟨dOf ks, upd_same, fun D nD => ?_⟩⟩⟩
    have ndD : D ≠ d := fun z => by
      rw [z, upd_same] at nD
      cases nD
    have nD0 : H D = none := by
      rw [upd_ne ndD] at nD
      exact nD
    have hnm := nodup_map_glu he (fun s hs => (hrd s hs).1) hn
    refine dc_gen (n := ks.length) (fun i H2 => (∀ a o, H a = some o → a ≠ d → H2 a = some o) ∧ H2 d = some (.frz od (.dK (dOf ks))) ∧ H2 D = some (.dK (dOf ((ks.take i).map (gluT e)))))
      ⟨fun a o h1 h2 => ?_, ?_, upd_same⟩ ?_ ?_ ?_ ?_
    · rw [upd_ne (ne_of_none h1 nD0), upd_ne h2]
      exact h1
    · rw [upd_ne ndD.symm, upd_same]
    · rintro i H2 hi ⟨f2, h2, h3⟩
      exact ⟨h2, by rw [dOf_len]; exact hi⟩
    · rintro H2 ⟨f2, h2, h3⟩
      exact ⟨h2, by rw [dOf_len]; exact Nat.le_refl _⟩
    · rintro i v H2 H3 hi ⟨f2, h2, h3⟩ ⟨rfl, k, v', hk, rfl⟩
      have hks : ks[i]? = some ks[i] := List.getElem?_eq_getElem hi
      have ek : k = Sum.inr ks[i] := by
        unfold dOf at hk
        rw [List.getElem?_map, hks] at hk
        exact (Prod.mk.inj (Option.some.inj hk)).1.symm
      subst ek
      obtain ⟨r1, r2⟩ := hrd _ (List.getElem_mem hi)
      refine ⟨rfl, yes_if ?_⟩
      refine ⟨_, rfl, _, rfl, e, ks[i], rfl, he.1, r1.1, by omega, _, Sum.inr (gluT e ks[i]), rfl, h3, ?_, fun a o h1 hne => ?_, ?_, ?_⟩
      · rw [dOf_len, List.length_map, List.length_take]
        exact lineLt_of (Nat.le_trans (Nat.min_le_right _ _) hkl)
      · rw [upd_ne (ne_of_none h1 nD0)]
        exact f2 a o h1 hne
      · rw [upd_ne ndD.symm]
        exact h2
      · rw [upd_same, put_dOf]
        have hnot : gluT e ks[i] ∉ (ks.take i).map (gluT e) := by
          have h5 : ks.map (gluT e) = (ks.take i).map (gluT e) ++ gluT e ks[i] :: (ks.drop (i + 1)).map (gluT e) := by
            rw [← List.map_cons, ← List.map_append, ← List.drop_eq_getElem_cons hi, List.take_append_drop]
          rw [h5, List.nodup_append] at hnm
          intro hm
          exact hnm.2.2 _ hm _ (List.mem_cons_self ..) rfl
        unfold addS
        rw [if_neg hnot, List.take_add_one, hks, List.map_append]
        rfl
    · rintro H2 ⟨f2, h2, h3⟩
      refine ⟨h2, ?_⟩
      rw [List.take_length] at h3
      refine q D _ nD0 (fun a o h1 => ?_) (by rw [upd_ne ndD]; exact h3)
      by_cases had : a = d
      · rw [had, upd_same, ← hd, ← had]
        exact h1
      · rw [upd_ne had]
        exact f2 a o h1 had
/-! ### track_of -/
def spTrackOf (C : Addr) : Sp := fun vs H Q _ => ∃ (d : Addr) (ks : List Str) (e : Str) (S : Str → Prop) (B : Nat), vs = [.ref d, .str e] ∧ H d = some (.dK (dOf ks)) ∧ Spots ks S e B ∧
  ∀ (p : Addr) (H' : Hp), H p = none → Same H H' → Trk C H' p S e B → Q (.ref p) H'
abbrev HasTrackOf (P : Program) (w : World) (K : PySem.W.Frag) (mg : Str → Option Value) (base : Heap) (C : Addr) : Prop := Has P w K mg base 5 "track_of" ["spots", "last"] (spTrackOf C)
theorem sc_trackof : FnScope ["spots", "last", "track"] ["spots", "last"] (defScope s_track_of) := ⟨rfl, rfl, rfl, by decide +kernel, rfl, by decide +kernel, by decide +kernel⟩
theorem has_trackof (F : FnAt K mg "track_of" s_track_of ["spots", "last"]) (T : TC K mg C) (mk : PySem.W.makesIn K C = true) (kc : PySem.W.keepIn K (.ref C) = true) (hI : HasM P w K mg base C 3 "__init__" ["self", "word"] (spInit C)) : HasTrackOf P w K mg base C := F.has fun F => by
  obtain ⟨fI, fdI, mI, bI, GI⟩ := hI
  refine F.ok sc_trackof (fun vs H Q E h => ?_) (fun cdv A outer s H vs Q E hr h => ?_)
  · obtain ⟨d, ks, e, S, B, rfl, _⟩ := h
    rfl
  · obtain ⟨d, ks, e, S, B, rfl, hd, hS, q⟩ := h
    have MI : Mk K C fI := ⟨mk, mI.at_, mI.fn, kc⟩
    refine ⟨_, pss_cons (ps_set (i := 2) sc_trackof.nd rfl (.inl rfl) (pe_make MI GI hr (by rfl) T.mgC bI .nil pass0 (pa_cons pe_str pa_nil)))
      (pss_cons (ps_fld (pv 2) (pv 0) rfl) (pss_cons (ps_fld (pv 2) (pv 1) rfl) (pss_one (ps_ret (pv 2))))), ?_⟩
    intro x dx nx ndx nex
    refine ⟨x, dx, _, rfl, upd_same, wd_nil, (by decide +kernel), fun H1 t1 k1 => ⟨rfl, ?_⟩⟩
    have s1 : Same H H1 := Same.made nx ndx k1
    obtain ⟨dx1, d1, ks1, h1, h2, h3⟩ := t1
    have hd1 : H1 d = some (.dK (dOf ks)) := s1 _ _ hd
    have ndx1 : d ≠ x := ne_of hd1 h1 (by intro q; cases q)
    refine ⟨_, rfl, _, rfl, x, C, dx1, _, rfl, h1, T.cl, T.nP, (by rw [tf_len]; decide), ?_⟩
    rw [tf_putP]
    refine ⟨_, rfl, _, rfl, x, C, dx1, _, rfl, upd_same, T.cl, T.nL, (by rw [tf_len]; decide), ?_⟩
    rw [tf_putL, upd_upd]
    refine ⟨_, rfl, q x _ nx (fun b o e1 => ?_) ⟨dx1, d, ks, upd_same, by rw [upd_ne ndx1]; exact hd1, hS⟩⟩
    rw [upd_ne (ne_of_none e1 nx)]
    exact s1 _ _ e1
end
end Sf
namespace Sf
open PySem PySem.Spec PyProof.Rows L2 TL
section
variable {P : Program} {w : World} {K : PySem.W.Frag} {mg : Str → Option Value} {base : Heap} {C : Addr}
/-! ### joined, back -/
def joinS (S T : Str → Prop) (e : Str) : Str → Prop := fun s => S s ∨ ∃ t, T t ∧ s = gluT e t
def backS (S : Str → Prop) (e : Str) : Str → Prop := fun s => ∃ t, S t ∧ s = gluT (backT e) t
def spJoined (C : Addr) : Sp := fun vs H Q _ => ∃ (a b : Addr) (S T : Str → Prop) (e f : Str) (A B : Nat), vs = [.ref a, .ref b] ∧ Trk C H a S e A ∧ Trk C H b T f B ∧ A + B ≤ 50000 ∧
  ∀ (p : Addr) (H' : Hp), H p = none → Same H H' → Trk C H' p (joinS S T e) (gluT e f) (A + B) → Q (.ref p) H'
theorem sc_joined : FnScope ["self", "other", "beyond"] ["self", "other"] (defScope s_Track_joined) := ⟨rfl, rfl, rfl, by decide +kernel, rfl, by decide +kernel, by decide +kernel⟩
theorem has_joined (F : MAt K C "joined" "Track.joined" s_Track_joined ["self", "other"]) (T : TC K mg C) (hM : HasMoved P w K mg base) (hT : HasTrackOf P w K mg base C) (hG : HasGlued P w K mg base) : HasM P w K mg base C 6 "joined" ["self", "other"] (spJoined C) := F.has fun F => by
  obtain ⟨fM, fdM, gM, kM, bM, GM⟩ := hM
  obtain ⟨fT, fdT, gT, kT, bT, GT⟩ := hT
  obtain ⟨fG, fdG, gG, kG, bG, GG⟩ := hG
  refine F.ok sc_joined (fun vs H Q E h => ?_) (fun cdv A outer s H vs Q E hr h => ?_)
  · obtain ⟨a, b, S, T', e, f, A, B, rfl, _⟩ := h
    rfl
  · obtain ⟨a, b, S, T', e, f, A1, B1, rfl, ⟨dx, d, ks, ha, hd, hS⟩, ⟨dy, d2, ms, hb, hd2, hS2⟩, hAB, q⟩ := h
    refine ⟨_, pss_cons (ps_set (i := 2) sc_joined.nd rfl (.inl rfl) (pe_call GM (hr.mono (by decide)) (by rfl) gM kM bM .nil pass0 (pa_cons (pe_fld (pv 0) rfl) (pa_cons (pe_fld (pv 1) rfl) pa_nil))))
      (pss_one (ps_ret (pe_call GT hr (by rfl) gT kT bT .nil pass0 (pa_cons (pe_merge2 (pe_fld (pv 0) rfl) (pv 2)) (pa_cons (pe_call GG (hr.mono (by decide)) (by rfl) gG kG bG .nil pass0 (pa_cons (pe_fld (pv 0) rfl) (pa_cons (pe_fld (pv 1) rfl) pa_nil))) pa_nil))))), ?_⟩
    have k1 := hS.many
    have k2 := hS2.many
    have l1 := hS.le
    have l2 := hS2.le
    refine ⟨_, rfl, a, C, dx, _, _, rfl, ha, T.cl, T.nL, tf_last _ _, _, rfl, b, C, dy, _, _, rfl, hb, T.cl, T.nP, tf_passed _ _, e, d2, ms, B1, rfl, hd2, hS.re, hS2.nd, fun s hs => ⟨hS2.rd s ((hS2.mem s).mp hs), hS2.ln s ((hS2.mem s).mp hs)⟩, by omega, by omega, fun d3 H1 nd3 s1 hd3 => ?_⟩
    have ha1 := s1 _ _ ha
    have hb1 := s1 _ _ hb
    have hd1 := s1 _ _ hd
    refine fun p np => ?_
    have nap : a ≠ p := ne_of_none ha1 np
    have nbp : b ≠ p := ne_of_none hb1 np
    have ndp : d ≠ p := ne_of_none hd1 np
    have nd3p : d3 ≠ p := ne_of_none hd3 np
    refine ⟨_, rfl, a, C, dx, _, _, rfl, by rw [upd_ne nap]; exact ha1, T.cl, T.nP, tf_passed _ _, d, dOf ks, rfl, ndp, by rw [upd_ne ndp]; exact hd1, upd_same, by rw [dOf_len]; exact line_of (by omega), ?_⟩
    rw [upd_upd]
    have e1 : mergeV [] (dOf ks) = dOf (uni [] ks) := merge_dOf [] ks
    rw [e1]
    have u1 := uni_len ks []
    rw [List.length_nil] at u1
    refine ⟨_, rfl, d3, _, rfl, nd3p, by rw [upd_ne nd3p]; exact hd3, upd_same, by rw [dOf_len, dOf_len, List.length_map]; exact line_of (by omega), ?_⟩
    rw [upd_upd, merge_dOf]
    have u2 := uni_len (ms.map (gluT e)) (uni [] ks)
    rw [List.length_map] at u2
    have sp : Same H1 (upd H1 p (.dK (dOf (uni (uni [] ks) (ms.map (gluT e)))))) := same_upd np
    refine ⟨_, rfl, a, C, dx, _, _, rfl, sp _ _ ha1, T.cl, T.nL, tf_last _ _, _, rfl, b, C, dy, _, _, rfl, sp _ _ hb1, T.cl, T.nL, tf_last _ _, e, f, rfl, hS.re.1, hS2.re.1, by omega, ?_⟩
    refine ⟨p, uni (uni [] ks) (ms.map (gluT e)), gluT e f, joinS S T' e, A1 + B1, rfl, upd_same, ⟨uni_nodup (uni_nodup List.nodup_nil), fun s => ?_, ?_, ?_, glu_rdc hS.re hS2.re, Nat.le_trans (gluT_len e f) (by omega), by omega⟩, fun p2 H2 np2 s2 t2 => ?_⟩
    · rw [uni_mem, uni_mem, List.mem_map, hS.mem]
      constructor
      · rintro ((z | z) | ⟨t, ht, rfl⟩)
        · cases z
        · exact .inl z
        · exact .inr ⟨t, (hS2.mem t).mp ht, rfl⟩
      · rintro (z | ⟨t, ht, rfl⟩)
        · exact .inl (.inr z)
        · exact .inr ⟨t, (hS2.mem t).mpr ht, rfl⟩
    · rintro s (z | ⟨t, ht, rfl⟩)
      · exact hS.rd s z
      · exact glu_rdc hS.re (hS2.rd t ht)
    · rintro s (z | ⟨t, ht, rfl⟩)
      · exact Nat.le_trans (hS.ln s z) (by omega)
      · have := hS2.ln t ht
        exact Nat.le_trans (gluT_len e t) (by omega)
    · exact q p2 H2 ((s1.trans sp).free np2) ((s1.trans sp).trans s2) t2
def spBackM (C : Addr) : Sp := fun vs H Q _ => ∃ (a : Addr) (S : Str → Prop) (e : Str) (A : Nat), vs = [.ref a] ∧ Trk C H a S e A ∧ A ≤ 25000 ∧
  ∀ (p : Addr) (H' : Hp), H p = none → Same H H' → Trk C H' p (backS S e) (backT e) (A + A) → Q (.ref p) H'
theorem sc_backM : FnScope ["self", "home"] ["self"] (defScope s_Track_back) := ⟨rfl, rfl, rfl, by decide +kernel, rfl, by decide +kernel, by decide +kernel⟩
theorem has_backM (F : MAt K C "back" "Track.back" s_Track_back ["self"]) (T : TC K mg C) (hM : HasMoved P w K mg base) (hT : HasTrackOf P w K mg base C) (hU : HasTurned P w K mg base) : HasM P w K mg base C 6 "back" ["self"] (spBackM C) := F.has fun F => by
  obtain ⟨fM, fdM, gM, kM, bM, GM⟩ := hM
  obtain ⟨fT, fdT, gT, kT, bT, GT⟩ := hT
  obtain ⟨fU, fdU, gU, kU, bU, GU⟩ := hU
  refine F.ok sc_backM (fun vs H Q E h => ?_) (fun cdv A outer s H vs Q E hr h => ?_)
  · obtain ⟨a, S, e, A, rfl, _⟩ := h
    rfl
  · obtain ⟨a, S, e, A1, rfl, ⟨dx, d, ks, ha, hd, hS⟩, hA, q⟩ := h
    refine ⟨_, pss_cons (ps_set (i := 1) sc_backM.nd rfl (.inl rfl) (pe_call GU (hr.mono (by decide)) (by rfl) gU kU bU .nil pass0 (pa_cons (pe_fld (pv 0) rfl) pa_nil)))
      (pss_one (ps_ret (pe_call GT hr (by rfl) gT kT bT .nil pass0 (pa_cons (pe_call GM (hr.mono (by decide)) (by rfl) gM kM bM .nil pass0 (pa_cons (pv 1) (pa_cons (pe_fld (pv 0) rfl) pa_nil))) (pa_cons (pv 1) pa_nil))))), ?_⟩
    have k1 := hS.many
    have l1 := hS.le
    have lb := backT_len e
    refine ⟨_, rfl, a, C, dx, _, _, rfl, ha, T.cl, T.nL, tf_last _ _, e, rfl, hS.re.1, by omega, ?_⟩
    refine ⟨_, rfl, _, rfl, a, C, dx, _, _, rfl, ha, T.cl, T.nP, tf_passed _ _, backT e, d, ks, A1, rfl, hd, back_rdc hS.re, hS.nd, fun s hs => ⟨hS.rd s ((hS.mem s).mp hs), hS.ln s ((hS.mem s).mp hs)⟩, by omega, by omega, fun d3 H1 nd3 s1 hd3 => ?_⟩
    refine ⟨_, rfl, d3, ks.map (gluT (backT e)), backT e, backS S e, A1 + A1, rfl, hd3, ⟨nodup_map_glu (back_rdc hS.re) (fun s hs => hS.rd s ((hS.mem s).mp hs)) hS.nd, fun s => ?_, ?_, ?_, back_rdc hS.re, by omega, by rw [List.length_map]; omega⟩, fun p2 H2 np2 s2 t2 => ?_⟩
    · rw [List.mem_map]
      constructor
      · rintro ⟨t, ht, rfl⟩
        exact ⟨t, (hS.mem t).mp ht, rfl⟩
      · rintro ⟨t, ht, rfl⟩
        exact ⟨t, (hS.mem t).mpr ht, rfl⟩
    · rintro s ⟨t, ht, rfl⟩
      exact glu_rdc (back_rdc hS.re) (hS.rd t ht)
    · rintro s ⟨t, ht, rfl⟩
      have := hS.ln t ht
      exact Nat.le_trans (gluT_len _ t) (by omega)
    · exact q p2 H2 (s1.free np2) (s1.trans s2) t2
end
end Sf
namespace Sf
open PySem PySem.Spec PyProof.Rows L2 TL
section
variable {P : Program} {w : World} {K : PySem.W.Frag} {mg : Str → Option Value} {base : Heap} {C : Addr}
def spEnd (C : Addr) : Sp := fun vs H Q _ => ∃ (a : Addr) (S : Str → Prop) (e : Str) (A : Nat), vs = [.ref a] ∧ Trk C H a S e A ∧ Q (.str e) H
theorem sc_end : FnScope ["self"] ["self"] (defScope s_Track_end) := ⟨rfl, rfl, rfl, by decide +kernel, rfl, by decide +kernel, by decide +kernel⟩
theorem has_end (F : MAt K C "end" "Track.end" s_Track_end ["self"]) (T : TC K mg C) : HasM P w K mg base C 1 "end" ["self"] (spEnd C) := F.has fun F => by
  refine F.ok sc_end (fun vs H Q E h => ?_) (fun cdv A outer s H vs Q E hr h => ?_)
  · obtain ⟨a, S, e, A, rfl, _⟩ := h
    rfl
  · obtain ⟨a, S, e, A1, rfl, ⟨dx, d, ks, ha, hd, hS⟩, q⟩ := h
    exact ⟨_, pss_one (ps_ret (pe_fld (pv 0) rfl)), _, rfl, a, C, dx, _, _, rfl, ha, T.cl, T.nL, tf_last _ _, q⟩
end
end Sf
namespace Sf
open PySem PySem.Spec PyProof.Rows L2 TL
section
variable {P : Program} {w : World} {K : PySem.W.Frag} {mg : Str → Option Value} {base : Heap} {C : Addr}
def spLen (C : Addr) : Sp := fun vs H Q _ => ∃ (a : Addr) (S : Str → Prop) (e : Str) (A : Nat), vs = [.ref a] ∧ Trk C H a S e A ∧ A ≤ 100000 ∧ ∀ ks : List Str, ks.Nodup → (∀ s, s ∈ ks ↔ S s) → ks.length ≤ A → Q (.int (ks.length : Int)) H
theorem sc_len : FnScope ["self"] ["self"] (defScope s_Track___len__) := ⟨rfl, rfl, rfl, by decide +kernel, rfl, by decide +kernel, by decide +kernel⟩
theorem has_len (F : MAt K C "__len__" "Track.__len__" s_Track___len__ ["self"]) (T : TC K mg C) (B : Blt mg) : HasM P w K mg base C 1 "__len__" ["self"] (spLen C) := F.has fun F => by
  refine F.ok sc_len (fun vs H Q E h => ?_) (fun cdv A outer s H vs Q E hr h => ?_)
  · obtain ⟨a, S, e, A, rfl, _⟩ := h
    rfl
  · obtain ⟨a, S, e, A1, rfl, ⟨dx, d, ks, ha, hd, hS⟩, hA, q⟩ := h
    refine ⟨_, pss_one (ps_ret (pe_callB call_lenD (by rfl) B.len PySem.boot_len (pa_cons (pe_fld (pv 0) rfl) pa_nil))), _, rfl, a, C, dx, _, _, rfl, ha, T.cl, T.nP, tf_passed _ _, d, _, rfl, hd, ?_⟩
    rw [dOf_len]
    exact q ks hS.nd hS.mem hS.many
end
end Sf
namespace Sf
open PySem PySem.Spec PyProof.Rows L2 TL
section
variable {P : Program} {w : World} {K : PySem.W.Frag} {mg : Str → Option Value} {base : Heap} {C : Addr}
def spEqT (C : Addr) : Sp := fun vs H Q _ => ∃ (a b : Addr) (S S' : Str → Prop) (e : Str) (A B : Nat), vs = [.ref a, .ref b] ∧ Trk C H a S e A ∧ Trk C H b S' e B ∧ (∀ s, S s ↔ S' s) ∧ Q (.bl true) H
theorem sc_eq : FnScope ["self", "other"] ["self", "other"] (defScope s_Track___eq__) := ⟨rfl, rfl, rfl, by decide +kernel, rfl, by decide +kernel, by decide +kernel⟩
theorem has_eq (F : MAt K C "__eq__" "Track.__eq__" s_Track___eq__ ["self", "other"]) (T : TC K mg C) (B : Blt mg) : HasM P w K mg base C 1 "__eq__" ["self", "other"] (spEqT C) := F.has fun F => by
  refine F.ok sc_eq (fun vs H Q E h => ?_) (fun cdv A outer s H vs Q E hr h => ?_)
  · obtain ⟨a, b, S, S', e, A, B, rfl, _⟩ := h
    rfl
  · obtain ⟨a, b, S, S', e, A1, B1, rfl, ⟨dx, d, ks, ha, hd, hS⟩, ⟨dy, d2, ms, hb, hd2, hS2⟩, hSS, q⟩ := h
    refine ⟨_, pss_one (ps_ret (pe_and (pe_callB call_isi (by rfl) B.isinstance (by decide +kernel) (pa_cons (pv 1) (pa_cons (pe_glob (v := .ref C) (by rfl) T.mgC rfl) pa_nil)))
      (pe_and (pe_cmpR (op_eq_dictA hr.units0) (pe_fld (pv 0) rfl) (pe_fld (pv 1) rfl) (nomark _)) (pe_one (pe_cmpR op_eq (pe_fld (pv 0) rfl) (pe_fld (pv 1) rfl) (nomark _)))))), ?_⟩
    have hsame : ∀ s, s ∈ ks ↔ s ∈ ms := fun s => (hS.mem s).trans ((hSS s).trans (hS2.mem s).symm)
    refine ⟨_, rfl, _, _, _, _, true, rfl, .own C, .base (.ins hb T.cl T.ha T.hn T.htk T.hm), kit_self, true, rfl, iteT ?_⟩
    refine ⟨_, rfl, a, C, dx, _, _, rfl, ha, T.cl, T.nP, tf_passed _ _, _, rfl, b, C, dy, _, _, rfl, hb, T.cl, T.nP, tf_passed _ _, d, d2, _, _, rfl, rfl, hd, hd2, by rw [dOf_len, dOf_len]; exact nodup_len hS.nd hS2.nd hsame, fun p hp => ?_, true, rfl, iteT ?_⟩
    · obtain ⟨s, hs, rfl⟩ := List.mem_map.mp hp
      exact ⟨val_dOf ((hsame s).mp hs), rfl⟩
    · refine ⟨_, rfl, a, C, dx, _, _, rfl, ha, T.cl, T.nL, tf_last _ _, _, rfl, b, C, dy, _, _, rfl, hb, T.cl, T.nL, tf_last _ _, rfl, ?_⟩
      rw [decide_eq_true rfl]
      exact q
end
end Sf
namespace Sf
open PySem PySem.Spec PyProof.Rows L2 TL
section
variable {P : Program} {w : World} {K : PySem.W.Frag} {mg : Str → Option Value} {base : Heap} {C : Addr}
def spWithin (C : Addr) : Sp := fun vs H Q _ => ∃ (a b : Addr) (S S' : Str → Prop) (e : Str) (A B : Nat), vs = [.ref a, .ref b] ∧ Trk C H a S e A ∧ Trk C H b S' e B ∧ B ≤ 50000 ∧ (∀ s, S' s → S s) ∧ ∀ H', Same H H' → Q (.bl true) H'
theorem sc_within : FnScope ["self", "other", "spot"] ["self", "other"] (defScope s_Track_within) := ⟨rfl, rfl, rfl, by decide +kernel, rfl, by decide +kernel, by decide +kernel⟩
theorem all_true2 (n : Nat) : (List.replicate n true).all id = true := all_true n
theorem has_within (F : MAt K C "within" "Track.within" s_Track_within ["self", "other"]) (T : TC K mg C) (B : Blt mg) : HasM P w K mg base C 1 "within" ["self", "other"] (spWithin C) := F.has fun F => by
  refine F.ok sc_within (fun vs H Q E h => ?_) (fun cdv A outer s H vs Q E hr h => ?_)
  · obtain ⟨a, b, S, S', e, A, B, rfl, _⟩ := h
    rfl
  · obtain ⟨a, b, S, S', e, A1, B1, rfl, ⟨dx, d, ks, ha, hd, hS⟩, ⟨dy, d2, ms, hb, hd2, hS2⟩, hB, hSS, q⟩ := h
    have k2 := hS2.many
    refine ⟨_, pss_one (ps_ret (pe_and (pe_cmpR op_eq (pe_fld (pv 0) rfl) (pe_fld (pv 1) rfl) (nomark _))
      (pe_one (pe_callB (cr_all rfl) (by rfl) B.all (by decide +kernel) (pa_cons (pe_lock (pe_lc (own := [("spot", 2)]) (g := gName 2) (tt := tYes) (by rfl) sc_within.nd (pi_keys (pe_fld (pv 1) rfl))
        (blkOk_by (own := [("spot", 2)]) (N := ["self", "other", "spot"]) (sc := defScope s_Track_within) (by decide +kernel)) (fun _ _ _ _ _ => pg_name (i := 2) sc_within.nd rfl (.inl rfl)) (fun _ _ _ _ _ => pts_nil)
        (te := tDIn (tVar 2) (tFld K (tVar 0) "passed")) (fun _ _ _ _ _ => by exact pe_cmp (pc_din (hu_of hr) (pv 2) (pe_fld (pv 0) rfl)) rfl))) pa_nil))))), ?_⟩
    refine ⟨_, rfl, a, C, dx, _, _, rfl, ha, T.cl, T.nL, tf_last _ _, _, rfl, b, C, dy, _, _, rfl, hb, T.cl, T.nL, tf_last _ _, rfl, _, rfl, ite2 (fun _ => ?_) (fun z => absurd (decide_eq_true rfl) z)⟩
    have nbd : b ≠ d2 := ne_of hb hd2 (by intro q; cases q)
    have nad : a ≠ d2 := ne_of ha hd2 (by intro q; cases q)
    refine ⟨d2, _, hd2, True.intro, fun od => ⟨_, rfl, b, C, dy, _, _, rfl, by rw [upd_ne nbd]; exact hb, T.cl, T.nP, tf_passed _ _, d2, od, rfl, .inl ⟨dOf ms, upd_same, fun D nD => ?_⟩⟩⟩
    have ndD : D ≠ d2 := fun z => by
      rw [z, upd_same] at nD
      cases nD
    have nD0 : H D = none := by
      rw [upd_ne ndD] at nD
      exact nD
    refine lc_gen (n := ms.length) (fun i H2 => (∀ a o, H a = some o → a ≠ d2 → H2 a = some o) ∧ H2 d2 = some (.frz od (.dK (dOf ms))) ∧ H2 D = some (.lst (List.replicate i (V.bl true)))) ⟨fun a o h1 h2 => ?_, ?_, upd_same⟩ ?_ ?_ ?_ ?_
    · rw [upd_ne (ne_of_none h1 nD0), upd_ne h2]
      exact h1
    · rw [upd_ne ndD.symm, upd_same]
    · rintro i H2 hi ⟨f2, h2, h3⟩
      exact ⟨h2, by rw [dOf_len]; exact hi⟩
    · rintro H2 ⟨f2, h2, h3⟩
      exact ⟨h2, by rw [dOf_len]; exact Nat.le_refl _⟩
    · rintro i v H2 H3 hi ⟨f2, h2, h3⟩ ⟨rfl, k, v', hk, rfl⟩
      have hks : ms[i]? = some ms[i] := List.getElem?_eq_getElem hi
      have ek : k = Sum.inr ms[i] := by
        unfold dOf at hk
        rw [List.getElem?_map, hks] at hk
        exact (Prod.mk.inj (Option.some.inj hk)).1.symm
      subst ek
      have hin : ms[i] ∈ ks := (hS.mem _).mpr (hSS _ ((hS2.mem _).mp (List.getElem_mem hi)))
      have hrd : DGet H3 d (kV (Sum.inr ms[i])) (valV (dOf ks) (Sum.inr ms[i])) := by
        by_cases hdd : d = d2
        · have e1 : dOf ms = dOf ks := by
            have h9 := hd2
            rw [← hdd, hd] at h9
            exact HO.dK.inj (Option.some.inj h9).symm
          refine .inl ⟨dOf ks, Sum.inr ms[i], .inr ⟨od, ?_⟩, rfl, rfl⟩
          rw [hdd, h2, e1]
        · exact .inl ⟨dOf ks, Sum.inr ms[i], .inl (f2 _ _ hd hdd), rfl, rfl⟩
      refine ⟨rfl, yes_if ?_⟩
      refine ⟨_, rfl, _, rfl, a, C, dx, _, _, rfl, f2 _ _ ha nad, T.cl, T.nP, tf_passed _ _, d, _, rfl, hrd, ?_⟩
      rw [val_dOf hin]
      refine ⟨_, h3, ?_, fun a o h1 hne => ?_, ?_, ?_⟩
      · rw [List.length_replicate]
        exact lineLt_of (by omega)
      · rw [upd_ne (ne_of_none h1 nD0)]
        exact f2 a o h1 hne
      · rw [upd_ne ndD.symm]
        exact h2
      · rw [upd_same, List.replicate_succ']
        rfl
    · rintro H2 ⟨f2, h2, h3⟩
      refine ⟨h2, D, List.replicate ms.length true, rfl, SqL.of (by rw [upd_ne ndD, h3, List.map_replicate]), ?_⟩
      rw [all_true]
      refine q _ fun a o h1 => ?_
      by_cases had : a = d2
      · rw [had, upd_same, ← hd2, ← had]
        exact h1
      · rw [upd_ne had]
        exact f2 a o h1 had
end
end Sf
namespace Sf
open PySem PySem.Spec PyProof.Rows L2 TL
def spLaw (K : PySem.W.Frag) : Sp := fun vs H Q _ => ∃ (a : Addr) (ns : List Int), vs = [.ref a] ∧ SqL K H a (ns.map V.int) ∧ ns.length ≤ 63 ∧ ∀ H', Q (.bl true) H'
section
variable {P : Program} {w : World} {K : PySem.W.Frag} {mg : Str → Option Value} {base : Heap} {C : Addr}
theorem sc_law : FnScope ["_law_script", "_law_bag", "_law_turn", "_law_x", "_law_y", "_law_one", "_law_other"] ["_law_script"] (defScope s_law) := ⟨rfl, rfl, rfl, by decide +kernel, rfl, by decide +kernel, by decide +kernel⟩
/-- a track of a word -/
structure G (S : Str → Prop) (e : Str) : Prop where
  rd : ∀ s, S s → Rdc s
  re : Rdc e
theorem Trk.g {H : Hp} {p : Addr} {S : Str → Prop} {e : Str} {B : Nat} : Trk C H p S e B → G S e
  | ⟨_, _, _, _, _, h⟩ => ⟨h.rd, h.re⟩
theorem one_S {S : Str → Prop} {e : Str} (g : G S e) : ∀ s, joinS S (backS S e) e s ↔ S s := fun s => by
  constructor
  · rintro (h | ⟨t, ⟨r, hr, rfl⟩, rfl⟩)
    · exact h
    · rw [glu_cancel2 g.re (g.rd r hr)]
      exact hr
  · exact .inl
theorem Trk.one {H : Hp} {p : Addr} {S : Str → Prop} {e : Str} {B : Nat} (g : G S e) (t : Trk C H p (joinS S (backS S e) e) (gluT e (backT e)) B) : Trk C H p S (Str.ofString "") B := t.cong (one_S g) (glu_back g.re)
theorem id_S {S T : Str → Prop} (h : ∀ s, T s → Rdc s) : ∀ s, joinS S T (Str.ofString "") s ↔ (S s ∨ T s) := fun s => by
  constructor
  · rintro (z | ⟨t, ht, rfl⟩)
    · exact .inl z
    · rw [nil_glu (h t ht)]
      exact .inr ht
  · rintro (z | z)
    · exact .inl z
    · exact .inr ⟨s, z, (nil_glu (h s z)).symm⟩
theorem back_S {S T : Str → Prop} {e f : Str} (g : G S e) (k : G T f) : ∀ s, backS (joinS S T e) (gluT e f) s ↔ joinS (backS T f) (backS S e) (backT f) s := fun s => by
  have hb := back_of_glu g.re k.re
  constructor
  · rintro ⟨t, h | ⟨r, hr, rfl⟩, rfl⟩
    · refine .inr ⟨gluT (backT e) t, ⟨t, h, rfl⟩, ?_⟩
      rw [hb, glu_assoc (back_rdc k.re) (back_rdc g.re) (g.rd t h)]
    · refine .inl ⟨r, hr, ?_⟩
      rw [hb, glu_assoc (back_rdc k.re) (back_rdc g.re) (glu_rdc g.re (k.rd r hr)), glu_cancel g.re (k.rd r hr)]
  · rintro (⟨r, hr, rfl⟩ | ⟨t, ⟨r, hr, rfl⟩, rfl⟩)
    · refine ⟨gluT e r, .inr ⟨r, hr, rfl⟩, ?_⟩
      rw [hb, glu_assoc (back_rdc k.re) (back_rdc g.re) (glu_rdc g.re (k.rd r hr)), glu_cancel g.re (k.rd r hr)]
    · refine ⟨r, .inl hr, ?_⟩
      rw [hb, glu_assoc (back_rdc k.re) (back_rdc g.re) (g.rd r hr)]
theorem assoc_S {S T U : Str → Prop} {e f : Str} (g : G S e) (k : G T f) (hU : ∀ s, U s → Rdc s) : ∀ s, joinS (joinS S T e) U (gluT e f) s ↔ joinS S (joinS T U f) e s := fun s => by
  constructor
  · rintro ((h | ⟨t, ht, rfl⟩) | ⟨t, ht, rfl⟩)
    · exact .inl h
    · exact .inr ⟨t, .inl ht, rfl⟩
    · exact .inr ⟨gluT f t, .inr ⟨t, ht, rfl⟩, glu_assoc g.re k.re (hU t ht)⟩
  · rintro (h | ⟨t, ht | ⟨r, hr, rfl⟩, rfl⟩)
    · exact .inl (.inl h)
    · exact .inl (.inr ⟨t, ht, rfl⟩)
    · exact .inr ⟨r, hr, (glu_assoc g.re k.re (hU r hr)).symm⟩
theorem ok_law {f : Addr} {fd : FuncData} (F : Fun K "law" "law" s_law f fd) (B : Blt mg) (T : TC K mg C) (mk : PySem.W.makesIn K C = true) (kc : PySem.W.keepIn K (.ref C) = true)
    (hBe : HasBegin P w K mg base) (hA : HasAny P w K mg base) (hS0 : HasSame P w K mg base 0)
    (hI : HasM P w K mg base C 3 "__init__" ["self", "word"] (spInit C)) (hJ : HasM P w K mg base C 6 "joined" ["self", "other"] (spJoined C)) (hBk : HasM P w K mg base C 6 "back" ["self"] (spBackM C))
    (hEn : HasM P w K mg base C 1 "end" ["self"] (spEnd C)) (hLn : HasM P w K mg base C 1 "__len__" ["self"] (spLen C)) (hEq : HasM P w K mg base C 1 "__eq__" ["self", "other"] (spEqT C)) (hWi : HasM P w K mg base C 1 "within" ["self", "other"] (spWithin C)) :
    FnOk P w K mg base CX0 8 f fd ["_law_script"] (spLaw K) := by
  obtain ⟨fB, fdB, gB, kB, bB, GB⟩ := hBe
  obtain ⟨fA, fdA, gA, kA, bA, GA⟩ := hA
  obtain ⟨fS, fdS, gS, kS, bS, GS⟩ := hS0
  obtain ⟨fI, fdI, mI, bI, GI⟩ := hI
  obtain ⟨fJ, fdJ, mJ, bJ, GJ⟩ := hJ
  obtain ⟨fK, fdK, mK, bK, GK⟩ := hBk
  obtain ⟨fN, fdN, mN, bN, GN⟩ := hEn
  obtain ⟨fL, fdL, mL, bL, GL⟩ := hLn
  obtain ⟨fE, fdE, mE, bE, GE⟩ := hEq
  obtain ⟨fW, fdW, mW, bW, GW⟩ := hWi
  have MI : Mk K C fI := ⟨mk, mI.at_, mI.fn, kc⟩
  refine F.ok sc_law (fun vs H Q E h => ?_) (fun cdv A outer s H vs Q E hr h => ?_)
  · obtain ⟨a, ns, rfl, _⟩ := h
    rfl
  · obtain ⟨a, ns, rfl, hS, hlen, q⟩ := h
    have hr1 : Room 1 _ := hr.mono (by decide)
    have hr2 : Room 2 _ := hr.mono (by decide)
    have hr4 : Room 4 _ := hr.mono (by decide)
    have hr6 : Room 6 _ := hr.mono (by decide)
    refine Tl.start (Tl.cons (fun σ' H' => ∃ b, σ' = [some (.ref a), some (.ref b), none, none, none, none, none] ∧ Bag H' b) ⟨_, ps_set (i := 1) sc_law.nd rfl (.inl rfl) (pe_call GB hr1 (by rfl) gB kB bB .nil pass0 (pa_cons (pv 0) pa_nil)), ?_⟩ (Tl.cons (fun _ _ => True)
      (Stp.rng (k := 2) (fun _ n i σ' H' => ∃ (b : Addr) (y2 y3 y4 y5 y6 : Option V), σ' = [some (.ref a), some (.ref b), y2, y3, y4, y5, y6] ∧ Bag H' b) PassesOwn.never rfl (pi_range1 rfl B.range (pa_cons pe_int pa_nil)) (pg_name (i := 2) sc_law.nd rfl (.inl rfl)) ?_ ?_ (fun _ _ _ _ _ => trivial)) ?_))
    · rintro _ D σ H0 ⟨rfl, rfl⟩ k
      exact ⟨_, rfl, a, ns, rfl, hS, fun b H1 nb B1 s1 => k _ _ ⟨b, rfl, B1⟩⟩
    · rintro _ σ H1 R ⟨b, rfl, B1⟩ k
      exact ⟨4, rfl, by decide, by decide, k _ _ ⟨b, none, none, none, none, none, rfl, B1⟩⟩
    · -- x, y
      refine Blk.cons (fun _ σ' H' => ∃ (b x y : Addr) (y2 y5 y6 : Option V) (S T : Str → Prop) (e g : Str), σ' = [some (.ref a), some (.ref b), y2, some (.ref x), some (.ref y), y5, y6] ∧ Bag H' b ∧ Trk C H' x S e 61 ∧ Trk C H' y T g 61)
        ⟨_, ps_par (i := 3) (j := 4) (by rfl) sc_law.nd rfl rfl (by decide) rfl rfl (pa_cons (pe_make MI GI hr4 (by rfl) T.mgC bI .nil pass0 (pa_cons (pe_call GA hr4 (by rfl) gA kA bA .nil pass0 (pa_cons (pv 1) (pa_cons pe_int pa_nil))) pa_nil)) (pa_cons (pe_make MI GI hr4 (by rfl) T.mgC bI .nil pass0 (pa_cons (pe_call GA hr4 (by rfl) gA kA bA .nil pass0 (pa_cons (pv 1) (pa_cons pe_int pa_nil))) pa_nil)) pa_nil)) (by rfl), ?_⟩ ?_
      · rintro ⟨n, i⟩ D σ H3 ⟨hi, σ0, ⟨b, y2, y3, y4, y5, y6, rfl, B3⟩, rfl⟩ k
        refine ⟨_, rfl, b, 10, rfl, B3, by decide, by decide, fun x H5 hx hl B5 f5 => ?_⟩
        have hl' : x.length ≤ 10 := hl
        intro p dx np ndx nex
        refine ⟨p, dx, x, rfl, upd_same, hx, by omega, fun H6 t6 k6 => ⟨rfl, ?_⟩⟩
        have s6 : Same H5 H6 := Same.made np ndx k6
        refine ⟨_, rfl, b, 10, rfl, B5.same s6, by decide, by decide, fun x2 H7 hx2 hl2 B7 f7 => ?_⟩
        have hl2' : x2.length ≤ 10 := hl2
        intro p2 dx2 np2 ndx2 nex2
        refine ⟨p2, dx2, x2, rfl, upd_same, hx2, by omega, fun H8 t8 k8 => ⟨rfl, ?_⟩⟩
        have s8 : Same H7 H8 := Same.made np2 ndx2 k8
        exact ⟨_, _, rfl, k _ _ ⟨b, p, p2, _, _, _, _, _, _, _, rfl, B7.same s8, (t6.fx (B5.same s6) f7).same s8, t8⟩⟩
      -- one, other
      refine Blk.cons (fun _ σ' H' => ∃ (b x y o r : Addr) (y2 : Option V) (S T : Str → Prop) (e g : Str), σ' = [some (.ref a), some (.ref b), y2, some (.ref x), some (.ref y), some (.ref o), some (.ref r)] ∧ Bag H' b ∧ Trk C H' x S e 61 ∧ Trk C H' y T g 61 ∧ Trk C H' o S (Str.ofString "") 183 ∧ Trk C H' r T (Str.ofString "") 183)
        ⟨_, ps_par (i := 5) (j := 6) (by rfl) sc_law.nd rfl rfl (by decide) rfl rfl (pa_cons (pe_meth (pv 3) T.cl mJ GJ hr6 bJ .nil pass0 (pa_cons (pe_meth0 (pv 3) T.cl mK GK hr6 bK .nil pass0) pa_nil)) (pa_cons (pe_meth (pv 4) T.cl mJ GJ hr6 bJ .nil pass0 (pa_cons (pe_meth0 (pv 4) T.cl mK GK hr6 bK .nil pass0) pa_nil)) pa_nil)) (by rfl), ?_⟩ ?_
      · rintro _ D σ H3 ⟨b, x, y, y2, y5, y6, S, T', e, g, rfl, B3, tx, ty⟩ k
        obtain ⟨dx, d, ks, hx, _⟩ := id tx
        refine ⟨_, rfl, x, dx, _, rfl, hx, tf_no _ _ (by decide +kernel) (by decide +kernel), _, rfl, x, dx, _, rfl, hx, tf_no _ _ (by decide +kernel) (by decide +kernel), x, S, e, 61, rfl, tx, by decide, fun p H4 np s4 t4 => ?_⟩
        refine ⟨x, p, S, _, e, _, 61, _, rfl, tx.same s4, t4, by decide, fun o H5 no s5 t5 => ?_⟩
        have s35 := s4.trans s5
        obtain ⟨dy, d2, ms, hy, _⟩ := id (ty.same s35)
        refine ⟨_, rfl, y, dy, _, rfl, hy, tf_no _ _ (by decide +kernel) (by decide +kernel), _, rfl, y, dy, _, rfl, hy, tf_no _ _ (by decide +kernel) (by decide +kernel), y, T', g, 61, rfl, ty.same s35, by decide, fun p2 H6 np2 s6 t6 => ?_⟩
        refine ⟨y, p2, T', _, g, _, 61, _, rfl, (ty.same s35).same s6, t6, by decide, fun r H7 nr s7 t7 => ?_⟩
        have s37 := (s35.trans s6).trans s7
        exact ⟨_, _, rfl, k _ _ ⟨b, x, y, o, r, _, S, T', e, g, rfl, B3.same s37, tx.same s37, ty.same s37, ((t5.one tx.g).same s6).same s7, t7.one ty.g⟩⟩
      -- the first test
      refine Blk.cons (fun _ σ' H' => ∃ (b x y o r : Addr) (y2 : Option V) (S T : Str → Prop) (e g : Str), σ' = [some (.ref a), some (.ref b), y2, some (.ref x), some (.ref y), some (.ref o), some (.ref r)] ∧ Bag H' b ∧ Trk C H' x S e 61 ∧ Trk C H' y T g 61 ∧ Trk C H' o S (Str.ofString "") 183 ∧ Trk C H' r T (Str.ofString "") 183)
        ⟨_, ps_if (PW.pt (pw_or (pt_cmpR (op_neOwn (C := C) GE mE.at_ mE.fn bE T.ne T.hm hr2) (pe_meth (pv 5) T.cl mJ GJ hr6 bJ .nil pass0 (pa_cons (pv 3) pa_nil)) (pv 3) (nomark _)) (pw_or (pt_cmpR (op_neOwn (C := C) GE mE.at_ mE.fn bE T.ne T.hm hr2) (pe_meth (pv 5) T.cl mJ GJ hr6 bJ .nil pass0 (pa_cons (pv 6) pa_nil)) (pe_meth (pv 6) T.cl mJ GJ hr6 bJ .nil pass0 (pa_cons (pv 5) pa_nil)) (nomark _))
            (pw_or1 (pt_cmpR (op_neOwn (C := C) GE mE.at_ mE.fn bE T.ne T.hm hr2) (pe_meth (pv 5) T.cl mJ GJ hr6 bJ .nil pass0 (pa_cons (pv 5) pa_nil)) (pv 5) (nomark _)))))) pss_never pss_nil, ?_⟩ ?_
      · rintro _ D σ H3 ⟨b, x, y, o, r, y2, S, T', e, g, rfl, B3, tx, ty, to, tr⟩ k
        obtain ⟨do1, do2, kso, ho, _⟩ := id to
        refine ⟨_, rfl, o, do1, _, rfl, ho, tf_no _ _ (by decide +kernel) (by decide +kernel), _, rfl, o, x, S, S, _, e, 183, 61, rfl, to, tx, by decide, fun p H4 np s4 t4 => ?_⟩
        have t4' : Trk C H4 p S e 244 := t4.cong (fun s => (id_S tx.g.rd s).trans (or_self_iff)) (nil_glu tx.g.re)
        have tx4 := tx.same s4
        obtain ⟨dp1, dp2, ksp, hp, _⟩ := id t4'
        obtain ⟨dx1, dx2, ksx, hx, _⟩ := id tx4
        refine ⟨_, rfl, p, x, dp1, dx1, _, _, rfl, rfl, hp, hx, ⟨p, x, S, S, e, 244, 61, rfl, t4', tx4, fun _ => Iff.rfl, true, rfl, _, rfl, iteF ?_⟩⟩
        have to4 := to.same s4
        have tr4 := tr.same s4
        obtain ⟨do3, do4, kso', ho4, _⟩ := id to4
        refine ⟨_, rfl, o, do3, _, rfl, ho4, tf_no _ _ (by decide +kernel) (by decide +kernel), _, rfl, o, r, S, T', _, _, 183, 183, rfl, to4, tr4, by decide, fun p5 H5 np5 s5 t5 => ?_⟩
        have to5 := to4.same s5
        have tr5 := tr4.same s5
        obtain ⟨dr3, dr4, ksr, hr5, _⟩ := id tr5
        refine ⟨_, rfl, r, dr3, _, rfl, hr5, tf_no _ _ (by decide +kernel) (by decide +kernel), _, rfl, r, o, T', S, _, _, 183, 183, rfl, tr5, to5, by decide, fun p6 H6 np6 s6 t6 => ?_⟩
        have t5' : Trk C H6 p5 (fun s => S s ∨ T' s) (Str.ofString "") 366 := (t5.cong (fun s => id_S ty.g.rd s) glu_nil).same s6
        have t6' : Trk C H6 p6 (fun s => S s ∨ T' s) (Str.ofString "") 366 := t6.cong (fun s => (id_S tx.g.rd s).trans or_comm) glu_nil
        obtain ⟨d51, d52, k51, h51, _⟩ := id t5'
        obtain ⟨d61, d62, k61, h61, _⟩ := id t6'
        refine ⟨p5, p6, d51, d61, _, _, rfl, rfl, h51, h61, ⟨p5, p6, _, _, _, 366, 366, rfl, t5', t6', fun _ => Iff.rfl, true, rfl, _, rfl, iteF ?_⟩⟩
        have to6 := to5.same s6
        obtain ⟨do5, do6, kso6, ho6, _⟩ := id to6
        refine ⟨_, rfl, o, do5, _, rfl, ho6, tf_no _ _ (by decide +kernel) (by decide +kernel), _, rfl, o, o, S, S, _, _, 183, 183, rfl, to6, to6, by decide, fun p7 H7 np7 s7 t7 => ?_⟩
        have t7' : Trk C H7 p7 S (Str.ofString "") 366 := t7.cong (fun s => (id_S tx.g.rd s).trans (or_self_iff)) glu_nil
        have to7 := to6.same s7
        obtain ⟨d71, d72, k71, h71, _⟩ := id t7'
        obtain ⟨d73, d74, k73, h73, _⟩ := id to7
        have s37 := ((s4.trans s5).trans s6).trans s7
        refine ⟨_, rfl, p7, o, d71, d73, _, _, rfl, rfl, h71, h73, ⟨p7, o, _, _, _, 366, 183, rfl, t7', to7, fun _ => Iff.rfl, true, rfl, _, rfl, iteF (k _ _ ⟨b, x, y, o, r, _, S, T', e, g, rfl, B3.same s37, tx.same s37, ty.same s37, to.same s37, tr.same s37⟩)⟩⟩
      -- the second test
      refine Blk.cons (fun _ σ' H' => ∃ (b x y o r : Addr) (y2 : Option V) (S T : Str → Prop) (e g : Str), σ' = [some (.ref a), some (.ref b), y2, some (.ref x), some (.ref y), some (.ref o), some (.ref r)] ∧ Bag H' b ∧ Trk C H' x S e 61 ∧ Trk C H' y T g 61 ∧ Trk C H' o S (Str.ofString "") 183 ∧ Trk C H' r T (Str.ofString "") 183)
        ⟨_, ps_if (PW.pt (pw_or (pt_cmpR (op_neOwn (C := C) GE mE.at_ mE.fn bE T.ne T.hm hr2) (pe_meth0 (pe_meth (pv 3) T.cl mJ GJ hr6 bJ .nil pass0 (pa_cons (pv 4) pa_nil)) T.cl mK GK hr6 bK .nil pass0) (pe_meth (pe_meth0 (pv 4) T.cl mK GK hr6 bK .nil pass0) T.cl mJ GJ hr6 bJ .nil pass0 (pa_cons (pe_meth0 (pv 3) T.cl mK GK hr6 bK .nil pass0) pa_nil)) (nomark _))
            (pw_or1 (pt_not (pt_val (pe_call GS hr1 (by rfl) gS kS bS .nil pass0 (pa_cons (pe_meth0 (pv 5) T.cl mN GN hr1 bN .nil pass0) (pa_cons pe_str pa_nil)))))))) pss_never pss_nil, ?_⟩ ?_
      · rintro _ D σ H3 ⟨b, x, y, o, r, y2, S, T', e, g, rfl, B3, tx, ty, to, tr⟩ k
        obtain ⟨dx1, dx2, ksx, hx, _⟩ := id tx
        refine ⟨_, rfl, x, dx1, _, rfl, hx, tf_no _ _ (by decide +kernel) (by decide +kernel), _, rfl, x, y, S, T', _, _, 61, 61, rfl, tx, ty, by decide, fun p4 H4 np4 s4 t4 => ?_⟩
        obtain ⟨d41, d42, k41, h41, _⟩ := id t4
        refine ⟨p4, d41, _, rfl, h41, tf_no _ _ (by decide +kernel) (by decide +kernel), p4, _, _, 122, rfl, t4, by decide, fun p5 H5 np5 s5 t5 => ?_⟩
        have s35 := s4.trans s5
        have ty5 := ty.same s35
        have tx5 := tx.same s35
        obtain ⟨dy1, dy2, ksy, hy, _⟩ := id ty5
        refine ⟨_, rfl, y, dy1, _, rfl, hy, tf_no _ _ (by decide +kernel) (by decide +kernel), y, T', g, 61, rfl, ty5, by decide, fun p6 H6 np6 s6 t6 => ?_⟩
        obtain ⟨d61, d62, k61, h61, _⟩ := id t6
        have tx6 := tx5.same s6
        obtain ⟨dx3, dx4, ksx6, hx6, _⟩ := id tx6
        refine ⟨p6, d61, _, rfl, h61, tf_no _ _ (by decide +kernel) (by decide +kernel), _, rfl, x, dx3, _, rfl, hx6, tf_no _ _ (by decide +kernel) (by decide +kernel), x, S, e, 61, rfl, tx6, by decide, fun p7 H7 np7 s7 t7 => ?_⟩
        refine ⟨p6, p7, _, _, _, _, 122, 122, rfl, t6.same s7, t7, by decide, fun p8 H8 np8 s8 t8 => ?_⟩
        have t5' := ((t5.same s6).same s7).same s8
        have t8' : Trk C H8 p8 (backS (joinS S T' e) (gluT e g)) (backT (gluT e g)) 244 := t8.cong (fun s => (back_S tx.g ty.g s).symm) (back_of_glu tx.g.re ty.g.re).symm
        obtain ⟨d51, d52, k51, h51, _⟩ := id t5'
        obtain ⟨d81, d82, k81, h81, _⟩ := id t8'
        refine ⟨p5, p8, d51, d81, _, _, rfl, rfl, h51, h81, ⟨p5, p8, _, _, _, 244, 244, rfl, t5', t8', fun _ => Iff.rfl, true, rfl, _, rfl, iteF ?_⟩⟩
        have s38 := ((s35.trans s6).trans s7).trans s8
        have to8 := to.same s38
        obtain ⟨do1, do2, kso, ho, _⟩ := id to8
        refine ⟨_, rfl, o, do1, _, rfl, ho, tf_no _ _ (by decide +kernel) (by decide +kernel), o, S, _, 183, rfl, to8, _, _, rfl, ⟨rfl, rfl⟩, fun H9 s9 => ⟨_, rfl, iteF (k _ _ ⟨b, x, y, o, r, _, S, T', e, g, rfl, (B3.same s38).same s9, (tx.same s38).same s9, (ty.same s38).same s9, to8.same s9, (tr.same s38).same s9⟩)⟩⟩
      -- the third test
      refine Blk.cons (fun _ σ' H' => ∃ (b x y o r : Addr) (y2 : Option V) (S T : Str → Prop) (e g : Str), σ' = [some (.ref a), some (.ref b), y2, some (.ref x), some (.ref y), some (.ref o), some (.ref r)] ∧ Bag H' b ∧ Trk C H' x S e 61 ∧ Trk C H' y T g 61 ∧ Trk C H' o S (Str.ofString "") 183 ∧ Trk C H' r T (Str.ofString "") 183)
        ⟨_, ps_if (PW.pt (pw_or (pt_not (pt_val (pe_meth (pe_meth (pv 5) T.cl mJ GJ hr6 bJ .nil pass0 (pa_cons (pv 6) pa_nil)) T.cl mW GW hr1 bW .nil pass0 (pa_cons (pv 5) pa_nil))))
            (pw_or1 (pt_not (pt_val (pe_call GS hr1 (by rfl) gS kS bS .nil pass0 (pa_cons (pe_callB (call_lenOwn (C := C) GL mL.at_ mL.fn bL hr2) (by rfl) B.len PySem.boot_len (pa_cons (pv 5) pa_nil)) (pa_cons (pe_callB (call_lenOwn (C := C) GL mL.at_ mL.fn bL hr2) (by rfl) B.len PySem.boot_len (pa_cons (pv 3) pa_nil)) pa_nil)))))))) pss_never pss_nil, ?_⟩ ?_
      · rintro _ D σ H3 ⟨b, x, y, o, r, y2, S, T', e, g, rfl, B3, tx, ty, to, tr⟩ k
        obtain ⟨do1, do2, kso, ho, _⟩ := id to
        refine ⟨_, rfl, o, do1, _, rfl, ho, tf_no _ _ (by decide +kernel) (by decide +kernel), _, rfl, o, r, S, T', _, _, 183, 183, rfl, to, tr, by decide, fun p4 H4 np4 s4 t4 => ?_⟩
        have t4' : Trk C H4 p4 (fun s => S s ∨ T' s) (Str.ofString "") 366 := t4.cong (fun s => id_S ty.g.rd s) glu_nil
        obtain ⟨d41, d42, k41, h41, _⟩ := id t4'
        refine ⟨p4, d41, _, rfl, h41, tf_no _ _ (by decide +kernel) (by decide +kernel), _, rfl, p4, o, _, _, _, 366, 183, rfl, t4', to.same s4, by decide, fun s hs => .inl hs, fun H5 s5 => ⟨_, rfl, iteF ?_⟩⟩
        have s35 := s4.trans s5
        have to5 := to.same s35
        have tx5 := tx.same s35
        obtain ⟨do3, do4, kso5, ho5, _⟩ := id to5
        obtain ⟨dx3, dx4, ksx5, hx5, _⟩ := id tx5
        refine ⟨_, rfl, o, do3, _, rfl, ho5, ⟨o, S, _, 183, rfl, to5, by decide, fun k1 n1 m1 l1 => ⟨_, rfl, line_of (by omega), ?_⟩⟩⟩
        refine ⟨_, rfl, x, dx3, _, rfl, hx5, ⟨x, S, _, 61, rfl, tx5, by decide, fun k2 n2 m2 l2 => ⟨_, rfl, line_of (by omega), ?_⟩⟩⟩
        have ekk : k1.length = k2.length := nodup_len n1 n2 fun s => (m1 s).trans (m2 s).symm
        exact ⟨_, _, rfl, ⟨rfl, by rw [ekk]⟩, fun H6 s6 => ⟨_, rfl, iteF (k _ _ ⟨b, x, y, o, r, _, S, T', e, g, rfl, (B3.same s35).same s6, tx5.same s6, (ty.same s35).same s6, to5.same s6, (tr.same s35).same s6⟩)⟩⟩
      -- the fourth test
      refine Blk.one ⟨_, ps_if (PW.pt (pw_or (pt_cmpR (op_neOwn (C := C) GE mE.at_ mE.fn bE T.ne T.hm hr2) (pe_meth (pe_meth (pv 3) T.cl mJ GJ hr6 bJ .nil pass0 (pa_cons (pv 4) pa_nil)) T.cl mJ GJ hr6 bJ .nil pass0 (pa_cons (pv 3) pa_nil)) (pe_meth (pv 3) T.cl mJ GJ hr6 bJ .nil pass0 (pa_cons (pe_meth (pv 4) T.cl mJ GJ hr6 bJ .nil pass0 (pa_cons (pv 3) pa_nil)) pa_nil)) (nomark _))
            (pw_or1 (pt_not (pt_val (pe_call GS hr1 (by rfl) gS kS bS .nil pass0 (pa_cons (pe_callB (call_lenOwn (C := C) GL mL.at_ mL.fn bL hr2) (by rfl) B.len PySem.boot_len (pa_cons (pe_meth0 (pv 3) T.cl mK GK hr6 bK .nil pass0) pa_nil)) (pa_cons (pe_callB (call_lenOwn (C := C) GL mL.at_ mL.fn bL hr2) (by rfl) B.len PySem.boot_len (pa_cons (pv 3) pa_nil)) pa_nil)))))))) pss_never pss_nil, ?_⟩
      rintro _ D σ H3 ⟨b, x, y, o, r, y2, S, T', e, g, rfl, B3, tx, ty, to, tr⟩ k
      obtain ⟨dx1, dx2, ksx, hx, _⟩ := id tx
      refine ⟨_, rfl, x, dx1, _, rfl, hx, tf_no _ _ (by decide +kernel) (by decide +kernel), _, rfl, x, y, S, T', _, _, 61, 61, rfl, tx, ty, by decide, fun p4 H4 np4 s4 t4 => ?_⟩
      obtain ⟨d41, d42, k41, h41, _⟩ := id t4
      have tx4 := tx.same s4
      refine ⟨p4, d41, _, rfl, h41, tf_no _ _ (by decide +kernel) (by decide +kernel), _, rfl, p4, x, _, S, _, e, 122, 61, rfl, t4, tx4, by decide, fun p5 H5 np5 s5 t5 => ?_⟩
      have tx5 := tx4.same s5
      have ty5 := (ty.same s4).same s5
      obtain ⟨dx3, dx4, ksx5, hx5, _⟩ := id tx5
      obtain ⟨dy3, dy4, ksy5, hy5, _⟩ := id ty5
      refine ⟨_, rfl, x, dx3, _, rfl, hx5, tf_no _ _ (by decide +kernel) (by decide +kernel), _, rfl, y, dy3, _, rfl, hy5, tf_no _ _ (by decide +kernel) (by decide +kernel), _, rfl, y, x, T', S, _, _, 61, 61, rfl, ty5, tx5, by decide, fun p6 H6 np6 s6 t6 => ?_⟩
      refine ⟨x, p6, S, _, e, _, 61, 122, rfl, tx5.same s6, t6, by decide, fun p7 H7 np7 s7 t7 => ?_⟩
      have t5' := (t5.same s6).same s7
      have t7' : Trk C H7 p7 (joinS (joinS S T' e) S (gluT e g)) (gluT (gluT e g) e) 183 := t7.cong (fun s => (assoc_S tx.g ty.g tx.g.rd s).symm) (glu_assoc tx.g.re ty.g.re tx.g.re).symm
      obtain ⟨d51, d52, k51, h51, _⟩ := id t5'
      obtain ⟨d71, d72, k71, h71, _⟩ := id t7'
      refine ⟨p5, p7, d51, d71, _, _, rfl, rfl, h51, h71, ⟨p5, p7, _, _, _, 183, 183, rfl, t5', t7', fun _ => Iff.rfl, true, rfl, _, rfl, iteF ?_⟩⟩
      have s37 := ((s4.trans s5).trans s6).trans s7
      have tx7 := tx.same s37
      obtain ⟨dx5, dx6, ksx7, hx7, _⟩ := id tx7
      refine ⟨_, rfl, x, dx5, _, rfl, hx7, tf_no _ _ (by decide +kernel) (by decide +kernel), x, S, e, 61, rfl, tx7, by decide, fun p8 H8 np8 s8 t8 => ?_⟩
      obtain ⟨d81, d82, k81, h81, _⟩ := id t8
      refine ⟨p8, d81, _, rfl, h81, ⟨p8, _, _, 122, rfl, t8, by decide, fun k1 n1 m1 l1 => ⟨_, rfl, line_of (by omega), ?_⟩⟩⟩
      have tx8 := tx7.same s8
      obtain ⟨dx7, dx8, ksx8, hx8, _⟩ := id tx8
      refine ⟨_, rfl, x, dx7, _, rfl, hx8, ⟨x, S, _, 61, rfl, tx8, by decide, fun k2 n2 m2 l2 => ⟨_, rfl, line_of (by omega), ?_⟩⟩⟩
      have hmap : ∀ s, s ∈ k2.map (gluT (backT e)) ↔ s ∈ k1 := fun s => by
        rw [m1, List.mem_map]
        constructor
        · rintro ⟨t, ht, rfl⟩
          exact ⟨t, (m2 t).mp ht, rfl⟩
        · rintro ⟨t, ht, rfl⟩
          exact ⟨t, (m2 t).mpr ht, rfl⟩
      have ekk : k1.length = k2.length := by
        have h9 := nodup_len (nodup_map_glu (back_rdc tx.g.re) (fun s hs => tx.g.rd s ((m2 s).mp hs)) n2) n1 hmap
        rw [List.length_map] at h9
        exact h9.symm
      have s38 := s37.trans s8
      exact ⟨_, _, rfl, ⟨rfl, by rw [ekk]⟩, fun H9 s9 => ⟨_, rfl, iteF (k _ _ ⟨b, _, _, _, _, _, rfl, (B3.same s38).same s9⟩)⟩⟩
    · exact ⟨_, pss_one (ps_ret pe_bl), fun σ H3 _ => q H3⟩
end
end Sf
namespace Sf
open PySem PySem.Spec PyProof.Rows L2 TL
theorem all_mk {P : Program} {w : World} {K : PySem.W.Frag} {h : Heap} {mg : Str → Option Value} {fa f : Addr} (X : K.In h) (G : h.Ns mainGlobals mg) (hfa : mg "law" = some (.ref fa))
    {od an : Option Addr} {sl : Array (Option Value)} {oc kV dc pm cd ct : Value}
    (aL : PySem.W.nsIn K mainGlobals "law" = some (some (.ref f))) (lL : K.lookup f = some ⟨oc, od, .func (PySem.W.fnOf "law" "law" (defArgs s_law) (defBody s_law) (defScope s_law) .none kV dc pm an cd ct), sl⟩) (cL : PySem.W.codeIn K cd "law" = true) (kL : PySem.W.keepIn K (.ref f) = true)
    (F_law_begin : FnAt K mg "_law_begin" s__law_begin ["_law_script"])
    (F_law_pull : FnAt K mg "_law_pull" s__law_pull ["_law_bag", "_law_many"])
    (F_law_flip : FnAt K mg "_law_flip" s__law_flip ["_law_sign_here"])
    (F_law_sign : FnAt K mg "_law_sign" s__law_sign ["_law_bag", "_law_many"])
    (F_law_word : FnAt K mg "_law_word" s__law_word ["_law_bag", "_law_upto", "_law_many"])
    (F_law_any_word : FnAt K mg "_law_any_word" s__law_any_word ["_law_bag", "_law_upto"])
    (F_law_same : FnAt K mg "_law_same" s__law_same ["_law_found", "_law_due"])
    (Fis_word : FnAt K mg "is_word" s_is_word ["text"])
    (Fneed_word : FnAt K mg "need_word" s_need_word ["text"])
    (Fglued : FnAt K mg "glued" s_glued ["one", "other"])
    (Fturned : FnAt K mg "turned" s_turned ["word"])
    (Fmoved : FnAt K mg "moved" s_moved ["start", "spots"])
    (Ftrack_of : FnAt K mg "track_of" s_track_of ["spots", "last"])
    (B : Blt mg) {t_MOST_WORD : Tok} (CMOST_WORD : mg "MOST_WORD" = some (.int 60 t_MOST_WORD)) {t_SIGNS : Tok} (CSIGNS : mg "SIGNS" = some (.str (Str.ofString "aAbBcCdDeEfFgGhH") t_SIGNS)) {C : Addr} (T : TC K mg C) (mk : PySem.W.makesIn K C = true) (kc : PySem.W.keepIn K (.ref C) = true)
    (M__init__ : MAt K C "__init__" "Track.__init__" s_Track___init__ ["self", "word"])
    (Mjoined : MAt K C "joined" "Track.joined" s_Track_joined ["self", "other"])
    (Mback : MAt K C "back" "Track.back" s_Track_back ["self"])
    (Mend : MAt K C "end" "Track.end" s_Track_end ["self"])
    (M__len__ : MAt K C "__len__" "Track.__len__" s_Track___len__ ["self"])
    (M__eq__ : MAt K C "__eq__" "Track.__eq__" s_Track___eq__ ["self", "other"])
    (Mwithin : MAt K C "within" "Track.within" s_Track_within ["self", "other"]) :
    ∃ fd : FuncData, (∀ (s : Shared) (v : Value), BindsTo s fd ⟨[v], []⟩ [("_law_script", v)]) ∧ ∀ base : Heap, K.In base → base.Ns mainGlobals mg → FnOk P w K mg base CX0 8 fa fd ["_law_script"] (spLaw K) := by
  have e := hfa.symm.trans (PySem.W.mg_of X G aL)
  cases e
  have FL := fun_mk (st := s_law) lL cL kL
  refine ⟨PySem.W.fnOf "law" "law" (defArgs s_law) (defBody s_law) (defScope s_law) .none kV dc pm an cd ct, fun s v => .of_eq rfl, fun base _ _ => ?_⟩
  have hBe := has_begin (P := P) (w := w) (base := base) F_law_begin B
  have hP := has_pull (P := P) (w := w) (base := base) F_law_pull B
  have hFl := has_flip (P := P) (w := w) (base := base) F_law_flip
  have hSi := has_sign (P := P) (w := w) (base := base) F_law_sign hP
  have hW := has_word (P := P) (w := w) (base := base) F_law_word B hP hSi hFl
  have hA := has_any (P := P) (w := w) (base := base) F_law_any_word hP hW
  have hS := has_same (P := P) (w := w) (base := base) F_law_same B
  have hIw := has_isword (P := P) (w := w) (base := base) Fis_word B CMOST_WORD CSIGNS
  have hN := has_need (P := P) (w := w) (base := base) Fneed_word hIw
  have hG := has_glued (P := P) (w := w) (base := base) Fglued B B.min
  have hI := has_init (P := P) (w := w) (base := base) M__init__ T hN hG
  have hT := has_turned (P := P) (w := w) (base := base) Fturned
  have hMv := has_moved (P := P) (w := w) (base := base) Fmoved hG
  have hTo := has_trackof (P := P) (w := w) (base := base) Ftrack_of T mk kc hI
  have hJ := has_joined (P := P) (w := w) (base := base) Mjoined T hMv hTo hG
  have hBk := has_backM (P := P) (w := w) (base := base) Mback T hMv hTo hT
  have hEn := has_end (P := P) (w := w) (base := base) Mend T
  have hLn := has_len (P := P) (w := w) (base := base) M__len__ T B
  have hEq := has_eq (P := P) (w := w) (base := base) M__eq__ T B
  have hWi := has_within (P := P) (w := w) (base := base) Mwithin T B
  exact ok_law FL B T mk kc hBe hA (hS 0) hI hJ hBk hEn hLn hEq hWi
end Sf
open PySem PySem.W PyProof.Rows
set_option maxRecDepth 100000 in
set_option maxHeartbeats 0 in
theorem PySem.Challenge.cw_spoorfold_k09_whole_rules_of_undoing_holds : PySem.Challenge.rw_spoorfold_k09_whole_rules_of_undoing.Holds := by
  w_on; o_law; k_head; (case hw => w_witness2)
  k_fill
  refine L2.walk_of (l := PySem.Challenge.rw_spoorfold_k09_whole_rules_of_undoing) (n := 63) (k := 8) (x := "_law_script") (CX := fun _ => L2.CX0) (sp := fun w => Sf.spLaw _) rfl (by decide) rfl ⟨rfl, by decide, by decide⟩ (fun w h Y => PySem.W.kIn_of Y) ?F (fun _ _ a ns hl _ hS => ⟨a, ns, rfl, hS, hl, fun _ => rfl⟩) (fun _ _ _ _ _ h => h)
  case F =>
    intro w mg fa h KX G hmg
    refine' Sf.all_mk KX G hmg ?aL ?lL ?cL ?kL (Sf.fnAt_mk KX G ?a0 ?l0 ?c0 ?k0 (fun _ _ _ _ _ _ us hl => match us, hl with | [_], _ => rfl)) (Sf.fnAt_mk KX G ?a1 ?l1 ?c1 ?k1 (fun _ _ _ _ _ _ us hl => match us, hl with | [_, _], _ => rfl)) (Sf.fnAt_mk KX G ?a2 ?l2 ?c2 ?k2 (fun _ _ _ _ _ _ us hl => match us, hl with | [_], _ => rfl)) (Sf.fnAt_mk KX G ?a3 ?l3 ?c3 ?k3 (fun _ _ _ _ _ _ us hl => match us, hl with | [_, _], _ => rfl)) (Sf.fnAt_mk KX G ?a4 ?l4 ?c4 ?k4 (fun _ _ _ _ _ _ us hl => match us, hl with | [_, _, _], _ => rfl)) (Sf.fnAt_mk KX G ?a5 ?l5 ?c5 ?k5 (fun _ _ _ _ _ _ us hl => match us, hl with | [_, _], _ => rfl)) (Sf.fnAt_mk KX G ?a6 ?l6 ?c6 ?k6 (fun _ _ _ _ _ _ us hl => match us, hl with | [_, _], _ => rfl)) (Sf.fnAt_mk KX G ?a7 ?l7 ?c7 ?k7 (fun _ _ _ _ _ _ us hl => match us, hl with | [_], _ => rfl)) (Sf.fnAt_mk KX G ?a8 ?l8 ?c8 ?k8 (fun _ _ _ _ _ _ us hl => match us, hl with | [_], _ => rfl)) (Sf.fnAt_mk KX G ?a9 ?l9 ?c9 ?k9 (fun _ _ _ _ _ _ us hl => match us, hl with | [_, _], _ => rfl)) (Sf.fnAt_mk KX G ?a10 ?l10 ?c10 ?k10 (fun _ _ _ _ _ _ us hl => match us, hl with | [_], _ => rfl)) (Sf.fnAt_mk KX G ?a11 ?l11 ?c11 ?k11 (fun _ _ _ _ _ _ us hl => match us, hl with | [_, _], _ => rfl)) (Sf.fnAt_mk KX G ?a12 ?l12 ?c12 ?k12 (fun _ _ _ _ _ _ us hl => match us, hl with | [_, _], _ => rfl)) ⟨PySem.W.mg_none_of KX G ?z0, PySem.W.mg_none_of KX G ?z1, PySem.W.mg_none_of KX G ?z2, PySem.W.mg_none_of KX G ?z3, PySem.W.mg_none_of KX G ?z4, PySem.W.mg_none_of KX G ?z5, PySem.W.mg_none_of KX G ?z6, PySem.W.mg_none_of KX G ?z7, PySem.W.mg_none_of KX G ?z8, PySem.W.mg_none_of KX G ?z9, PySem.W.mg_none_of KX G ?z10, PySem.W.mg_none_of KX G ?z11⟩ (PySem.W.mg_of KX G ?d0) (PySem.W.mg_of KX G ?d1) (Sf.TC.mk ⟨?pg, ?hd, ?po, ?sa⟩ ?nP ?nL (PySem.W.mg_of KX G ?aC) ?ha ?hn ?htk ?hm ?ne) ?mk ?kc (Sf.mAt_mk ?ma0 ?mi0 ?ml0 ?mc0 ?mk0 (fun _ _ _ _ _ _ us hl => match us, hl with | [_, _], _ => rfl)) (Sf.mAt_mk ?ma1 ?mi1 ?ml1 ?mc1 ?mk1 (fun _ _ _ _ _ _ us hl => match us, hl with | [_, _], _ => rfl)) (Sf.mAt_mk ?ma2 ?mi2 ?ml2 ?mc2 ?mk2 (fun _ _ _ _ _ _ us hl => match us, hl with | [_], _ => rfl)) (Sf.mAt_mk ?ma3 ?mi3 ?ml3 ?mc3 ?mk3 (fun _ _ _ _ _ _ us hl => match us, hl with | [_], _ => rfl)) (Sf.mAt_mk ?ma4 ?mi4 ?ml4 ?mc4 ?mk4 (fun _ _ _ _ _ _ us hl => match us, hl with | [_], _ => rfl)) (Sf.mAt_mk ?ma5 ?mi5 ?ml5 ?mc5 ?mk5 (fun _ _ _ _ _ _ us hl => match us, hl with | [_, _], _ => rfl)) (Sf.mAt_mk ?ma6 ?mi6 ?ml6 ?mc6 ?mk6 (fun _ _ _ _ _ _ us hl => match us, hl with | [_, _], _ => rfl))
    (case aL => k_is)
    (case lL => k_is)
    (case cL => k_is)
    (case kL => k_is)
    (case a0 => k_is)
    (case l0 => k_is)
    (case c0 => k_is)
    (case k0 => k_is)
    (case a1 => k_is)
    (case l1 => k_is)
    (case c1 => k_is)
    (case k1 => k_is)
    (case a2 => k_is)
    (case l2 => k_is)
    (case c2 => k_is)
    (case k2 => k_is)
    (case a3 => k_is)
    (case l3 => k_is)
    (case c3 => k_is)
    (case k3 => k_is)
    (case a4 => k_is)
    (case l4 => k_is)
    (case c4 => k_is)
    (case k4 => k_is)
    (case a5 => k_is)
    (case l5 => k_is)
    (case c5 => k_is)
    (case k5 => k_is)
    (case a6 => k_is)
    (case l6 => k_is)
    (case c6 => k_is)
    (case k6 => k_is)
    (case a7 => k_is)
    (case l7 => k_is)
    (case c7 => k_is)
    (case k7 => k_is)
    (case a8 => k_is)
    (case l8 => k_is)
    (case c8 => k_is)
    (case k8 => k_is)
    (case a9 => k_is)
    (case l9 => k_is)
    (case c9 => k_is)
    (case k9 => k_is)
    (case a10 => k_is)
    (case l10 => k_is)
    (case c10 => k_is)
    (case k10 => k_is)
    (case a11 => k_is)
    (case l11 => k_is)
    (case c11 => k_is)
    (case k11 => k_is)
    (case a12 => k_is)
    (case l12 => k_is)
    (case c12 => k_is)
    (case k12 => k_is)
    (case z0 => k_is)
    (case z1 => k_is)
    (case z2 => k_is)
    (case z3 => k_is)
    (case z4 => k_is)
    (case z5 => k_is)
    (case z6 => k_is)
    (case z7 => k_is)
    (case z8 => k_is)
    (case z9 => k_is)
    (case z10 => k_is)
    (case z11 => k_is)
    (case d0 => k_is)
    (case d1 => k_is)
    (case aC => k_is)
    (case pg => k_is)
    (case hd => k_is)
    (case po => k_is)
    (case sa => k_is)
    (case nP => k_is)
    (case nL => k_is)
    (case ha => k_is)
    (case hn => k_is)
    (case htk => k_is)
    (case hm => k_is)
    (case ne => k_is)
    (case mk => k_is)
    (case kc => k_is)
    (case ma0 => k_is)
    (case mi0 => k_is)
    (case ml0 => k_is)
    (case mc0 => k_is)
    (case mk0 => k_is)
    (case ma1 => k_is)
    (case mi1 => k_is)
    (case ml1 => k_is)
    (case mc1 => k_is)
    (case mk1 => k_is)
    (case ma2 => k_is)
    (case mi2 => k_is)
    (case ml2 => k_is)
    (case mc2 => k_is)
    (case mk2 => k_is)
    (case ma3 => k_is)
    (case mi3 => k_is)
    (case ml3 => k_is)
    (case mc3 => k_is)
    (case mk3 => k_is)
    (case ma4 => k_is)
    (case mi4 => k_is)
    (case ml4 => k_is)
    (case mc4 => k_is)
    (case mk4 => k_is)
    (case ma5 => k_is)
    (case mi5 => k_is)
    (case ml5 => k_is)
    (case mc5 => k_is)
    (case mk5 => k_is)
    (case ma6 => k_is)
    (case mi6 => k_is)
    (case ml6 => k_is)
    (case mc6 => k_is)
    (case mk6 => k_is)
