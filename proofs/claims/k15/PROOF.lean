import PyProof.Rows.All
import Wide.All
import OpenK.AllK
import Wide.FinOn
import HandS.ForMost
import HandS.IsInst
import HandS.Zip
import HandS.More
import KE.LtData
import HandS.DictComp
import KE.SortKeyHeap
import HandS.SortKw
import HandS.OwnEq
import HandS.Conv
import HandS.TupAny
import PySem.Challenge.RW_spoorfold_k15_whole_steps_between_words
import HandS.FStr
import HandS.RaiseMore
import HandS.RevRange
import KE.DataCmp
import HandS.Nested
import HandS.IterVal
import HandS.Sort
import HandS.Style
import KE.KNestM
import HandS.EndTab
import HandS.WrittenGet
set_option Elab.async false
set_option linter.all false
set_option maxRecDepth 100000
set_option maxHeartbeats 4000000
namespace Sf
open PySem PySem.Spec PyProof.Rows L2
/-! the text of the law by places -/
def topS (i : Nat) : Stmt := PySem.Challenge.pw_spoorfold_k15_whole_steps_between_words.main.body.getD i (.Pass ⟨0, 0, 0, 0⟩)
abbrev s__wall : Stmt := topS 0
abbrev s_SpoorError___init__ : Stmt := inClass (topS 2) 0
abbrev s_BadWord___init__ : Stmt := inClass (topS 3) 0
abbrev s_BadStep___init__ : Stmt := inClass (topS 4) 0
abbrev s_is_upto : Stmt := topS 6
abbrev s_is_word : Stmt := topS 10
abbrev s_need_word : Stmt := topS 11
abbrev s_rank : Stmt := topS 12
abbrev s_turned : Stmt := topS 13
abbrev s_glued : Stmt := topS 14
abbrev s_Track___init__ : Stmt := inClass (topS 16) 0
abbrev s_Track_spots : Stmt := inClass (topS 16) 1
abbrev s_Track_end : Stmt := inClass (topS 16) 2
abbrev s_Track_plain : Stmt := inClass (topS 16) 3
abbrev s_Track_joined : Stmt := inClass (topS 16) 4
abbrev s_Track_back : Stmt := inClass (topS 16) 5
abbrev s_Track_within : Stmt := inClass (topS 16) 6
abbrev s_Track___eq__ : Stmt := inClass (topS 16) 7
abbrev s_Track___len__ : Stmt := inClass (topS 16) 8
abbrev s_Track___str__ : Stmt := inClass (topS 16) 9
abbrev s_Track___repr__ : Stmt := inClass (topS 16) 10
abbrev s_moved : Stmt := topS 17
abbrev s_track_of : Stmt := topS 18
abbrev s_walked : Stmt := topS 21
abbrev s_to_plain : Stmt := topS 22
abbrev s_between : Stmt := topS 23
abbrev s_replaced : Stmt := topS 24
abbrev s_is_step : Stmt := topS 25
abbrev s_is_way : Stmt := topS 26
abbrev s_sides : Stmt := topS 27
abbrev s_against : Stmt := topS 28
abbrev s_loop : Stmt := topS 29
abbrev s_width : Stmt := topS 30
abbrev s_unrolled : Stmt := topS 31
abbrev s_swaps : Stmt := topS 32
abbrev s_backs : Stmt := topS 33
abbrev s_tips : Stmt := topS 34
abbrev s__law_rank : Stmt := topS 36
abbrev s__law_rise : Stmt := topS 37
abbrev s__law_flip : Stmt := topS 38
abbrev s__law_short : Stmt := topS 39
abbrev s__law_spots : Stmt := topS 40
abbrev s__law_good_steps : Stmt := topS 41
abbrev s__law_back : Stmt := topS 42
abbrev s__law_stepped : Stmt := topS 43
abbrev s__law_walk : Stmt := topS 44
abbrev s__law_begin : Stmt := topS 45
abbrev s__law_pull : Stmt := topS 46
abbrev s__law_sign : Stmt := topS 47
abbrev s__law_word : Stmt := topS 48
abbrev s__law_any_word : Stmt := topS 49
abbrev s__law_round_ways : Stmt := topS 50
abbrev s__law_pick : Stmt := topS 51
abbrev s__law_same : Stmt := topS 52
abbrev s__law_led_there : Stmt := topS 53
abbrev s_law : Stmt := topS 54
end Sf
namespace Sf
open PySem PySem.Spec PyProof.Rows L2 TL
/-! ### helpers of heaps and blocks -/
theorem same_upd {H : Hp} {p : Addr} {o : HO} (h : H p = none) : Same H (upd H p o) := fun b x e => by
  rw [upd_ne (ne_of_none e h)]
  exact e
/-- all but what stands at b stands -/
def Fx (b : Addr) (H H' : Hp) : Prop := ∀ a o, H a = some o → a ≠ b → H' a = some o
theorem Fx.refl {b : Addr} {H : Hp} : Fx b H H := fun _ _ h _ => h
theorem Fx.of {b : Addr} {H H' : Hp} (h : Same H H') : Fx b H H' := fun a o e _ => h a o e
theorem Fx.trans {b : Addr} {H H1 H2 : Hp} (h : Fx b H H1) (k : Fx b H1 H2) : Fx b H H2 := fun a o e n => k a o (h a o e n) n
theorem Fx.same {b : Addr} {H H1 H2 : Hp} (h : Fx b H H1) (k : Same H1 H2) : Fx b H H2 := h.trans (.of k)
theorem Fx.upd {b : Addr} {H H1 : Hp} {o : HO} (h : Fx b H H1) : Fx b H (upd H1 b o) := fun a u e n => by
  rw [upd_ne n]
  exact h a u e n
theorem Fx.new {b p : Addr} {H H1 : Hp} {o : HO} (h : Fx b H H1) (n : H1 p = none) : Fx b H (L2.upd H1 p o) := h.same (same_upd n)
theorem Fx.seq {b a : Addr} {H H1 : Hp} {xs : List V} {K : PySem.W.Frag} (h : Fx b H H1) (n : a ≠ b) (s : SqL K H a xs) : SqL K H1 a xs := by
  rcases s with (s | ⟨o, s⟩) | s
  · exact .inl (.inl (h _ _ s n))
  · exact .inl (.inr ⟨o, h _ _ s n⟩)
  · exact .inr s
theorem seq_by {X : Cx} {st : Stmt} {rest : List Stmt} {D : Ends} {σ : L2.St} {H : Hp} (J : L2.St → Hp → Prop) (hr : ∃ u, PSs X rest u ∧ ∀ σ' H', J σ' H' → u D σ' H')
    (hs : ∀ u : TS, (∀ σ' H', J σ' H' → u D σ' H') → ∃ t, PS X st t ∧ t { D with nx := u D } σ H) : ∃ t, PSs X (st :: rest) t ∧ t D σ H := by
  obtain ⟨u, hu, k⟩ := hr
  obtain ⟨t, ht, h⟩ := hs u k
  exact ⟨tSeq t u, pss_cons ht hu, h⟩
theorem line_of {n : Nat} (h : n ≤ 100000) : n ≤ sizeLine := Nat.le_trans h (by decide)
theorem lineLt_of {n : Nat} (h : n ≤ 100000) : n < sizeLine := Nat.lt_of_le_of_lt h (by decide)
/-! ### the bag of the laws: its list at l, three numbers -/
structure BagL (H : Hp) (b l : Addr) (ns : List Int) (k z r : Int) : Prop where
  hb : H b = some (.lst [.ref l, .int k, .int z, .int r])
  hl : H l = some (.lst (ns.map V.int))
  k0 : 0 ≤ k
  z0 : 0 ≤ z
  r0 : 0 ≤ r
  r1 : r < 2147483647
def Bag (H : Hp) (b l : Addr) : Prop := ∃ (ns : List Int) (k z r : Int), BagL H b l ns k z r
theorem bag_ne {l : Addr} {ns : List Int} {vs : List V} : HO.lst (.ref l :: vs) ≠ HO.lst (ns.map V.int) := fun e => by
  cases ns with
  | nil => cases e
  | cons x r => cases e
theorem BagL.ne {H : Hp} {b l : Addr} {ns : List Int} {k z r : Int} (h : BagL H b l ns k z r) : l ≠ b := fun e => by
  have h1 := h.hb
  have h2 := h.hl
  rw [e, h1] at h2
  exact bag_ne (Option.some.inj h2)
theorem BagL.set {H : Hp} {b l : Addr} {ns : List Int} {k z r k' z' r' : Int} (h : BagL H b l ns k z r) (hk : 0 ≤ k') (hz : 0 ≤ z') (h0 : 0 ≤ r') (h1 : r' < 2147483647) :
    BagL (upd H b (.lst [.ref l, .int k', .int z', .int r'])) b l ns k' z' r' :=
  ⟨upd_same, by rw [upd_ne h.ne]; exact h.hl, hk, hz, h0, h1⟩
theorem Bag.same {H H' : Hp} {b l : Addr} (s : Same H H') : Bag H b l → Bag H' b l
  | ⟨ns, k, z, r, h⟩ => ⟨ns, k, z, r, s _ _ h.hb, s _ _ h.hl, h.k0, h.z0, h.r0, h.r1⟩
theorem Bag.new {H : Hp} {b l p : Addr} {o : HO} (h : Bag H b l) (n : H p = none) : Bag (upd H p o) b l := h.same (same_upd n)
theorem Bag.ne {H : Hp} {b l p : Addr} (h : Bag H b l) (n : H p = none) : p ≠ b := fun e => by
  obtain ⟨ns, k, z, r, h⟩ := h
  rw [e, h.hb] at n
  cases n
theorem Bag.neL {H : Hp} {b l p : Addr} (h : Bag H b l) (n : H p = none) : p ≠ l := fun e => by
  obtain ⟨ns, k, z, r, h⟩ := h
  rw [e, h.hl] at n
  cases n
theorem len_eq {α : Type} {xs : List α} {n : Nat} (h : xs.length = n) : ((xs.length : Nat) : Int) = (n : Int) := by rw [h]
theorem int_at {ns : List Int} {k : Int} (h0 : 0 ≤ k) (h1 : k < ((ns.map V.int).length : Nat)) : ∃ v : Int, atI (ns.map V.int) k = some (.int v) := by
  rw [List.length_map] at h1
  refine ⟨ns[k.toNat]'(by omega), at_of (j := k.toNat) (by omega) ?_⟩
  rw [List.getElem?_map, List.getElem?_eq_getElem (by omega)]
  rfl
end Sf
namespace Sf
open PySem PySem.Spec PyProof.Rows L2 TL
/-! ### what stands at the top: a def of the text; a def that keeps a promise; a constant; built-in names -/
def FnAt (K : PySem.W.Frag) (mg : Str → Option Value) (x : Str) (st : Stmt) (ps : List Str) : Prop := ∃ (f : Addr) (fd : FuncData), mg x = some (.ref f) ∧ Fun K x x st f fd ∧ Binds K fd ps []
def Has (P : Program) (w : World) (K : PySem.W.Frag) (mg : Str → Option Value) (base : Heap) (k : Nat) (x : Str) (ps : List Str) (sp : Sp) : Prop :=
  ∃ (f : Addr) (fd : FuncData), mg x = some (.ref f) ∧ PySem.W.keepIn K (.ref f) = true ∧ Binds K fd ps [] ∧ FnOk P w K mg base CX0 k f fd ps sp
theorem FnAt.has {P : Program} {w : World} {K : PySem.W.Frag} {mg : Str → Option Value} {base : Heap} {k : Nat} {x : Str} {st : Stmt} {ps : List Str} {sp : Sp} (h : FnAt K mg x st ps)
    (ok : ∀ {f : Addr} {fd : FuncData}, Fun K x x st f fd → FnOk P w K mg base CX0 k f fd ps sp) : Has P w K mg base k x ps sp := by
  obtain ⟨f, fd, g, F, b⟩ := h
  exact ⟨f, fd, g, F.kp, b, ok F⟩
theorem fnAt_mk {K : PySem.W.Frag} {h : Heap} {mg : Str → Option Value} {x : Str} {st : Stmt} {ps : List Str} {f : Addr} {oc : Value} {od an : Option Addr} {osl : Array (Option Value)} {kV doc pm cdv ct : Value} (X : K.In h) (G : h.Ns mainGlobals mg)
    (a : PySem.W.nsIn K mainGlobals x = some (some (.ref f))) (l : K.lookup f = some ⟨oc, od, .func (PySem.W.fnOf x x (defArgs st) (defBody st) (defScope st) .none kV doc pm an cdv ct), osl⟩)
    (c : PySem.W.codeIn K cdv x = true) (k : PySem.W.keepIn K (.ref f) = true)
    (b : ∀ (kV doc pm : Value) (an : Option Addr) (cdv ct : Value) (us : List Value), us.length = ps.length → bindArgs (PySem.W.fnOf x x (defArgs st) (defBody st) (defScope st) .none kV doc pm an cdv ct) ⟨us, []⟩ = pure (ps.zip us)) : FnAt K mg x st ps :=
  ⟨f, _, PySem.W.mg_of X G a, fun_mk l c k, (fun_mk l c k).binds b⟩
structure Blt (mg : Str → Option Value) : Prop where
  len : mg "len" = none
  range : mg "range" = none
  isinstance : mg "isinstance" = none
  list : mg "list" = none
  tuple : mg "tuple" = none
  bool : mg "bool" = none
  int : mg "int" = none
  str : mg "str" = none
  all : mg "all" = none
  zip : mg "zip" = none
  min : mg "min" = none
  sorted : mg "sorted" = none
theorem lc_gen {J : It} {n : Nat} {g : TG} {tt : TT} {te : TE} {vs : List Nat} {σ : L2.St} {H1 : Hp} {D : Addr} {Qd : Hp → Prop} (Pv : Nat → Hp → Prop) (h0 : Pv 0 (upd H1 D (.lst [])))
    (hgo : ∀ i H, i < n → Pv i H → J.go i H) (hst : ∀ H, Pv n H → J.stop n H)
    (hs : ∀ i x H H', i < n → Pv i H → J.yld i H x H' → g x (wipe σ vs) H' fun σ2 H2 => wipe σ2 vs = wipe σ vs ∧ tt σ2 H2 fun b H3 =>
      if b = true then te σ2 H3 fun y H4 => ∃ acc, H4 D = some (.lst acc) ∧ acc.length < sizeLine ∧ Pv (i + 1) (upd H4 D (.lst (acc ++ [y]))) else Pv (i + 1) H3) (hd : ∀ H, Pv n H → Qd H) :
    ∃ W : Nat → Nat → Hp → Prop, (∃ m, W 0 m (upd H1 D (.lst []))) ∧ ∀ i m H, W i m H →
      (J.stop i H ∧ Qd H) ∨ (J.go i H ∧ ∃ Nx : Hp → Prop, (∀ H', Nx H' → ∃ m', m' < m ∧ W (i + 1) m' H') ∧ ∀ x H', J.yld i H x H' → g x (wipe σ vs) H' fun σ2 H2 => wipe σ2 vs = wipe σ vs ∧ tt σ2 H2 fun b H3 =>
        if b = true then te σ2 H3 fun y H4 => ∃ acc, H4 D = some (.lst acc) ∧ acc.length < sizeLine ∧ Nx (upd H4 D (.lst (acc ++ [y]))) else Nx H3) := by
  refine ⟨fun i m H => m = n - i ∧ i ≤ n ∧ Pv i H, ⟨n, rfl, Nat.zero_le _, h0⟩, ?_⟩
  rintro i m H ⟨rfl, hi, p⟩
  by_cases hlt : i < n
  · exact .inr ⟨hgo i H hlt p, Pv (i + 1), fun H' p' => ⟨n - (i + 1), by omega, rfl, hlt, p'⟩, fun x H' y => hs i x H H' hlt p y⟩
  · have e : i = n := by omega
    subst e
    exact .inl ⟨hst H p, hd H p⟩
theorem for_gen {J : It} {n : Nat} {g : TG} {tb : TS} {D : Ends} {σ : L2.St} {H : Hp} (Pv : Nat → L2.St → Hp → Prop) (h0 : Pv 0 σ H) (hgo : ∀ i σ H, i < n → Pv i σ H → J.go i H) (hst : ∀ σ H, Pv n σ H → J.stop n H)
    (hs : ∀ i x σ H H', i < n → Pv i σ H → J.yld i H x H' → g x σ H' fun σ2 H2 => tb { D with nx := Pv (i + 1), ct := Pv (i + 1), bk := D.nx } σ2 H2) (hd : ∀ σ H, Pv n σ H → D.nx σ H) :
    ∃ W : Nat → Nat → L2.St → Hp → Prop, (∃ m, W 0 m σ H) ∧ ∀ i m σ H, W i m σ H →
      (J.stop i H ∧ D.nx σ H) ∨ (J.go i H ∧ ∃ N : L2.St → Hp → Prop, (∀ σ' H', N σ' H' → ∃ m', m' < m ∧ W (i + 1) m' σ' H') ∧ ∀ x H', J.yld i H x H' → g x σ H' fun σ2 H2 => tb { D with nx := N, ct := N, bk := D.nx } σ2 H2) := by
  refine ⟨fun i m σ H => m = n - i ∧ i ≤ n ∧ Pv i σ H, ⟨n, rfl, Nat.zero_le _, h0⟩, ?_⟩
  rintro i m σ H ⟨rfl, hi, p⟩
  by_cases hlt : i < n
  · exact .inr ⟨hgo i σ H hlt p, Pv (i + 1), fun σ' H' p' => ⟨n - (i + 1), by omega, rfl, hlt, p'⟩, fun x H' y => hs i x σ H H' hlt p y⟩
  · have e : i = n := by omega
    subst e
    exact .inl ⟨hst σ H p, hd σ H p⟩
theorem yes_if {σ : L2.St} {H : Hp} {A B : Hp → Prop} (h : A H) : tYes σ H (fun b H3 => if b = true then A H3 else B H3) := by
  show if true = true then A H else B H
  exact iteT h
/-! ### signs and words -/
def sgn (c : Nat) : Bool := (decide (97 ≤ c) && decide (c ≤ 104)) || (decide (65 ≤ c) && decide (c ≤ 72))
theorem sgn_iff {c : Nat} : sgn c = true ↔ (97 ≤ c ∧ c ≤ 104) ∨ (65 ≤ c ∧ c ≤ 72) := by
  unfold sgn
  simp only [Bool.or_eq_true, Bool.and_eq_true, decide_eq_true_eq]
def flipC (c : Nat) : Nat := if 97 ≤ c then c - 32 else c + 32
def Wd (x : Str) : Prop := ∀ c ∈ tl x, sgn c = true
abbrev one (c : Nat) : Str := ⟨#[c]⟩
theorem tl_one (c : Nat) : tl (one c) = [c] := rfl
theorem len_one (c : Nat) : (one c).length = 1 := rfl
theorem len_app (x y : Str) : (x ++ y).length = x.length + y.length := by
  rw [len_tl, len_tl, len_tl, tl_append, List.length_append]
theorem Wd.app {x y : Str} (hx : Wd x) (hy : Wd y) : Wd (x ++ y) := fun c hc => by
  rw [tl_append, List.mem_append] at hc
  exact hc.elim (hx c) (hy c)
theorem wd_one {c : Nat} (h : sgn c = true) : Wd (one c) := fun d hd => by
  rw [tl_one, List.mem_singleton] at hd
  rw [hd]
  exact h
theorem tl_small : (Str.ofString "abcdefgh").cps.toList = [97, 98, 99, 100, 101, 102, 103, 104] := by decide +kernel
theorem tl_great : (Str.ofString "ABCDEFGH").cps.toList = [65, 66, 67, 68, 69, 70, 71, 72] := by decide +kernel
theorem tl_signs : (Str.ofString "aAbBcCdDeEfFgGhH").cps.toList = [97, 65, 98, 66, 99, 67, 100, 68, 101, 69, 102, 70, 103, 71, 104, 72] := by decide +kernel
theorem in_small {c : Nat} : (c ∈ (Str.ofString "abcdefgh").cps.toList) ↔ (97 ≤ c ∧ c ≤ 104) := by
  rw [tl_small]
  simp only [List.mem_cons, List.not_mem_nil, or_false]
  omega
theorem in_signs {c : Nat} : (c ∈ (Str.ofString "aAbBcCdDeEfFgGhH").cps.toList) ↔ sgn c = true := by
  rw [tl_signs, sgn_iff]
  simp only [List.mem_cons, List.not_mem_nil, or_false]
  omega
theorem upper_one {c : Nat} (h : 97 ≤ c ∧ c ≤ 104) : Txt.upper (one c) = one (c - 32) := by
  have : c = 97 ∨ c = 98 ∨ c = 99 ∨ c = 100 ∨ c = 101 ∨ c = 102 ∨ c = 103 ∨ c = 104 := by omega
  rcases this with rfl | rfl | rfl | rfl | rfl | rfl | rfl | rfl <;> decide +kernel
theorem lower_one {c : Nat} (h : 65 ≤ c ∧ c ≤ 72) : Txt.lower (one c) = one (c + 32) := by
  have : c = 65 ∨ c = 66 ∨ c = 67 ∨ c = 68 ∨ c = 69 ∨ c = 70 ∨ c = 71 ∨ c = 72 := by omega
  rcases this with rfl | rfl | rfl | rfl | rfl | rfl | rfl | rfl <;> decide +kernel
theorem flip_sgn {c : Nat} (h : sgn c = true) : sgn (flipC c) = true := by
  rw [sgn_iff] at h ⊢
  unfold flipC
  split <;> omega
theorem at_small {e : Int} (h0 : 0 ≤ e) (h1 : e < 8) : atI (Str.ofString "abcdefgh").cps.toList e = some (97 + e.toNat) := by
  have : e = 0 ∨ e = 1 ∨ e = 2 ∨ e = 3 ∨ e = 4 ∨ e = 5 ∨ e = 6 ∨ e = 7 := by omega
  rw [tl_small]
  rcases this with rfl | rfl | rfl | rfl | rfl | rfl | rfl | rfl <;> rfl
theorem at_great {e : Int} (h0 : 0 ≤ e) (h1 : e < 8) : atI (Str.ofString "ABCDEFGH").cps.toList e = some (65 + e.toNat) := by
  have : e = 0 ∨ e = 1 ∨ e = 2 ∨ e = 3 ∨ e = 4 ∨ e = 5 ∨ e = 6 ∨ e = 7 := by omega
  rw [tl_great]
  rcases this with rfl | rfl | rfl | rfl | rfl | rfl | rfl | rfl <;> rfl
theorem at_end {x : List Nat} (h : x ≠ []) : ∃ c, atI x (-1) = some c ∧ c ∈ x := by
  refine ⟨x.getLast h, ?_, List.getLast_mem h⟩
  have e := atI_last x.dropLast (x.getLast h)
  rw [List.dropLast_concat_getLast h] at e
  exact e
theorem str_ne {x : Str} (h : ¬ V.str x = V.str "") : tl x ≠ [] := fun e => h (by
  have : x = "" := ext_tl (by rw [e]; decide +kernel)
  rw [this])
theorem wd_nil : Wd "" := fun c hc => by
  have e : tl "" = [] := by decide +kernel
  rw [e] at hc
  cases hc
/-! ### two values of the same data -/
def flat4 : V → Bool
  | .non => true
  | .bl _ => true
  | .int _ => true
  | .str _ => true
  | _ => false
def Eqv (H : Hp) : Nat → V → V → Prop
  | 0, x, y => flat4 x = true ∧ x = y
  | n + 1, x, y => (flat4 x = true ∧ x = y) ∨ ∃ (p q : Addr) (xs ys : List V), x = .ref p ∧ y = .ref q ∧ ((H p = some (.lst xs) ∧ H q = some (.lst ys)) ∨ (H p = some (.tup xs) ∧ H q = some (.tup ys))) ∧
      xs.length = ys.length ∧ xs.length ≤ 100000 ∧ ∀ (i : Nat) (x y : V), xs[i]? = some x → ys[i]? = some y → Eqv H n x y
theorem Eqv.same {H H' : Hp} (s : Same H H') : ∀ {n : Nat} {x y : V}, Eqv H n x y → Eqv H' n x y
  | 0, _, _, h => h
  | _ + 1, _, _, .inl h => .inl h
  | _ + 1, _, _, .inr ⟨p, q, xs, ys, ex, ey, hp, hl, hz, k⟩ => .inr ⟨p, q, xs, ys, ex, ey, hp.elim (fun h => .inl ⟨s _ _ h.1, s _ _ h.2⟩) (fun h => .inr ⟨s _ _ h.1, s _ _ h.2⟩), hl, hz, fun i x y hx hy => Eqv.same s (k i x y hx hy)⟩
theorem Eqv.flat {H : Hp} {n : Nat} {x : V} (h : flat4 x = true) : Eqv H n x x := by
  cases n with
  | zero => exact ⟨h, rfl⟩
  | succ n => exact .inl ⟨h, rfl⟩
theorem flat_kit {K : PySem.W.Frag} {H : Hp} {x : V} (h : flat4 x = true) : ∃ (T : String) (b1 b2 b3 : Bool), TyX K H x (.type T) ∧ kitB T "list" = some false ∧ kitB T "tuple" = some false ∧ kitB T "bool" = some b1 ∧ kitB T "int" = some b2 ∧ kitB T "str" = some b3 := by
  cases x with
  | non => exact ⟨"NoneType", false, false, false, .base .non, by decide +kernel, by decide +kernel, by decide +kernel, by decide +kernel, by decide +kernel⟩
  | bl b => exact ⟨"bool", true, true, false, .base (.bl b), by decide +kernel, by decide +kernel, by decide +kernel, by decide +kernel, by decide +kernel⟩
  | int b => exact ⟨"int", false, true, false, .base (.int b), by decide +kernel, by decide +kernel, by decide +kernel, by decide +kernel, by decide +kernel⟩
  | str b => exact ⟨"str", false, false, true, .base (.str b), by decide +kernel, by decide +kernel, by decide +kernel, by decide +kernel, by decide +kernel⟩
  | byt b => cases h
  | flt b => cases h
  | ref b => cases h
  | ty b => cases h
theorem TyX.same {K : PySem.W.Frag} {H H' : Hp} {x : V} {T : String} (s : Same H H') (f : flat4 x = true) (h : TyX K H x (.type T)) : TyX K H' x (.type T) := by
  cases x with
  | non => cases h with | base h => cases h with | non => exact .base .non
  | bl b => cases h with | base h => cases h with | bl => exact .base (.bl b)
  | int b => cases h with | base h => cases h with | int => exact .base (.int b)
  | str b => cases h with | base h => cases h with | str => exact .base (.str b)
  | byt b => cases f
  | flt b => cases f
  | ref b => cases f
  | ty b => cases f
theorem kit2 {K : PySem.W.Frag} {T : String} (h1 : kitB T "list" = some false) (h2 : kitB T "tuple" = some false) : PySem.W.kitAny K (.type T) [.type "list", .type "tuple"] = some false :=
  kitAny_cons (kit_ty h1) (fun _ => kitAny_cons (kit_ty h2) (fun _ => kitAny_nil) (fun q => nomatch q)) (fun q => nomatch q)
theorem scal_flat {x : V} (h : flat4 x = true) : scal x x = true := by
  cases x <;> first | rfl | cases h
theorem ne_bl (b : Bool) : (!decide (V.bl b = V.bl b)) = false := by simp
end Sf
namespace Sf
open PySem PySem.Spec PyProof.Rows L2 TL
/-! ### blocks by what holds ahead and behind -/
def Stp {ι : Type} (X : Cx) (st : Stmt) (pre post : ι → L2.St → Hp → Prop) : Prop := ∃ t, PS X st t ∧ ∀ (i : ι) (D : Ends) (σ : L2.St) (H : Hp), pre i σ H → (∀ σ' H', post i σ' H' → D.nx σ' H') → t D σ H
def Blk {ι : Type} (X : Cx) (sts : List Stmt) (pre post : ι → L2.St → Hp → Prop) : Prop := ∃ t, PSs X sts t ∧ ∀ (i : ι) (D : Ends) (σ : L2.St) (H : Hp), pre i σ H → (∀ σ' H', post i σ' H' → D.nx σ' H') → t D σ H
theorem Blk.cons {ι : Type} {X : Cx} {st : Stmt} {rest : List Stmt} {pre post : ι → L2.St → Hp → Prop} (mid : ι → L2.St → Hp → Prop) (a : Stp X st pre mid) (b : Blk X rest mid post) : Blk X (st :: rest) pre post := by
  obtain ⟨t, ht, h⟩ := a
  obtain ⟨u, hu, k⟩ := b
  exact ⟨tSeq t u, pss_cons ht hu, fun i D σ H hp hq => h i _ σ H hp fun σ' H' hm => k i D σ' H' hm hq⟩
theorem Blk.one {ι : Type} {X : Cx} {st : Stmt} {pre post : ι → L2.St → Hp → Prop} (a : Stp X st pre post) : Blk X [st] pre post := by
  obtain ⟨t, ht, h⟩ := a
  exact ⟨t, pss_one ht, h⟩
/-- the same within a block -/
theorem Stp.rng {ι : Type} {X : Cx} {tg iter : Expr} {body : List Stmt} {pos : Pos} {wi : TI} {k : Nat} {pre post : ι → L2.St → Hp → Prop} (Pv : ι → Nat → Nat → L2.St → Hp → Prop) (hp : PassesOwn (model X.prog X.w) X.A X.env X.xe) (hc : X.calm = true) (hi : PI X tg iter wi) (hg : PG X tg (gName k))
    (hk : ∀ (j : ι) (σ : L2.St) (H : Hp) (R : It → Hp → Prop), pre j σ H → (∀ n H1, Pv j n 0 σ H1 → R (Itr 0 n) H1) → wi σ H R)
    (hb : Blk (ι := ι × Nat × Nat) X body (fun i σ H => i.2.2 < i.2.1 ∧ ∃ σ0, Pv i.1 i.2.1 i.2.2 σ0 H ∧ σ = σ0.set k (some (.int (0 + (i.2.2 : Int))))) (fun i σ H => Pv i.1 i.2.1 (i.2.2 + 1) σ H))
    (hr : ∀ j n σ H, Pv j n n σ H → post j σ H) (hs : ∀ x, foldedSetIterable iter X.env x = pure x := by intro _; rfl) : Stp X (.For tg iter body [] pos) pre post := by
  obtain ⟨tb, hb, kb⟩ := hb
  refine ⟨_, ps_for hp hc hi hg hb hs, fun j D σ H h0 hq => ?_⟩
  refine hk j σ H _ h0 fun n H1 h0 => ?_
  exact for_range (lo := 0) (n := n) (Pv j n) h0 (fun i σ1 H2 hlt hv => kb (j, n, i) _ _ _ ⟨hlt, σ1, hv, rfl⟩ fun σ' H' h => h) (fun σ1 H2 hv => hq σ1 H2 (hr j n σ1 H2 hv))
/-- the rest of a def's body -/
def Tl (X : Cx) (sts : List Stmt) (D : Ends) (J : L2.St → Hp → Prop) : Prop := ∃ u, PSs X sts u ∧ ∀ σ H, J σ H → u D σ H
theorem Tl.start {X : Cx} {sts : List Stmt} {D : Ends} {σ : L2.St} {H : Hp} (h : Tl X sts D (fun σ' H' => σ' = σ ∧ H' = H)) : ∃ t, PSs X sts t ∧ t D σ H := by
  obtain ⟨u, hu, k⟩ := h
  exact ⟨u, hu, k σ H ⟨rfl, rfl⟩⟩
theorem Tl.cons {X : Cx} {st : Stmt} {rest : List Stmt} {D : Ends} {J : L2.St → Hp → Prop} (mid : L2.St → Hp → Prop) (a : Stp (ι := Unit) X st (fun _ => J) (fun _ => mid)) (b : Tl X rest D mid) : Tl X (st :: rest) D J := by
  obtain ⟨t, ht, h⟩ := a
  obtain ⟨u, hu, k⟩ := b
  exact ⟨tSeq t u, pss_cons ht hu, fun σ H hj => h () _ σ H hj k⟩
end Sf
namespace Sf
open PySem PySem.Spec PyProof.Rows L2 TL
section
variable {P : Program} {w : World} {K : PySem.W.Frag} {mg : Str → Option Value} {base : Heap}
/-! ### _law_pull: some number below many -/
def spPull : Sp := fun vs H Q _ => ∃ (b l : Addr) (n : Int), vs = [.ref b, .int n] ∧ Bag H b l ∧ 0 < n ∧ n < 1073741824 ∧
  ∀ (d : Int) (H' : Hp), 0 ≤ d → d < n → Bag H' b l → Fx b H H' → Q (.int d) H'
theorem sc_pull : FnScope ["_law_bag", "_law_many", "_law_cell", "_law_digit"] ["_law_bag", "_law_many"] (defScope s__law_pull) := ⟨rfl, rfl, rfl, by decide +kernel, rfl, by decide +kernel, by decide +kernel⟩
theorem ok_pull {f : Addr} {fd : FuncData} {j : Nat} (F : Fun K "_law_pull" "_law_pull" s__law_pull f fd) (ml : mg "len" = none) : FnOk P w K mg base CX0 (j + 1) f fd ["_law_bag", "_law_many"] spPull := by
  refine F.ok sc_pull (fun vs H Q E h => ?_) (fun cdv A outer s H vs Q E hr h => ?_)
  · obtain ⟨b, l, n, rfl, _⟩ := h
    rfl
  · obtain ⟨b, l, n, rfl, ⟨ns, k, z, r, hB⟩, hn0, hn1, q⟩ := h
    refine seq_by (fun σ H1 => ∃ (y2 : Option V) (k z r : Int), σ = [some (.ref b), some (.int n), y2, none] ∧ BagL H1 b l ns k z r ∧ Fx b H H1) ?_ ?_
    · refine ⟨_, pss_cons (ps_if (pt_cmpR op_gt (pe_ix ix_list (pv 0) pe_int (fun _ _ => rfl)) pe_int (nomark _))
          (pss_cons (ps_set (i := 3) sc_pull.nd rfl (.inl rfl) (pe_op op_mod (pe_ix ix_list (pv 0) pe_int (fun _ _ => rfl)) (pv 1)))
          (pss_cons (ps_asg (pe_op op_fdiv (pe_ix ix_list (pv 0) pe_int (fun _ _ => rfl)) (pv 1)) (pg_sub (pv 0) pe_int set_list))
          (pss_one (ps_ret (pv 3))))) pss_nil)
        (pss_cons (ps_asg (pe_op op_mod (pe_op op_add (pe_op op_add (pe_op op_mul (pe_op op_mod (pe_op op_mul (pe_ix ix_list (pv 0) pe_int (fun _ _ => rfl)) (pe_ix ix_list (pv 0) pe_int (fun _ _ => rfl))) pe_int) pe_int)
            (pe_op op_mul (pe_ix ix_list (pv 0) pe_int (fun _ _ => rfl)) pe_int)) pe_int) pe_int) (pg_sub (pv 0) pe_int set_list))
        (pss_one (ps_ret (pe_op op_mod (pe_op op_add (pe_op op_fdiv (pe_ix ix_list (pv 0) pe_int (fun _ _ => rfl)) pe_int) (pe_op op_mul (pe_op op_mod (pe_ix ix_list (pv 0) pe_int (fun _ _ => rfl)) pe_int) pe_int)) (pv 1))))), ?_⟩
      rintro σ H1 ⟨y2, k, z, r, rfl, B, fx⟩
      have hS := SqL.of (K := K) B.hb
      have rr0 := B.r0
      have rr1 := B.r1
      have zz0 := B.z0
      refine ⟨_, rfl, b, _, 2, _, rfl, rfl, hS, at_of (j := 2) rfl rfl, z, 0, rfl, rfl, _, rfl, ite2 (fun e => ?_) (fun e => ?_)⟩
      · have zp : 0 < z := of_decide_eq_true e
        refine ⟨_, rfl, b, _, 2, _, rfl, rfl, hS, at_of (j := 2) rfl rfl, _, rfl, z, n, rfl, rfl, hn0, ?_⟩
        refine ⟨_, rfl, b, _, 2, _, rfl, rfl, hS, at_of (j := 2) rfl rfl, _, rfl, z, n, rfl, rfl, ⟨hn0, hn1⟩, ?_⟩
        refine ⟨_, rfl, b, _, 2, 2, rfl, rfl, B.hb, rfl, ?_⟩
        refine ⟨_, rfl, ?_⟩
        refine q _ _ (Int.emod_nonneg _ (by omega)) (Int.emod_lt_of_pos _ hn0) ⟨ns, k, z / n, r, B.set B.k0 (Int.ediv_nonneg B.z0 (by omega)) B.r0 B.r1⟩ fx.upd
      · refine ⟨_, rfl, b, _, 3, _, rfl, rfl, hS, at_of (j := 3) rfl rfl, _, rfl, b, _, 3, _, rfl, rfl, hS, at_of (j := 3) rfl rfl, r, r, rfl, rfl, .inl ⟨by omega, by omega⟩,
          _, 2147483629, rfl, rfl, (by show (0 : Int) < 2147483629; decide), _, 5, rfl, rfl, .inr ⟨by decide, by decide⟩,
          _, rfl, b, _, 3, _, rfl, rfl, hS, at_of (j := 3) rfl rfl, r, 16807, rfl, rfl, .inr ⟨by decide, by decide⟩, _, _, rfl, rfl, _, 2531011, rfl, rfl, _, 2147483647, rfl, rfl, (by show (0 : Int) < 2147483647; decide), ?_⟩
        refine ⟨_, rfl, b, _, 3, 3, rfl, rfl, B.hb, rfl, ?_⟩
        have h0 : 0 ≤ (r * r % 2147483629 * 5 + r * 16807 + 2531011) % 2147483647 := Int.emod_nonneg _ (by decide)
        have h1 : (r * r % 2147483629 * 5 + r * 16807 + 2531011) % 2147483647 < 2147483647 := Int.emod_lt_of_pos _ (by decide)
        have B' : BagL (upd H1 b (.lst [.ref l, .int k, .int z, .int ((r * r % 2147483629 * 5 + r * 16807 + 2531011) % 2147483647)])) b l ns k z ((r * r % 2147483629 * 5 + r * 16807 + 2531011) % 2147483647) := B.set B.k0 B.z0 h0 h1
        have hS' := SqL.of (K := K) B'.hb
        refine ⟨_, rfl, b, _, 3, _, rfl, rfl, hS', at_of (j := 3) rfl rfl, _, 61, rfl, rfl, ⟨by decide, by decide⟩,
          _, rfl, b, _, 3, _, rfl, rfl, hS', at_of (j := 3) rfl rfl, _, 8191, rfl, rfl, (by show (0 : Int) < 8191; decide), _, 31, rfl, rfl, .inr ⟨by decide, by decide⟩, _, _, rfl, rfl, _, rfl, _, n, rfl, rfl, hn0, ?_⟩
        exact q _ _ (Int.emod_nonneg _ (by omega)) (Int.emod_lt_of_pos _ hn0) ⟨ns, k, z, _, B'⟩ fx.upd
    · intro u hu
      have hS := SqL.of (K := K) hB.hb
      have hS2 := SqL.of (K := K) hB.hl
      have rr0 := hB.r0
      have rr1 := hB.r1
      have zz0 := hB.z0
      have kk0 := hB.k0
      refine ⟨_, ps_if (PW.pt (pw_and (pt_cmpR op_eq (pe_ix ix_list (pv 0) pe_int (fun _ _ => rfl)) pe_int (nomark _))
            (pw_and1 (pt_cmpR op_lt (pe_ix ix_list (pv 0) pe_int (fun _ _ => rfl)) (pe_callB call_len_seq (by rfl) ml PySem.boot_len (pa_cons (pe_ix ix_list (pv 0) pe_int (fun _ _ => rfl)) pa_nil)) (nomark _)))))
          (pss_cons (ps_set (i := 2) sc_pull.nd rfl (.inl rfl) (pe_ix ix_list (pe_ix ix_list (pv 0) pe_int (fun _ _ => rfl)) (pe_ix ix_list (pv 0) pe_int (fun _ _ => rfl)) (fun _ _ => rfl)))
          (pss_cons (ps_asg (pe_op op_add (pe_ix ix_list (pv 0) pe_int (fun _ _ => rfl)) pe_int) (pg_sub (pv 0) pe_int set_list))
          (pss_one (ps_if (pt_cmpR op_ge (pv 2) (pe_op op_pow pe_int pe_int) (nomark _))
            (pss_one (ps_asg (pv 2) (pg_sub (pv 0) pe_int set_list)))
            (pss_one (ps_asg (pe_op op_mod (pe_op op_add (pe_op op_add (pe_op op_mul (pe_ix ix_list (pv 0) pe_int (fun _ _ => rfl)) pe_int) (pe_op op_mul (pe_op op_mod (pv 2) pe_int) pe_int)) pe_int) pe_int) (pg_sub (pv 0) pe_int set_list)))))))
          pss_nil, ?_⟩
      refine ⟨_, rfl, b, _, 2, _, rfl, rfl, hS, at_of (j := 2) rfl rfl, rfl, _, rfl, ite2 (fun e => ?_) (fun e => ?_)⟩
      · refine ⟨_, rfl, b, _, 1, _, rfl, rfl, hS, at_of (j := 1) rfl rfl, _, rfl, b, _, 0, _, rfl, rfl, hS, at_of (j := 0) rfl rfl, l, _, rfl, .inl hS2, k, _, rfl, rfl, _, rfl, ite2 (fun e2 => ?_) (fun e2 => ?_)⟩
        · obtain ⟨v, hv⟩ := int_at (ns := ns) kk0 (of_decide_eq_true e2)
          refine ⟨_, rfl, b, _, 0, _, rfl, rfl, hS, at_of (j := 0) rfl rfl, _, rfl, b, _, 1, _, rfl, rfl, hS, at_of (j := 1) rfl rfl, l, _, k, _, rfl, rfl, hS2, hv, ?_⟩
          refine ⟨_, rfl, b, _, 1, _, rfl, rfl, hS, at_of (j := 1) rfl rfl, k, 1, rfl, rfl, _, rfl, b, _, 1, 1, rfl, rfl, hB.hb, rfl, ?_⟩
          have B' : BagL (upd H b (.lst [.ref l, .int (k + 1), .int z, .int r])) b l ns (k + 1) z r := hB.set (by omega) zz0 rr0 rr1
          have hS' := SqL.of (K := K) B'.hb
          refine ⟨_, rfl, 10, 18, rfl, rfl, ⟨by decide, by decide, by decide⟩, v, _, rfl, rfl, _, rfl, ite2 (fun e3 => ?_) (fun e3 => ?_)⟩
          · have hv0 : 0 ≤ v := by
              have := of_decide_eq_true e3
              have h18 : (10 : Int) ^ (18 : Int).toNat = 1000000000000000000 := by decide +kernel
              rw [h18] at this
              omega
            refine ⟨_, rfl, _, rfl, b, _, 2, 2, rfl, rfl, B'.hb, rfl, ?_⟩
            exact hu _ _ ⟨some (.int v), k + 1, v, r, rfl, B'.set B'.k0 hv0 rr0 rr1, Fx.refl.upd.upd⟩
          · refine ⟨_, rfl, b, _, 3, _, rfl, rfl, hS', at_of (j := 3) rfl rfl, r, 48271, rfl, rfl, .inr ⟨by decide, by decide⟩, _, rfl, v, 2147483629, rfl, rfl, (by show (0 : Int) < 2147483629; decide), _, 69621, rfl, rfl, .inr ⟨by decide, by decide⟩,
              _, _, rfl, rfl, _, 12345, rfl, rfl, _, 2147483647, rfl, rfl, (by show (0 : Int) < 2147483647; decide), ?_⟩
            refine ⟨_, rfl, b, _, 3, 3, rfl, rfl, B'.hb, rfl, ?_⟩
            exact hu _ _ ⟨some (.int v), k + 1, z, _, rfl, B'.set B'.k0 B'.z0 (Int.emod_nonneg _ (by decide)) (Int.emod_lt_of_pos _ (by decide)), Fx.refl.upd.upd⟩
        · exact hu _ _ ⟨none, k, z, r, rfl, hB, .refl⟩
      · exact iteF (hu _ _ ⟨none, k, z, r, rfl, hB, .refl⟩)
end
end Sf
namespace Sf
open PySem PySem.Spec PyProof.Rows L2 TL
section
variable {P : Program} {w : World} {K : PySem.W.Frag} {mg : Str → Option Value} {base : Heap}
abbrev HasPull (P : Program) (w : World) (K : PySem.W.Frag) (mg : Str → Option Value) (base : Heap) : Prop := Has P w K mg base 1 "_law_pull" ["_law_bag", "_law_many"] spPull
theorem has_pull (F : FnAt K mg "_law_pull" s__law_pull ["_law_bag", "_law_many"]) (B : Blt mg) : HasPull P w K mg base := F.has fun F => ok_pull F B.len
/-! ### _law_flip -/
def spFlip : Sp := fun vs H Q _ => ∃ c : Nat, vs = [.str (one c)] ∧ sgn c = true ∧ Q (.str (one (flipC c))) H
abbrev HasFlip (P : Program) (w : World) (K : PySem.W.Frag) (mg : Str → Option Value) (base : Heap) : Prop := Has P w K mg base 1 "_law_flip" ["_law_sign_here"] spFlip
theorem sc_flip : FnScope ["_law_sign_here"] ["_law_sign_here"] (defScope s__law_flip) := ⟨rfl, rfl, rfl, by decide +kernel, rfl, by decide +kernel, by decide +kernel⟩
theorem has_flip (F : FnAt K mg "_law_flip" s__law_flip ["_law_sign_here"]) : HasFlip P w K mg base := F.has fun F => by
  refine F.ok sc_flip (fun vs H Q E h => ?_) (fun cdv A outer s H vs Q E hr h => ?_)
  · obtain ⟨c, rfl, _⟩ := h
    rfl
  · obtain ⟨c, rfl, hc, q⟩ := h
    refine ⟨_, pss_one (ps_ret (pe_ifExp (pt_cmpR op_in_sign (pv 0) pe_str rfl) (pe_upper (pv 0)) (pe_lower (pv 0)))), ?_⟩
    refine ⟨_, rfl, c, _, rfl, rfl, _, rfl, ite2 (fun e => ?_) (fun e => ?_)⟩
    · have h := in_small.mp (of_decide_eq_true e)
      refine ⟨_, rfl, ⟨_, rfl⟩, _, rfl, rfl, by rw [len_one]; decide, ?_⟩
      rw [upper_one h]
      rw [flipC, if_pos h.1] at q
      exact q
    · have h : ¬ (97 ≤ c ∧ c ≤ 104) := fun z => e (decide_eq_true (in_small.mpr z))
      rw [sgn_iff] at hc
      refine ⟨_, rfl, ⟨_, rfl⟩, _, rfl, rfl, by rw [len_one]; decide, ?_⟩
      rw [lower_one (by omega)]
      rw [flipC, if_neg (by omega)] at q
      exact q
/-! ### _law_sign -/
def spSign : Sp := fun vs H Q _ => ∃ (b l : Addr) (n : Int), vs = [.ref b, .int n] ∧ Bag H b l ∧ 0 < n ∧ n ≤ 8 ∧
  ∀ (c : Nat) (H' : Hp), sgn c = true → Bag H' b l → Fx b H H' → Q (.str (one c)) H'
abbrev HasSign (P : Program) (w : World) (K : PySem.W.Frag) (mg : Str → Option Value) (base : Heap) : Prop := Has P w K mg base 2 "_law_sign" ["_law_bag", "_law_many"] spSign
theorem sc_sign : FnScope ["_law_bag", "_law_many"] ["_law_bag", "_law_many"] (defScope s__law_sign) := ⟨rfl, rfl, rfl, by decide +kernel, rfl, by decide +kernel, by decide +kernel⟩
theorem has_sign (F : FnAt K mg "_law_sign" s__law_sign ["_law_bag", "_law_many"]) (hP : HasPull P w K mg base) : HasSign P w K mg base := F.has fun F => by
  obtain ⟨fP, fdP, gP, kP, bP, GP⟩ := hP
  refine F.ok sc_sign (fun vs H Q E h => ?_) (fun cdv A outer s H vs Q E hr h => ?_)
  · obtain ⟨b, l, n, rfl, _⟩ := h
    rfl
  · obtain ⟨b, l, n, rfl, hB, hn0, hn1, q⟩ := h
    refine ⟨_, pss_one (ps_ret (pe_ix ix_str (pe_ix ix_list (pe_lst (pa_cons pe_str (pa_cons pe_str pa_nil))) (pe_call GP hr (by rfl) gP kP bP .nil pass0 (pa_cons (pv 0) (pa_cons pe_int pa_nil))) (fun _ _ => rfl))
      (pe_call GP hr (by rfl) gP kP bP .nil pass0 (pa_cons (pv 0) (pa_cons (pv 1) pa_nil))) (fun _ _ => rfl))), ?_⟩
    refine ⟨by decide, fun p np => ?_⟩
    refine ⟨_, rfl, b, l, 2, rfl, hB.new np, by decide, by decide, fun d H1 d0 d1 B1 f1 => ?_⟩
    have hp : H1 p = some (.lst [.str "abcdefgh", .str "ABCDEFGH"]) := f1 _ _ upd_same (hB.ne np)
    have hd : d = 0 ∨ d = 1 := by omega
    rcases hd with rfl | rfl
    · refine ⟨p, _, 0, _, rfl, rfl, SqL.of hp, at_of (j := 0) rfl rfl, ?_⟩
      refine ⟨_, rfl, _, rfl, b, l, n, rfl, B1, hn0, by omega, fun e H2 e0 e1 B2 f2 => ?_⟩
      refine ⟨_, e, _, rfl, rfl, (by decide +kernel), at_small e0 (by omega), ?_⟩
      exact q _ _ (sgn_iff.mpr (by omega)) B2 ((Fx.new .refl np).trans (f1.trans f2))
    · refine ⟨p, _, 1, _, rfl, rfl, SqL.of hp, at_of (j := 1) rfl rfl, ?_⟩
      refine ⟨_, rfl, _, rfl, b, l, n, rfl, B1, hn0, by omega, fun e H2 e0 e1 B2 f2 => ?_⟩
      refine ⟨_, e, _, rfl, rfl, (by decide +kernel), at_great e0 (by omega), ?_⟩
      exact q _ _ (sgn_iff.mpr (by omega)) B2 ((Fx.new .refl np).trans (f1.trans f2))
/-! ### _law_word -/
def spWord : Sp := fun vs H Q _ => ∃ (b l : Addr) (u n : Int), vs = [.ref b, .int u, .int n] ∧ Bag H b l ∧ 0 ≤ u ∧ u ≤ 1000 ∧ 0 < n ∧ n ≤ 8 ∧
  ∀ (x : Str) (H' : Hp), Wd x → x.length ≤ u.toNat → Bag H' b l → Fx b H H' → Q (.str x) H'
abbrev HasWord (P : Program) (w : World) (K : PySem.W.Frag) (mg : Str → Option Value) (base : Heap) : Prop := Has P w K mg base 3 "_law_word" ["_law_bag", "_law_upto", "_law_many"] spWord
theorem sc_word : FnScope ["_law_bag", "_law_upto", "_law_many", "_law_found", "_law_turn", "_law_sign_here"] ["_law_bag", "_law_upto", "_law_many"] (defScope s__law_word) := ⟨rfl, rfl, rfl, by decide +kernel, rfl, by decide +kernel, by decide +kernel⟩
theorem has_word (F : FnAt K mg "_law_word" s__law_word ["_law_bag", "_law_upto", "_law_many"]) (B : Blt mg) (hP : HasPull P w K mg base) (hS : HasSign P w K mg base) (hF : HasFlip P w K mg base) : HasWord P w K mg base := F.has fun F => by
  obtain ⟨fP, fdP, gP, kP, bP, GP⟩ := hP
  obtain ⟨fS, fdS, gS, kS, bS, GS⟩ := hS
  obtain ⟨fF, fdF, gF, kF, bF, GF⟩ := hF
  refine F.ok sc_word (fun vs H Q E h => ?_) (fun cdv A outer s H vs Q E hr h => ?_)
  · obtain ⟨b, l, u, n, rfl, _⟩ := h
    rfl
  · obtain ⟨b, l, u, n, rfl, hB, hu0, hu1, hn0, hn1, q⟩ := h
    have hr1 : Room 1 _ := hr.mono (by decide)
    refine ⟨_, pss_cons (ps_set (i := 3) sc_word.nd rfl (.inl rfl) pe_str)
      (pss_cons (ps_for PassesOwn.never rfl (pi_range1 rfl B.range (pa_cons (pe_call GP hr1 (by rfl) gP kP bP .nil pass0 (pa_cons (pv 0) (pa_cons (pe_op op_add (pv 1) pe_int) pa_nil))) pa_nil)) (pg_name (i := 4) sc_word.nd rfl (.inl rfl))
        (pss_cons (ps_set (i := 5) sc_word.nd rfl (.inl rfl) (pe_call GS hr (by rfl) gS kS bS .nil pass0 (pa_cons (pv 0) (pa_cons (pv 2) pa_nil))))
        (pss_cons (ps_if (PW.pt (pw_and (pt_cmpR op_ne (pv 3) pe_str (nomark _)) (pw_and1 (pt_cmpR op_eq (pe_call GP hr1 (by rfl) gP kP bP .nil pass0 (pa_cons (pv 0) (pa_cons pe_int pa_nil))) pe_int (nomark _)))))
          (pss_one (ps_set (i := 5) sc_word.nd rfl (.inl rfl) (pe_call GF hr1 (by rfl) gF kF bF .nil pass0 (pa_cons (pe_ix ix_str (pv 3) (pe_un un_neg pe_int) (fun _ _ => rfl)) pa_nil)))) pss_nil)
        (pss_one (ps_set (i := 3) sc_word.nd rfl (.inl rfl) (pe_op op_add_str (pv 3) (pv 5)))))))
      (pss_one (ps_ret (pv 3)))), ?_⟩
    refine ⟨_, rfl, _, rfl, u, 1, rfl, rfl, b, l, u + 1, rfl, hB, by omega, by omega, fun d H1 d0 d1 B1 f1 => ?_⟩
    refine ⟨d, rfl, by omega, by omega, for_range (lo := 0) (n := d.toNat) (fun i σ H2 => ∃ (x : Str) (y4 y5 : Option V), σ = [some (.ref b), some (.int u), some (.int n), some (.str x), y4, y5] ∧ Wd x ∧ x.length ≤ i ∧ Bag H2 b l ∧ Fx b H H2)
      ⟨"", none, none, rfl, wd_nil, (by decide +kernel), B1, f1⟩ ?_ ?_⟩
    · rintro i σ H2 hi ⟨x, y4, y5, rfl, hx, hlen, B2, f2⟩
      have hsz : x.length + 1 ≤ sizeLine := Nat.le_trans (Nat.add_le_add_right (Nat.le_trans hlen (by omega : i ≤ 1000)) 1) (by decide)
      refine ⟨_, rfl, _, rfl, b, l, n, rfl, B2, hn0, hn1, fun c H3 hc B3 f3 => ?_⟩
      have fin : ∀ (c : Nat) (H4 : Hp), sgn c = true → Bag H4 b l → Fx b H H4 → ∃ (x' : Str) (y4 y5 : Option V), [some (V.ref b), some (.int u), some (.int n), some (.str (x ++ one c)), some (.int (0 + i)), some (.str (one c))] = [some (.ref b), some (.int u), some (.int n), some (.str x'), y4, y5] ∧ Wd x' ∧ x'.length ≤ i + 1 ∧ Bag H4 b l ∧ Fx b H H4 :=
        fun c H4 hc B4 f4 => ⟨_, _, _, rfl, hx.app (wd_one hc), by rw [len_app, len_one]; omega, B4, f4⟩
      refine ⟨_, rfl, rfl, _, rfl, ite2 (fun e => ?_) (fun e => ?_)⟩
      · refine ⟨_, rfl, b, l, 4, rfl, B3, by decide, by decide, fun d2 H4 _ _ B4 f4 => ?_⟩
        refine ⟨rfl, _, rfl, ite2 (fun e2 => ?_) (fun e2 => ?_)⟩
        · have hne : tl x ≠ [] := str_ne fun z => by
            rw [z] at e
            simp at e
          obtain ⟨c2, hc2, hm⟩ := at_end hne
          refine ⟨_, rfl, 1, rfl, x, _, c2, rfl, rfl, by omega, hc2, c2, rfl, hx c2 hm, ?_⟩
          exact ⟨_, rfl, _, rfl, x, _, rfl, rfl, hsz, fin _ _ (flip_sgn (hx c2 hm)) B4 (f2.trans (f3.trans f4))⟩
        · exact ⟨_, rfl, _, rfl, x, _, rfl, rfl, hsz, fin _ _ hc B4 (f2.trans (f3.trans f4))⟩
      · exact iteF ⟨_, rfl, _, rfl, x, _, rfl, rfl, hsz, fin _ _ hc B3 (f2.trans f3)⟩
    · rintro σ H2 ⟨x, y4, y5, rfl, hx, hlen, B2, f2⟩
      exact ⟨_, rfl, q x H2 hx (by omega) B2 f2⟩
end
end Sf
namespace Sf
open PySem PySem.Spec PyProof.Rows L2 TL
section
variable {P : Program} {w : World} {K : PySem.W.Frag} {mg : Str → Option Value} {base : Heap}
/-! ### _law_any_word -/
def spAny : Sp := fun vs H Q _ => ∃ (b l : Addr) (u : Int), vs = [.ref b, .int u] ∧ Bag H b l ∧ 0 ≤ u ∧ u ≤ 1000 ∧
  ∀ (x : Str) (H' : Hp), Wd x → x.length ≤ u.toNat → Bag H' b l → Fx b H H' → Q (.str x) H'
abbrev HasAny (P : Program) (w : World) (K : PySem.W.Frag) (mg : Str → Option Value) (base : Heap) : Prop := Has P w K mg base 4 "_law_any_word" ["_law_bag", "_law_upto"] spAny
theorem sc_any : FnScope ["_law_bag", "_law_upto"] ["_law_bag", "_law_upto"] (defScope s__law_any_word) := ⟨rfl, rfl, rfl, by decide +kernel, rfl, by decide +kernel, by decide +kernel⟩
theorem has_any (F : FnAt K mg "_law_any_word" s__law_any_word ["_law_bag", "_law_upto"]) (hP : HasPull P w K mg base) (hW : HasWord P w K mg base) : HasAny P w K mg base := F.has fun F => by
  obtain ⟨fP, fdP, gP, kP, bP, GP⟩ := hP
  obtain ⟨fW, fdW, gW, kW, bW, GW⟩ := hW
  refine F.ok sc_any (fun vs H Q E h => ?_) (fun cdv A outer s H vs Q E hr h => ?_)
  · obtain ⟨b, l, u, rfl, _⟩ := h
    rfl
  · obtain ⟨b, l, u, rfl, hB, hu0, hu1, q⟩ := h
    refine ⟨_, pss_one (ps_ret (pe_call GW hr (by rfl) gW kW bW .nil pass0 (pa_cons (pv 0) (pa_cons (pv 1) (pa_cons (pe_ix ix_list (pe_lst (pa_cons pe_int (pa_cons pe_int (pa_cons pe_int (pa_cons pe_int pa_nil)))))
      (pe_call GP (hr.mono (by decide)) (by rfl) gP kP bP .nil pass0 (pa_cons (pv 0) (pa_cons pe_int pa_nil))) (fun _ _ => rfl)) pa_nil))))), ?_⟩
    refine ⟨_, rfl, _, rfl, by decide, fun p np => ?_⟩
    refine ⟨_, rfl, b, l, 4, rfl, hB.new np, by decide, by decide, fun d H1 d0 d1 B1 f1 => ?_⟩
    have hp : H1 p = some (.lst [.int 2, .int 1, .int 3, .int 8]) := f1 _ _ upd_same (hB.ne np)
    have hv : ∃ v : Int, atI [V.int 2, .int 1, .int 3, .int 8] d = some (.int v) ∧ 0 < v ∧ v ≤ 8 := by
      have hd : d = 0 ∨ d = 1 ∨ d = 2 ∨ d = 3 := by omega
      rcases hd with rfl | rfl | rfl | rfl
      · exact ⟨2, rfl, by decide, by decide⟩
      · exact ⟨1, rfl, by decide, by decide⟩
      · exact ⟨3, rfl, by decide, by decide⟩
      · exact ⟨8, rfl, by decide, by decide⟩
    obtain ⟨v, hv, v0, v1⟩ := hv
    refine ⟨p, _, d, _, rfl, rfl, SqL.of hp, hv, b, l, u, v, rfl, B1, hu0, hu1, v0, v1, fun x H2 hx hl B2 f2 => ?_⟩
    exact q x H2 hx hl B2 ((Fx.new .refl np).trans (f1.trans f2))
end
end Sf
namespace Sf
open PySem PySem.Spec PyProof.Rows L2 TL
section
variable {P : Program} {w : World} {K : PySem.W.Frag} {mg : Str → Option Value} {base : Heap}
/-! ### _law_begin -/
def spBegin (K : PySem.W.Frag) : Sp := fun vs H Q _ => ∃ (a : Addr) (ns : List Int), vs = [.ref a] ∧ SqL K H a (ns.map V.int) ∧ ∀ (b l : Addr) (H' : Hp), H b = none → Bag H' b l → Same H H' → Q (.ref b) H'
abbrev HasBegin (P : Program) (w : World) (K : PySem.W.Frag) (mg : Str → Option Value) (base : Heap) : Prop := Has P w K mg base 1 "_law_begin" ["_law_script"] (spBegin K)
theorem sc_begin : FnScope ["_law_script", "_law_salt", "_law_cell"] ["_law_script"] (defScope s__law_begin) := ⟨rfl, rfl, rfl, by decide +kernel, rfl, by decide +kernel, by decide +kernel⟩
theorem cut_ints (ns : List Int) (lo hi : Option Int) : ∃ ms : List Int, cutV (ns.map V.int) lo hi = ms.map V.int := by
  refine ⟨(ns.drop (HT.sIx (ns.map V.int).length 0 lo)).take (HT.sIx (ns.map V.int).length (ns.map V.int).length hi - HT.sIx (ns.map V.int).length 0 lo), ?_⟩
  unfold cutV
  rw [List.map_take, List.map_drop]
theorem has_begin (F : FnAt K mg "_law_begin" s__law_begin ["_law_script"]) (B : Blt mg) : HasBegin P w K mg base := F.has fun F => by
  refine F.ok sc_begin (fun vs H Q E h => ?_) (fun cdv A outer s H vs Q E hr h => ?_)
  · obtain ⟨a, ns, rfl, _⟩ := h
    rfl
  · obtain ⟨a, ns, rfl, hS, q⟩ := h
    refine ⟨_, pss_cons (ps_set (i := 1) sc_begin.nd rfl (.inl rfl) pe_int)
      (pss_cons (ps_for PassesOwn.never rfl (pi_list (pe_slice sl_list (pv 0) po_none (po_some pe_int))) (pg_name (i := 2) sc_begin.nd rfl (.inl rfl))
        (pss_one (ps_set (i := 1) sc_begin.nd rfl (.inl rfl) (pe_op op_mod (pe_op op_add (pe_op op_add (pe_op op_mul (pv 1) pe_int) (pe_op op_mod (pv 2) pe_int)) pe_int) pe_int))))
      (pss_one (ps_ret (pe_lst (pa_cons (pe_callTy call_list_of (by rfl) B.list (by decide +kernel) (pa_cons (pe_slice sl_list (pv 0) po_none (po_some pe_int)) pa_nil)) (pa_cons pe_int (pa_cons pe_int (pa_cons (pv 1) pa_nil)))))))), ?_⟩
    obtain ⟨ms, em⟩ := cut_ints ns none (some 63)
    refine ⟨_, rfl, 63, rfl, a, _, rfl, hS, fun p np => ?_⟩
    have s1 : Same H (upd H p (.lst (cutV (ns.map V.int) none (some 63)))) := same_upd np
    have hp : SqL K (upd H p (.lst (cutV (ns.map V.int) none (some 63)))) p (ms.map V.int) := SqL.of (by rw [upd_same, em])
    refine ⟨p, rfl, ⟨_, hp⟩, for_list (K := K) (a := p) (xs := ms.map V.int) (fun i σ H2 => ∃ (r : Int) (y : Option V), σ = [some (.ref a), some (.int r), y] ∧ 0 ≤ r ∧ r < 2147483647 ∧ H2 = upd H p (.lst (cutV (ns.map V.int) none (some 63))))
      ⟨977, none, rfl, by decide, by decide, rfl⟩ (fun i σ H2 _ ⟨_, _, _, _, _, e⟩ => by rw [e]; exact hp) ?_ ?_⟩
    · rintro i v σ H2 hi ⟨r, y, rfl, r0, r1, rfl⟩
      obtain ⟨z, rfl⟩ : ∃ z, v = V.int z := by
        rw [List.getElem?_map] at hi
        cases e : ms[i]? with
        | none =>
          rw [e] at hi
          cases hi
        | some z =>
          rw [e] at hi
          exact ⟨z, (Option.some.inj hi).symm⟩
      refine ⟨_, rfl, r, 1009, rfl, rfl, .inr ⟨by decide, by decide⟩, _, rfl, z, 2147483629, rfl, rfl, (by show (0 : Int) < 2147483629; decide), _, _, rfl, rfl, _, 7, rfl, rfl, _, 2147483629, rfl, rfl, (by show (0 : Int) < 2147483629; decide), ?_⟩
      have h0 : 0 ≤ (r * 1009 + z % 2147483629 + 7) % 2147483629 := Int.emod_nonneg _ (by decide)
      have h1 : (r * 1009 + z % 2147483629 + 7) % 2147483629 < 2147483629 := Int.emod_lt_of_pos _ (by decide)
      exact ⟨_, _, rfl, h0, by omega, rfl⟩
    · rintro σ H2 ⟨r, y, rfl, r0, r1, rfl⟩
      refine ⟨_, rfl, 63, rfl, a, _, rfl, s1.seq hS, fun p2 np2 => ?_⟩
      have hp2 : SqL K (upd (upd H p (.lst (cutV (ns.map V.int) none (some 63)))) p2 (.lst (cutV (ns.map V.int) none (some 63)))) p2 (ms.map V.int) := SqL.of (by rw [upd_same, em])
      have s2 := s1.trans (same_upd (o := .lst (cutV (ns.map V.int) none (some 63))) np2)
      refine ⟨p2, _, rfl, .inl hp2, fun l nl => ?_⟩
      have s3 := s2.trans (same_upd (o := .lst (ms.map V.int)) nl)
      refine ⟨_, rfl, (by show 4 ≤ sizeLine; decide), fun b nb => ?_⟩
      have s4 := s3.trans (same_upd (o := .lst [.ref l, .int 0, .int 0, .int r]) nb)
      refine q b l _ (s3.free nb) ⟨ms, 0, 0, r, upd_same, ?_, by decide, by decide, r0, r1⟩ s4
      have nlb : l ≠ b := fun z => by
        rw [← z, upd_same] at nb
        cases nb
      rw [upd_ne nlb, upd_same]
end
end Sf
namespace Sf
open PySem PySem.Spec PyProof.Rows L2 TL
section
variable {P : Program} {w : World} {K : PySem.W.Frag} {mg : Str → Option Value} {base : Heap}
/-! ### _law_same: True of two values of the same data -/
def spSame (n : Nat) : Sp := fun vs H Q _ => ∃ x y : V, vs = [x, y] ∧ Eqv H n x y ∧ ∀ H', Same H H' → Q (.bl true) H'
abbrev HasSame (P : Program) (w : World) (K : PySem.W.Frag) (mg : Str → Option Value) (base : Heap) (n : Nat) : Prop := Has P w K mg base (n + 1) "_law_same" ["_law_found", "_law_due"] (spSame n)
theorem sc_same : FnScope ["_law_found", "_law_due", "_law_one", "_law_other"] ["_law_found", "_law_due"] (defScope s__law_same) := ⟨rfl, rfl, rfl, by decide +kernel, rfl, by decide +kernel, by decide +kernel⟩
theorem all_true (n : Nat) : (List.replicate n true).all id = true := by
  induction n with
  | zero => rfl
  | succ n ih => rw [List.replicate_succ, List.all_cons, ih]; rfl
theorem has_same (F : FnAt K mg "_law_same" s__law_same ["_law_found", "_law_due"]) (B : Blt mg) : ∀ n, HasSame P w K mg base n := by
  intro n
  induction n with
  | zero =>
    refine F.has fun F => ?_
    refine F.ok sc_same (fun vs H Q E h => ?_) (fun cdv A outer s H vs Q E hr h => ?_)
    · obtain ⟨x, y, rfl, _⟩ := h
      rfl
    · obtain ⟨x, y, rfl, ⟨fx, rfl⟩, q⟩ := h
      obtain ⟨T, b1, b2, b3, ty, k1, k2, k3, k4, k5⟩ := flat_kit (K := K) (H := H) fx
      refine ⟨_, pss_cons (ps_if (pt_val (pe_callB call_isiT (by rfl) B.isinstance (by decide +kernel) (pa_cons (pv 1) (pa_cons (pe_tup (pa_cons (pe_bltn (v := .ty "list") (by rfl) B.list (by decide +kernel) rfl) (pa_cons (pe_bltn (v := .ty "tuple") (by rfl) B.tuple (by decide +kernel) rfl) pa_nil))) pa_nil)))) pss_never pss_nil)
        (pss_cons (ps_if (PW.pt (pw_or (pt_cmpR op_isN (pv 1) pe_non (nomark _)) (pw_or1 (pt_cmpR op_isN (pv 0) pe_non (nomark _))))) (pss_one (ps_ret (pe_and (pe_cmpR op_isN (pv 0) pe_non (nomark _)) (pe_one (pe_cmpR op_isN (pv 1) pe_non (nomark _)))))) pss_nil)
        (pss_cons (ps_if (PW.pt (pw_or (pt_cmpR op_ne (pe_callB call_isi (by rfl) B.isinstance (by decide +kernel) (pa_cons (pv 0) (pa_cons (pe_bltn (v := .ty "bool") (by rfl) B.bool (by decide +kernel) rfl) pa_nil))) (pe_callB call_isi (by rfl) B.isinstance (by decide +kernel) (pa_cons (pv 1) (pa_cons (pe_bltn (v := .ty "bool") (by rfl) B.bool (by decide +kernel) rfl) pa_nil))) (nomark _))
            (pw_or1 (pt_cmpR op_ne (pe_callB call_isi (by rfl) B.isinstance (by decide +kernel) (pa_cons (pv 0) (pa_cons (pe_bltn (v := .ty "int") (by rfl) B.int (by decide +kernel) rfl) pa_nil))) (pe_callB call_isi (by rfl) B.isinstance (by decide +kernel) (pa_cons (pv 1) (pa_cons (pe_bltn (v := .ty "int") (by rfl) B.int (by decide +kernel) rfl) pa_nil))) (nomark _))))) pss_never pss_nil)
        (pss_one (ps_ret (pe_and (pe_cmpR op_eq (pe_callB call_isi (by rfl) B.isinstance (by decide +kernel) (pa_cons (pv 0) (pa_cons (pe_bltn (v := .ty "str") (by rfl) B.str (by decide +kernel) rfl) pa_nil))) (pe_callB call_isi (by rfl) B.isinstance (by decide +kernel) (pa_cons (pv 1) (pa_cons (pe_bltn (v := .ty "str") (by rfl) B.str (by decide +kernel) rfl) pa_nil))) (nomark _)) (pe_one (pe_cmpR op_eq (pv 0) (pv 1) (nomark _)))))))), ?_⟩
      refine ⟨x, rfl, (by show 2 ≤ sizeLine; decide), fun p np => ?_⟩
      have s1 := same_upd (o := .tup [.ty "list", .ty "tuple"]) np
      have ty1 := TyX.same s1 fx ty
      refine ⟨x, p, _, _, [.type "list", .type "tuple"], false, rfl, upd_same, .cons (.ty _) (.cons (.ty _) .nil), ty1, kit2 k1 k2, _, rfl, iteF ?_⟩
      refine ⟨x, rfl, rfl, _, rfl, ite2 (fun e => ?_) (fun e => ?_)⟩
      · have ex : x = .non := of_decide_eq_true e
        subst ex
        refine iteT ⟨_, rfl, rfl, _, rfl, ite2 (fun _ => ⟨_, rfl, rfl, ?_⟩) (fun z => absurd (decide_eq_true rfl) z)⟩
        exact q _ s1
      · refine ⟨x, rfl, rfl, _, rfl, ite2 (fun e2 => absurd e2 e) (fun _ => ?_)⟩
        refine ⟨x, rfl, x, _, _, _, b1, rfl, .ty "bool", ty1, kit_ty k3, x, rfl, x, _, _, _, b1, rfl, .ty "bool", ty1, kit_ty k3, rfl, _, rfl, ite2 (fun z => ?_) (fun _ => ?_)⟩
        · rw [ne_bl] at z
          cases z
        · refine ⟨x, rfl, x, _, _, _, b2, rfl, .ty "int", ty1, kit_ty k4, x, rfl, x, _, _, _, b2, rfl, .ty "int", ty1, kit_ty k4, rfl, _, rfl, ite2 (fun z => ?_) (fun _ => ?_)⟩
          · rw [ne_bl] at z
            cases z
          · refine ⟨x, rfl, x, _, _, _, b3, rfl, .ty "str", ty1, kit_ty k5, x, rfl, x, _, _, _, b3, rfl, .ty "str", ty1, kit_ty k5, rfl, _, rfl, ite2 (fun z => ?_) (fun z => absurd (decide_eq_true rfl) z)⟩
            refine ⟨x, rfl, x, rfl, scal_flat fx, ?_⟩
            rw [decide_eq_true rfl]
            exact q _ s1
  | succ n ih =>
    obtain ⟨fR, fdR, gR, kR, bR, GR⟩ := ih
    refine F.has fun F => ?_
    refine F.ok sc_same (fun vs H Q E h => ?_) (fun cdv A outer s H vs Q E hr h => ?_)
    · obtain ⟨x, y, rfl, _⟩ := h
      rfl
    · obtain ⟨x, y, rfl, hE, q⟩ := h
      refine seq_by (fun σ H1 => σ = [some x, some x, none, none] ∧ flat4 x = true ∧ Same H H1) ?_ ?_
      · refine ⟨_, (pss_cons (ps_if (PW.pt (pw_or (pt_cmpR op_isN (pv 1) pe_non (nomark _)) (pw_or1 (pt_cmpR op_isN (pv 0) pe_non (nomark _))))) (pss_one (ps_ret (pe_and (pe_cmpR op_isN (pv 0) pe_non (nomark _)) (pe_one (pe_cmpR op_isN (pv 1) pe_non (nomark _)))))) pss_nil)
        (pss_cons (ps_if (PW.pt (pw_or (pt_cmpR op_ne (pe_callB call_isi (by rfl) B.isinstance (by decide +kernel) (pa_cons (pv 0) (pa_cons (pe_bltn (v := .ty "bool") (by rfl) B.bool (by decide +kernel) rfl) pa_nil))) (pe_callB call_isi (by rfl) B.isinstance (by decide +kernel) (pa_cons (pv 1) (pa_cons (pe_bltn (v := .ty "bool") (by rfl) B.bool (by decide +kernel) rfl) pa_nil))) (nomark _))
            (pw_or1 (pt_cmpR op_ne (pe_callB call_isi (by rfl) B.isinstance (by decide +kernel) (pa_cons (pv 0) (pa_cons (pe_bltn (v := .ty "int") (by rfl) B.int (by decide +kernel) rfl) pa_nil))) (pe_callB call_isi (by rfl) B.isinstance (by decide +kernel) (pa_cons (pv 1) (pa_cons (pe_bltn (v := .ty "int") (by rfl) B.int (by decide +kernel) rfl) pa_nil))) (nomark _))))) pss_never pss_nil)
        (pss_one (ps_ret (pe_and (pe_cmpR op_eq (pe_callB call_isi (by rfl) B.isinstance (by decide +kernel) (pa_cons (pv 0) (pa_cons (pe_bltn (v := .ty "str") (by rfl) B.str (by decide +kernel) rfl) pa_nil))) (pe_callB call_isi (by rfl) B.isinstance (by decide +kernel) (pa_cons (pv 1) (pa_cons (pe_bltn (v := .ty "str") (by rfl) B.str (by decide +kernel) rfl) pa_nil))) (nomark _)) (pe_one (pe_cmpR op_eq (pv 0) (pv 1) (nomark _)))))))), ?_⟩
        rintro σ H1 ⟨rfl, fx, s1⟩
        obtain ⟨T, b1, b2, b3, ty1, k1, k2, k3, k4, k5⟩ := flat_kit (K := K) (H := H1) fx
        refine ⟨x, rfl, rfl, _, rfl, ite2 (fun e => ?_) (fun e => ?_)⟩
        · have ex : x = .non := of_decide_eq_true e
          subst ex
          refine iteT ⟨_, rfl, rfl, _, rfl, ite2 (fun _ => ⟨_, rfl, rfl, ?_⟩) (fun z => absurd (decide_eq_true rfl) z)⟩
          exact q _ s1
        · refine ⟨x, rfl, rfl, _, rfl, ite2 (fun e2 => absurd e2 e) (fun _ => ?_)⟩
          refine ⟨x, rfl, x, _, _, _, b1, rfl, .ty "bool", ty1, kit_ty k3, x, rfl, x, _, _, _, b1, rfl, .ty "bool", ty1, kit_ty k3, rfl, _, rfl, ite2 (fun z => ?_) (fun _ => ?_)⟩
          · rw [ne_bl] at z
            cases z
          · refine ⟨x, rfl, x, _, _, _, b2, rfl, .ty "int", ty1, kit_ty k4, x, rfl, x, _, _, _, b2, rfl, .ty "int", ty1, kit_ty k4, rfl, _, rfl, ite2 (fun z => ?_) (fun _ => ?_)⟩
            · rw [ne_bl] at z
              cases z
            · refine ⟨x, rfl, x, _, _, _, b3, rfl, .ty "str", ty1, kit_ty k5, x, rfl, x, _, _, _, b3, rfl, .ty "str", ty1, kit_ty k5, rfl, _, rfl, ite2 (fun z => ?_) (fun z => absurd (decide_eq_true rfl) z)⟩
              refine ⟨x, rfl, x, rfl, scal_flat fx, ?_⟩
              rw [decide_eq_true rfl]
              exact q _ s1
      · intro u hu
        refine ⟨_, ps_if (pt_val (pe_callB call_isiT (by rfl) B.isinstance (by decide +kernel) (pa_cons (pv 1) (pa_cons (pe_tup (pa_cons (pe_bltn (v := .ty "list") (by rfl) B.list (by decide +kernel) rfl) (pa_cons (pe_bltn (v := .ty "tuple") (by rfl) B.tuple (by decide +kernel) rfl) pa_nil))) pa_nil))))
          (pss_cons (ps_if (PW.pt (pw_or (pt_cmpR op_ne (pe_callB call_isi (by rfl) B.isinstance (by decide +kernel) (pa_cons (pv 0) (pa_cons (pe_bltn (v := .ty "list") (by rfl) B.list (by decide +kernel) rfl) pa_nil))) (pe_callB call_isi (by rfl) B.isinstance (by decide +kernel) (pa_cons (pv 1) (pa_cons (pe_bltn (v := .ty "list") (by rfl) B.list (by decide +kernel) rfl) pa_nil))) (nomark _)) (pw_or1 (pt_cmpR op_ne (pe_callB call_isi (by rfl) B.isinstance (by decide +kernel) (pa_cons (pv 0) (pa_cons (pe_bltn (v := .ty "tuple") (by rfl) B.tuple (by decide +kernel) rfl) pa_nil))) (pe_callB call_isi (by rfl) B.isinstance (by decide +kernel) (pa_cons (pv 1) (pa_cons (pe_bltn (v := .ty "tuple") (by rfl) B.tuple (by decide +kernel) rfl) pa_nil))) (nomark _))))) pss_never pss_nil)
          (pss_one (ps_ret (pe_and (pe_cmpR op_eq (pe_callB call_len_seq (by rfl) B.len PySem.boot_len (pa_cons (pv 0) pa_nil)) (pe_callB call_len_seq (by rfl) B.len PySem.boot_len (pa_cons (pv 1) pa_nil)) (nomark _))
            (pe_one (pe_callB (cr_all rfl) (by rfl) B.all (by decide +kernel) (pa_cons (pe_lc (own := [("_law_one", 2), ("_law_other", 3)]) (g := gTup K 2 (gCons (gName 2) (gCons (gName 3) gNil))) (tt := tYes) (by rfl) sc_same.nd (RZ.pi_zipA (by rfl) B.zip (pa_cons (pv 0) (pa_cons (pv 1) pa_nil)))
              (blkOk_by (own := [("_law_one", 2), ("_law_other", 3)]) (N := ["_law_found", "_law_due", "_law_one", "_law_other"]) (sc := defScope s__law_same) (by decide +kernel))
              (fun _ _ _ _ _ => pg_tup rfl (pgs_cons (pg_name (i := 2) sc_same.nd rfl (.inl rfl)) (pgs_cons (pg_name (i := 3) sc_same.nd rfl (.inl rfl)) pgs_nil))) (fun _ _ _ _ _ => pts_nil)
              (fun _ _ _ _ _ => pe_call GR hr (by rfl) gR kR bR .nil pass0 (pa_cons (pv 2) (pa_cons (pv 3) pa_nil)))) pa_nil))))))) pss_nil, ?_⟩
        refine ⟨y, rfl, (by show 2 ≤ sizeLine; decide), fun p np => ?_⟩
        have s1 := same_upd (o := .tup [.ty "list", .ty "tuple"]) np
        rcases hE with ⟨fx, rfl⟩ | ⟨pa, pb, xs, ys, rfl, rfl, hxy, hlen, hsz, hEach⟩
        · obtain ⟨T, b1, b2, b3, ty, k1, k2, k3, k4, k5⟩ := flat_kit (K := K) (H := upd H p (.tup [.ty "list", .ty "tuple"])) fx
          exact ⟨x, p, _, _, [.type "list", .type "tuple"], false, rfl, upd_same, .cons (.ty _) (.cons (.ty _) .nil), ty, kit2 k1 k2, _, rfl, iteF (hu _ _ ⟨rfl, fx, s1⟩)⟩
        · obtain ⟨T, bl, bt, tyx, tyy, kany, kl, kt⟩ : ∃ (T : String) (bl bt : Bool), TyX K (upd H p (.tup [.ty "list", .ty "tuple"])) (.ref pa) (.type T) ∧ TyX K (upd H p (.tup [.ty "list", .ty "tuple"])) (.ref pb) (.type T) ∧
              PySem.W.kitAny K (.type T) [.type "list", .type "tuple"] = some true ∧ kitB T "list" = some bl ∧ kitB T "tuple" = some bt := by
            rcases hxy with ⟨ha, hb⟩ | ⟨ha, hb⟩
            · exact ⟨"list", true, false, .base (.lst (s1 _ _ ha)), .base (.lst (s1 _ _ hb)), kitAny_cons (kit_ty (b := "list") (r := true) (by decide +kernel)) (fun q => nomatch q) (fun _ => rfl), by decide +kernel, by decide +kernel⟩
            · exact ⟨"tuple", false, true, .base (.tup (s1 _ _ ha)), .base (.tup (s1 _ _ hb)), kitAny_cons (kit_ty (b := "list") (r := false) (by decide +kernel)) (fun _ => kitAny_cons (kit_ty (b := "tuple") (r := true) (by decide +kernel)) (fun q => nomatch q) (fun _ => rfl)) (fun q => nomatch q), by decide +kernel, by decide +kernel⟩
          refine ⟨_, p, _, _, [.type "list", .type "tuple"], true, rfl, upd_same, .cons (.ty _) (.cons (.ty _) .nil), tyy, kany, _, rfl, iteT ?_⟩
          refine ⟨_, rfl, _, _, _, _, bl, rfl, .ty "list", tyx, kit_ty kl, _, rfl, _, _, _, _, bl, rfl, .ty "list", tyy, kit_ty kl, rfl, _, rfl, ite2 (fun z => ?_) (fun _ => ?_)⟩
          · rw [ne_bl] at z
            cases z
          refine ⟨_, rfl, _, _, _, _, bt, rfl, .ty "tuple", tyx, kit_ty kt, _, rfl, _, _, _, _, bt, rfl, .ty "tuple", tyy, kit_ty kt, rfl, _, rfl, ite2 (fun z => ?_) (fun _ => ?_)⟩
          · rw [ne_bl] at z
            cases z
          have sqx : SqL K (upd H p (.tup [.ty "list", .ty "tuple"])) pa xs ∨ SqT K (upd H p (.tup [.ty "list", .ty "tuple"])) pa xs := hxy.elim (fun h => .inl (SqL.of (s1 _ _ h.1))) (fun h => .inr (SqT.of (s1 _ _ h.1)))
          have sqy : SqL K (upd H p (.tup [.ty "list", .ty "tuple"])) pb ys ∨ SqT K (upd H p (.tup [.ty "list", .ty "tuple"])) pb ys := hxy.elim (fun h => .inl (SqL.of (s1 _ _ h.2))) (fun h => .inr (SqT.of (s1 _ _ h.2)))
          refine ⟨_, rfl, pa, xs, rfl, sqx, _, rfl, pb, ys, rfl, sqy, rfl, _, rfl, ite2 (fun _ => ?_) (fun z => absurd (decide_eq_true (by rw [hlen])) z)⟩
          refine ⟨_, rfl, _, rfl, pa, pb, xs, ys, rfl, ?_⟩
          have turn : ∀ (i : Nat) (x y : V) (D T : Addr) (H2 : Hp), (upd H p (.tup [.ty "list", .ty "tuple"])) D = none → xs[i]? = some x → ys[i]? = some y → Same (upd H p (.tup [.ty "list", .ty "tuple"])) H2 → H2 D = some (.lst (List.replicate i (V.bl true))) → H2 T = none →
              ∃ x' y' : V, [x, y] ++ [] = [x', y'] ∧ Eqv (upd H2 T (.tup [x, y])) n x' y' ∧ ∀ H', Same (upd H2 T (.tup [x, y])) H' → ∃ acc, H' D = some (.lst acc) ∧ acc.length < sizeLine ∧ (Same (upd H p (.tup [.ty "list", .ty "tuple"])) (upd H' D (.lst (acc ++ [.bl true]))) ∧ (upd H' D (.lst (acc ++ [.bl true]))) D = some (.lst (List.replicate (i + 1) (V.bl true)))) := by
            intro i x y D T H2 nD hx hy s2 hD nT
            have s3 : Same H2 (upd H2 T (.tup [x, y])) := same_upd nT
            have hi : i < xs.length := (List.getElem?_eq_some_iff.mp hx).1
            refine ⟨x, y, rfl, (hEach i x y hx hy).same (s1.trans (s2.trans s3)), fun H' s4 => ⟨_, s4 _ _ (s3 _ _ hD), ?_, fun a o e => ?_, ?_⟩⟩
            · rw [List.length_replicate]
              exact lineLt_of (by omega)
            · rw [upd_ne (ne_of_none e nD)]
              exact s4 _ _ (s3 _ _ (s2 _ _ e))
            · rw [upd_same, List.replicate_succ']
          have fin : ∀ (D : Addr) (H2 : Hp), Same (upd H p (.tup [.ty "list", .ty "tuple"])) H2 → H2 D = some (.lst (List.replicate xs.length (V.bl true))) → ∃ (a : Addr) (bs : List Bool), [V.ref D] = [V.ref a] ∧ SqL K H2 a (bs.map V.bl) ∧ Q (.bl (bs.all id)) H2 := by
            intro D H2 s2 hD
            refine ⟨D, List.replicate xs.length true, rfl, SqL.of (by rw [hD, List.map_replicate]), ?_⟩
            rw [all_true]
            exact q _ (s1.trans s2)
          rcases hxy with ⟨ha, hb⟩ | ⟨ha, hb⟩
          · refine .inl ⟨SqL.of (s1 _ _ ha), SqL.of (s1 _ _ hb), fun D nD => ?_⟩
            refine lc_gen (n := xs.length) (fun i H2 => Same (upd H p (.tup [.ty "list", .ty "tuple"])) H2 ∧ H2 D = some (.lst (List.replicate i (V.bl true)))) ⟨same_upd nD, upd_same⟩ ?_ ?_ ?_ ?_
            · rintro i H2 hi ⟨s2, hD⟩
              exact ⟨xs, ys, _, _, SqL.of (s2 _ _ (s1 _ _ ha)), SqL.of (s2 _ _ (s1 _ _ hb)), List.getElem?_eq_getElem hi, List.getElem?_eq_getElem (by omega)⟩
            · rintro H2 ⟨s2, hD⟩
              exact ⟨xs, ys, SqL.of (s2 _ _ (s1 _ _ ha)), SqL.of (s2 _ _ (s1 _ _ hb)), .inl (Nat.le_refl _)⟩
            · rintro i v H2 H3 hi ⟨s2, hD⟩ ⟨T, x, y, rfl, nT, rfl, f1, f2⟩
              refine ⟨T, [x, y], rfl, .inl (.inl upd_same), rfl, x, [y], rfl, y, [], rfl, rfl, rfl, ?_⟩
              refine yes_if ?_
              exact ⟨_, rfl, _, rfl, turn i x y D T H2 nD (f1 xs (SqL.of (s2 _ _ (s1 _ _ ha)))) (f2 ys (SqL.of (s2 _ _ (s1 _ _ hb)))) s2 hD nT⟩
            · rintro H2 ⟨s2, hD⟩
              exact fin D H2 s2 hD
          · refine .inr ⟨SqT.of (s1 _ _ ha), SqT.of (s1 _ _ hb), fun D nD => ?_⟩
            refine lc_gen (n := xs.length) (fun i H2 => Same (upd H p (.tup [.ty "list", .ty "tuple"])) H2 ∧ H2 D = some (.lst (List.replicate i (V.bl true)))) ⟨same_upd nD, upd_same⟩ ?_ ?_ ?_ ?_
            · rintro i H2 hi ⟨s2, hD⟩
              exact ⟨xs, ys, _, _, SqT.of (s2 _ _ (s1 _ _ ha)), SqT.of (s2 _ _ (s1 _ _ hb)), List.getElem?_eq_getElem hi, List.getElem?_eq_getElem (by omega)⟩
            · rintro H2 ⟨s2, hD⟩
              exact ⟨xs, ys, SqT.of (s2 _ _ (s1 _ _ ha)), SqT.of (s2 _ _ (s1 _ _ hb)), .inl (Nat.le_refl _)⟩
            · rintro i v H2 H3 hi ⟨s2, hD⟩ ⟨T, x, y, rfl, nT, rfl, f1, f2⟩
              refine ⟨T, [x, y], rfl, .inl (.inl upd_same), rfl, x, [y], rfl, y, [], rfl, rfl, rfl, ?_⟩
              refine yes_if ?_
              exact ⟨_, rfl, _, rfl, turn i x y D T H2 nD (f1 xs (SqT.of (s2 _ _ (s1 _ _ ha)))) (f2 ys (SqT.of (s2 _ _ (s1 _ _ hb)))) s2 hD nT⟩
            · rintro H2 ⟨s2, hD⟩
              exact fin D H2 s2 hD
end
end Sf
namespace Sf
open PySem PySem.Spec PyProof.Rows L2 TL
section
variable {P : Program} {w : World} {K : PySem.W.Frag} {mg : Str → Option Value} {base : Heap}
/-! ### is_word -/
def isW (x : Str) : Bool := decide (x.length ≤ 60) && (tl x).all sgn
def spIsWord : Sp := fun vs H Q _ => ∃ x : Str, vs = [.str x] ∧ x.length ≤ 100000 ∧ ∀ H', Same H H' → Q (.bl (isW x)) H'
abbrev HasIsWord (P : Program) (w : World) (K : PySem.W.Frag) (mg : Str → Option Value) (base : Heap) : Prop := Has P w K mg base 1 "is_word" ["text"] spIsWord
theorem sc_isword : FnScope ["text", "sign"] ["text"] (defScope s_is_word) := ⟨rfl, rfl, rfl, by decide +kernel, rfl, by decide +kernel, by decide +kernel⟩
theorem dec_signs {c : Nat} : decide (c ∈ (Str.ofString "aAbBcCdDeEfFgGhH").cps.toList) = sgn c := by
  rw [Bool.eq_iff_iff, decide_eq_true_eq]
  exact in_signs
theorem getElem?_of_cps {x : Str} {i c : Nat} (h : x.cps[i]? = some c) : (tl x)[i]? = some c := by
  rw [← h]
  exact Array.getElem?_toList
theorem has_isword (F : FnAt K mg "is_word" s_is_word ["text"]) (B : Blt mg) {t1 t2 : Tok} (mM : mg "MOST_WORD" = some (.int 60 t1)) (mS : mg "SIGNS" = some (.str (Str.ofString "aAbBcCdDeEfFgGhH") t2)) : HasIsWord P w K mg base := F.has fun F => by
  refine F.ok sc_isword (fun vs H Q E h => ?_) (fun cdv A outer s H vs Q E hr h => ?_)
  · obtain ⟨x, rfl, _⟩ := h
    rfl
  · obtain ⟨x, rfl, hlen, q⟩ := h
    have hz : x.cps.size = (tl x).length := len_tl x
    refine ⟨_, pss_one (ps_ret (pe_and (pe_cmpR op_le (pe_callB call_len_str (by rfl) B.len PySem.boot_len (pa_cons (pv 0) pa_nil)) (pe_glob (v := .int 60) (by rfl) mM ⟨_, rfl⟩) (nomark _))
      (pe_one (pe_callB (cr_all rfl) (by rfl) B.all (by decide +kernel) (pa_cons (pe_lc (own := [("sign", 1)]) (g := gName 1) (tt := tYes) (by rfl) sc_isword.nd (pi_str (pv 0))
        (blkOk_by (own := [("sign", 1)]) (N := ["text", "sign"]) (sc := defScope s_is_word) (by decide +kernel)) (fun _ _ _ _ _ => pg_name (i := 1) sc_isword.nd rfl (.inl rfl)) (fun _ _ _ _ _ => pts_nil)
        (fun _ _ _ _ _ => pe_cmpR op_in_sign (pv 1) (pe_glob (v := .str (Str.ofString "aAbBcCdDeEfFgGhH")) (by rfl) mS ⟨_, rfl⟩) rfl)) pa_nil))))), ?_⟩
    refine ⟨_, rfl, x, rfl, line_of hlen, _, 60, rfl, rfl, _, rfl, ite2 (fun e => ?_) (fun e => ?_)⟩
    · refine ⟨_, rfl, x, rfl, fun D nD => ?_⟩
      refine lc_gen (n := x.cps.size) (fun i H2 => Same H H2 ∧ H2 D = some (.lst (((tl x).take i).map fun c => V.bl (sgn c)))) ⟨same_upd nD, upd_same⟩ ?_ ?_ ?_ ?_
      · rintro i H2 hi ⟨s2, hD⟩
        exact hi
      · rintro H2 ⟨s2, hD⟩
        exact Nat.le_refl _
      · rintro i v H2 H3 hi ⟨s2, hD⟩ ⟨rfl, c, hc, rfl⟩
        refine ⟨rfl, yes_if ?_⟩
        refine ⟨_, rfl, c, _, rfl, rfl, _, hD, ?_, fun a o e => ?_, ?_⟩
        · rw [List.length_map, List.length_take]
          exact lineLt_of (Nat.le_trans (Nat.min_le_right _ _) (by rw [← hz]; exact hlen))
        · rw [upd_ne (ne_of_none e nD)]
          exact s2 _ _ e
        · have ed : decide (c ∈ (Str.ofString "aAbBcCdDeEfFgGhH").cps.toList) = sgn c := dec_signs
          rw [upd_same, List.take_add_one, getElem?_of_cps hc, List.map_append, ed]
          rfl
      · rintro H2 ⟨s2, hD⟩
        refine ⟨D, (tl x).map sgn, rfl, SqL.of ?_, ?_⟩
        · rw [hD, List.take_of_length_le (by rw [hz]; exact Nat.le_refl _), List.map_map]
          rfl
        · have h1 := q H2 s2
          have e1 : decide (x.length ≤ 60) = true := decide_eq_true (by have := of_decide_eq_true e; omega)
          have e2 : ((tl x).map sgn).all id = (tl x).all sgn := by
            rw [List.all_map]
            rfl
          rw [e2]
          unfold isW at h1
          rw [e1, Bool.true_and] at h1
          exact h1
    · have h1 := q H (.refl H)
      have e1 : decide (x.length ≤ 60) = false := decide_eq_false (fun z => e (decide_eq_true (by omega)))
      unfold isW at h1
      rw [e1, Bool.false_and] at h1
      exact h1
theorem isW_true {x : Str} (h : Wd x) (hl : x.length ≤ 60) : isW x = true := by
  unfold isW
  rw [decide_eq_true hl, Bool.true_and, List.all_eq_true]
  exact h
end
end Sf
namespace Sf
open PySem PySem.Spec PyProof.Rows L2 TL
section
variable {X : Cx}
/-! ### text * int -/
theorem op_mul_str : OpR X (binaryOp .Mult) (fun x y H Q => ∃ (a : Str) (n : Int), x = .str a ∧ y = .int n ∧ 0 ≤ n ∧ n ≤ 1000 ∧ a.length ≤ 1000 ∧ Q (.str (Txt.mul a n)) H) := by
  intro pins s σ H x y v u Q I rx ry h
  obtain ⟨a, n, rfl, rfl, h0, h1, h2, q⟩ := h
  obtain ⟨t, rfl⟩ := rx
  obtain ⟨t', rfl⟩ := ry
  refine PySem.SB.mul ⟨?_, fun hn _ => ?_, fun _ _ => ?_⟩ fun t' k => ⟨.str _, H, I.tok k, ⟨t', rfl⟩, q⟩
  · rw [decide_eq_false (by omega), decide_eq_false (by omega)]
    rfl
  · have h3 : (2 ^ 63 - 1) / n ≥ 9223372036854775807 / 1000 := by
      show (9223372036854775807 : Int) / 1000 ≤ (2 ^ 63 - 1) / n
      have e : (2 ^ 63 - 1 : Int) = 9223372036854775807 := by decide
      rw [e]
      refine (Int.le_ediv_iff_mul_le (by omega)).mpr ?_
      have : (9223372036854775807 : Int) / 1000 * n ≤ (9223372036854775807 : Int) / 1000 * 1000 := Int.mul_le_mul_of_nonneg_left h1 (by decide)
      have e2 : (9223372036854775807 : Int) / 1000 * 1000 ≤ 9223372036854775807 := by decide
      omega
    have e3 : (9223372036854775807 : Int) / 1000 = 9223372036854775 := by decide
    omega
  · refine PyProof.Rows.short24 ?_
    have h5 : n.toNat ≤ 1000 := by omega
    exact Nat.le_trans (Nat.mul_le_mul h2 h5) (by decide)
theorem mul_len {a : Str} {n : Int} (h : 0 ≤ n) : (Txt.mul a n).length = a.length * n.toNat := by
  obtain ⟨m, rfl⟩ : ∃ m : Nat, n = (m : Int) := ⟨n.toNat, by omega⟩
  have h1 := PyProof.Rows.len_mul a (m : Int)
  rw [decide_eq_false (by omega)] at h1
  have e : (if false = true then (0 : Int) else (m : Int)) = (m : Int) := rfl
  rw [e, ← Int.natCast_mul] at h1
  rw [Int.toNat_natCast]
  exact Int.ofNat.inj h1
theorem foldl_app (a : Array Nat) : ∀ (k : Nat) (acc : Array Nat) (c : Nat), c ∈ ((List.replicate k a).foldl (· ++ ·) acc).toList → c ∈ acc.toList ∨ c ∈ a.toList
  | 0, acc, c, h => .inl h
  | k + 1, acc, c, h => by
    rw [List.replicate_succ, List.foldl_cons] at h
    rcases foldl_app a k (acc ++ a) c h with h | h
    · rw [Array.toList_append, List.mem_append] at h
      exact h
    · exact .inr h
theorem mul_mem {a : Str} {n : Int} {c : Nat} (h : c ∈ tl (Txt.mul a n)) : c ∈ tl a := by
  unfold Txt.mul at h
  split at h
  · cases h
  · split at h
    · exact h
    · rcases foldl_app a.cps n.toNat #[] c h with h | h
      · cases h
      · exact h
theorem Wd.mul {a : Str} {n : Int} (h : Wd a) : Wd (Txt.mul a n) := fun c hc => h c (mul_mem hc)
theorem tl_cut (z : Str) (lo hi : Option Int) : tl (cutS z lo hi) = ((tl z).drop (HT.sIx z.length 0 lo)).take (HT.sIx z.length z.length hi - HT.sIx z.length 0 lo) := by
  unfold cutS
  rfl
theorem Wd.cut {z : Str} {lo hi : Option Int} (h : Wd z) : Wd (cutS z lo hi) := fun c hc => by
  rw [tl_cut] at hc
  exact h c (List.mem_of_mem_drop (List.mem_of_mem_take hc))
end
end Sf
namespace Sf
open PySem PySem.Spec PyProof.Rows L2 TL
section
variable {X : Cx}
/-! ### text[::-1] -/
def revS (z : Str) : Str := ⟨(tl z).reverse.toArray⟩
theorem tl_revS (z : Str) : tl (revS z) = (tl z).reverse := rfl
theorem rev_picked (z : Str) : ((Builtin.Str.strSliceIndices none none (-1) z.length).filterMap (z.cps[·]?)) = (tl z).reverse := by
  rw [picked_rev]
  apply List.ext_getElem?
  intro i
  have hz : z.length = (tl z).length := len_tl z
  rw [PyProof.Rows.filterMap_get _ _ (fun k hk => by
    obtain ⟨j, hj, rfl⟩ := List.mem_map.mp hk
    have := List.mem_range.mp hj
    show z.length - 1 - j < z.length
    omega), List.map_map]
  by_cases h : i < z.length
  · rw [List.getElem?_reverse (by omega), List.getElem?_map, List.getElem?_range h]
    show some (z.cps.getD (z.length - 1 - i) 0) = _
    have h2 : z.length - 1 - i < z.cps.size := by show z.length - 1 - i < z.length; omega
    rw [← hz, Array.getElem?_toList]
    simp [Array.getD, h2]
  · rw [List.getElem?_eq_none (by rw [List.length_map, List.length_range]; omega), List.getElem?_eq_none (by rw [List.length_reverse, ← hz]; omega)]
def tRevS (te : TE) : TE := fun σ H Q => te σ H fun x H1 => ∃ z, x = .str z ∧ z.length ≤ sizeLine ∧ Q (.str (revS z)) H1
theorem pe_revS {e : Expr} {te : TE} {k : Nat} {p1 p2 p3 pos : Pos} (he : PE X e te) : PE X (.Subscript e (.Slice none none (some (.UnaryOp .USub (.Constant (.int 1) k p1) p2)) p3) pos) (tRevS te) := by
  refine ⟨fun pins s σ H Q I h => ?_⟩
  refine Subscript_ (thn (he.run pins s σ H _ I h) fun v s1 ⟨x, H1, I1, r1, q1⟩ => ?_)
  obtain ⟨z, ex, hz, q⟩ := q1
  subst ex
  obtain ⟨tz, rfl⟩ := r1
  have hst : PO X (some (.UnaryOp .USub (.Constant (.int 1) k p1) p2)) (tPart (tUn (rU fun i => .int (-i)) (tC (.int 1)))) := po_some (pe_un un_neg pe_int)
  refine wpAny_Slice (thn (po_none.run pins s1 σ H1 (fun o H2 => o = none ∧ H2 = H1) I1 ⟨rfl, rfl⟩) fun vl s2 ⟨l, H2, I2, pl, el, e2⟩ => ?_)
  subst el e2
  refine thn (po_none.run pins s2 σ H2 (fun o H3 => o = none ∧ H3 = H2) I2 ⟨rfl, rfl⟩) fun vu s3 ⟨u, H3, I3, pu, eu, e3⟩ => ?_
  subst eu e3
  refine thn (hst.run pins s3 σ H3 (fun o H4 => o = some (-1) ∧ H4 = H3) I3 ⟨1, rfl, -1, rfl, rfl, rfl⟩) fun vs s4 ⟨o, H4, I4, ps, eo, e4⟩ => ?_
  subst eo e4
  cases pl
  cases pu
  cases ps with
  | int _ ts =>
  have I5 : Inv X pins σ H4 { s4 with heap := s4.heap.push { cls := .type "slice", data := .fields #[.none, .none, .int (-1) ts] } } := I4.kept (t' := s4.toks) fun b ob q => Heap.get?_push_of_some _ q
  show wpAny (model X.prog X.w) X.A (subscriptTail e (.Slice none none (some (.UnaryOp .USub (.Constant (.int 1) k p1) p2)) p3) (.str z tz) (.ref s4.heap.objs.size)) (EP X pins σ Q) X.xe { s4 with heap := s4.heap.push { cls := .type "slice", data := .fields #[.none, .none, .int (-1) ts] } }
  refine tail_any (ops := [.str z tz, .ref s4.heap.objs.size]) (typeIs_str _ _ _) (PySem.F.slot_str_getitem.lookup) ?_ (by with_unfolding_all rfl)
  refine wpAny_getItem_str_slice (l := none) (u := none) (st := some (-1, ts)) ⟨_, Heap.get?_push_size _ rfl, rfl, rfl⟩ rfl ?_
  have e1 : sliceMade z tz none none (some (-1, ts)) = Made.str (revS z) := by
    unfold sliceMade slicePicked
    have h1 : ¬ (((((some ((-1 : Int), ts)).map (·.1)).getD 1 == 1) && ((Builtin.Str.strSliceIndices ((none : Option (Int × Tok)).map (·.1)) ((none : Option (Int × Tok)).map (·.1)) (((some ((-1 : Int), ts)).map (·.1)).getD 1) z.length).length == z.length)) = true) := by
      have : ((((some ((-1 : Int), ts)).map (·.1)).getD 1 == 1)) = false := rfl
      rw [this]
      simp
    rw [if_neg h1]
    show Made.str ⟨((Builtin.Str.strSliceIndices none none (-1) z.length).filterMap (z.cps[·]?)).toArray⟩ = _
    rw [rev_picked]
    rfl
  rw [e1]
  refine ⟨?_, .str _, H4, I5.tok _, ⟨_, rfl⟩, q⟩
  rw [len_tl, tl_revS, List.length_reverse, ← len_tl]
  exact hz
/-! ### text.swapcase() -/
theorem mt_swapcase : MtR X "str.swapcase" (fun x xs H Q => ∃ a, x = .str a ∧ xs = [] ∧ a.length ≤ 5592405 ∧ Q (.str (Txt.swapcase a)) H) :=
  mt0 (C := fun a => a.length ≤ 5592405) (g := fun a => .str (Txt.swapcase a)) fun a _ s _ hc h =>
    PySem.SC.swapcase (PyProof.Rows.fit_swapcase hc) (h _ (s.toks + 1) ⟨_, rfl⟩)
theorem pe_swapcase {o : Expr} {to : TE} {apos pos : Pos} (ho : PE X o to) (hbase : attributeBase o "swapcase" X.env (eval o X.env) = eval o X.env := by rfl) (hline : (apos.endLine == pos.line) = true := by rfl) :
    PE X (.Call (.Attribute o "swapcase" apos) [] [] pos) (tM0 (fun x xs H Q => ∃ a, x = .str a ∧ xs = [] ∧ a.length ≤ 5592405 ∧ Q (.str (Txt.swapcase a)) H) to) :=
  pe_m0 PySem.F.slot_str_swapcase PySem.F.type_str_swapcase mt_swapcase ho hbase hline
theorem case_sgn : ∀ c, c < 128 → sgn c = true → (if Unicode.isUpper c then PyProof.Rows.lo1 c else if Unicode.isLower c then PyProof.Rows.up1 c else c) = flipC c := by decide +kernel
theorem sgn_lt {c : Nat} (h : sgn c = true) : c < 128 := by
  rw [sgn_iff] at h
  omega
def flipS (x : Str) : Str := ⟨((tl x).map flipC).toArray⟩
theorem swap_wd {x : Str} (h : Wd x) : Txt.swapcase x = flipS x := by
  unfold Txt.swapcase
  rw [PyProof.Rows.placed_single x _ flipC fun i c hc => by
    have hc' : x.cps[i]? = some c := by simpa using hc
    have hs := h c (List.mem_of_getElem? hc)
    have hlt := sgn_lt hs
    have hk := case_sgn c hlt hs
    unfold Unicode.lowerAt
    rw [hc']
    have hne : (c == 0x3A3) = false := by rw [beq_eq_false_iff_ne]; omega
    simp only [hne, Bool.false_and, Bool.false_eq_true, if_false]
    rw [PyProof.Rows.lowerOf_ascii c hlt, PyProof.Rows.upperOf_ascii c hlt, ← hk]
    by_cases h1 : Unicode.isUpper c = true
    · rw [if_pos h1, if_pos h1]
    · rw [if_neg h1, if_neg h1]
      by_cases h2 : Unicode.isLower c = true
      · rw [if_pos h2, if_pos h2]
      · rw [if_neg h2, if_neg h2]]
  apply ext_tl
  show (x.cps.map flipC).toList = (tl x).map flipC
  rw [Array.toList_map]
theorem flipS_one (c : Nat) : flipS (one c) = one (flipC c) := rfl
theorem tl_flipS (x : Str) : tl (flipS x) = (tl x).map flipC := rfl
theorem rev_wd {x : Str} (h : Wd x) : Wd (revS x) := fun c hc => h c (List.mem_reverse.mp hc)
theorem revS_len (x : Str) : (revS x).length = x.length := by rw [len_tl, tl_revS, List.length_reverse, ← len_tl]
end
end Sf
namespace Sf
open PySem PySem.Spec PyProof.Rows L2 TL
/-! ### words as lists of codes; the stack of a walk (its head is the last sign) -/
abbrev Sg (l : List Nat) : Prop := ∀ c ∈ l, sgn c = true
theorem flip2 {c : Nat} (h : sgn c = true) : flipC (flipC c) = c := by
  rw [sgn_iff] at h
  unfold flipC
  by_cases h1 : 97 ≤ c
  · rw [if_pos h1, if_neg (by omega)]
    omega
  · rw [if_neg h1, if_pos (by omega)]
    omega
theorem flip_inj {c d : Nat} (hc : sgn c = true) (hd : sgn d = true) (h : flipC c = flipC d) : c = d := by
  rw [← flip2 hc, ← flip2 hd, h]
def pushS (s : List Nat) (c : Nat) : List Nat :=
  match s with
  | [] => [c]
  | x :: t => if x = flipC c then t else c :: x :: t
def RedS : List Nat → Prop
  | [] => True
  | [_] => True
  | x :: y :: t => y ≠ flipC x ∧ RedS (y :: t)
theorem RedS.tail {x : Nat} {t : List Nat} (h : RedS (x :: t)) : RedS t := by
  cases t with
  | nil => trivial
  | cons y t => exact h.2
theorem RedS.suffix : ∀ {a b : List Nat}, RedS (a ++ b) → RedS b
  | [], _, h => h
  | _ :: a, _, h => RedS.suffix (a := a) (RedS.tail h)
theorem pushS_red {s : List Nat} {c : Nat} (h : RedS s) : RedS (pushS s c) := by
  cases s with
  | nil => trivial
  | cons x t =>
    unfold pushS
    by_cases e : x = flipC c
    · simp only [if_pos e]
      exact h.tail
    · simp only [if_neg e]
      exact ⟨e, h⟩
theorem pushS_sg {s : List Nat} {c : Nat} (h : Sg s) (hc : sgn c = true) : Sg (pushS s c) := by
  cases s with
  | nil =>
    intro d hd
    rw [pushS, List.mem_singleton] at hd
    rw [hd]
    exact hc
  | cons x t =>
    unfold pushS
    by_cases e : x = flipC c
    · simp only [if_pos e]
      exact fun d hd => h d (List.mem_cons_of_mem _ hd)
    · simp only [if_neg e]
      intro d hd
      rcases List.mem_cons.mp hd with rfl | hd
      · exact hc
      · exact h d hd
theorem pushS_inv {s : List Nat} {c : Nat} (h : RedS s) (hs : Sg s) (hc : sgn c = true) : pushS (pushS s c) (flipC c) = s := by
  cases s with
  | nil =>
    show (if c = flipC (flipC c) then [] else _) = ([] : List Nat)
    rw [if_pos (flip2 hc).symm]
  | cons x t =>
    by_cases e : x = flipC c
    · have e1 : pushS (x :: t) c = t := by simp only [pushS, if_pos e]
      rw [e1, e]
      cases t with
      | nil => rfl
      | cons y t =>
        have hn : ¬ y = flipC (flipC c) := by
          rw [← e]
          exact h.1
        simp only [pushS, if_neg hn]
    · have e1 : pushS (x :: t) c = c :: x :: t := by simp only [pushS, if_neg e]
      rw [e1]
      simp only [pushS, if_pos (flip2 hc).symm]
def runS (s w : List Nat) : List Nat := w.foldl pushS s
theorem runS_cons (s : List Nat) (c : Nat) (w : List Nat) : runS s (c :: w) = runS (pushS s c) w := rfl
theorem runS_app (s u v : List Nat) : runS s (u ++ v) = runS (runS s u) v := List.foldl_append
theorem runS_red : ∀ {w s : List Nat}, RedS s → RedS (runS s w)
  | [], _, h => h
  | _ :: w, _, h => runS_red (w := w) (pushS_red h)
theorem runS_sg : ∀ {w s : List Nat}, Sg s → Sg w → Sg (runS s w)
  | [], _, h, _ => h
  | c :: w, _, h, hw => runS_sg (w := w) (pushS_sg h (hw c (List.mem_cons_self ..))) (fun d hd => hw d (List.mem_cons_of_mem _ hd))
def backL (w : List Nat) : List Nat := (w.map flipC).reverse
theorem backL_cons (c : Nat) (w : List Nat) : backL (c :: w) = backL w ++ [flipC c] := by
  unfold backL
  rw [List.map_cons, List.reverse_cons]
theorem backL_app (u v : List Nat) : backL (u ++ v) = backL v ++ backL u := by
  unfold backL
  rw [List.map_append, List.reverse_append]
theorem backL_sg {w : List Nat} (h : Sg w) : Sg (backL w) := fun c hc => by
  unfold backL at hc
  rw [List.mem_reverse, List.mem_map] at hc
  obtain ⟨d, hd, rfl⟩ := hc
  exact flip_sgn (h d hd)
theorem backL_back {w : List Nat} (h : Sg w) : backL (backL w) = w := by
  unfold backL
  rw [List.map_reverse, List.reverse_reverse, List.map_map]
  have e : w.map (flipC ∘ flipC) = w.map id := List.map_congr_left fun c hc => flip2 (h c hc)
  rw [e, List.map_id]
theorem run_back : ∀ {w s : List Nat}, RedS s → Sg s → Sg w → runS (runS s w) (backL w) = s
  | [], _, _, _, _ => rfl
  | c :: w, s, h, hs, hw => by
    have hc := hw c (List.mem_cons_self ..)
    rw [runS_cons, backL_cons, runS_app, run_back (w := w) (pushS_red h) (pushS_sg hs hc) (fun d hd => hw d (List.mem_cons_of_mem _ hd))]
    exact pushS_inv h hs hc
theorem pushS_of {s : List Nat} {c : Nat} (h : RedS (c :: s)) : pushS s c = c :: s := by
  cases s with
  | nil => rfl
  | cons x t => simp only [pushS, if_neg h.1]
theorem run_of_red : ∀ {w s : List Nat}, RedS (w.reverse ++ s) → runS s w = w.reverse ++ s
  | [], _, _ => rfl
  | c :: w, s, h => by
    rw [List.reverse_cons, List.append_assoc] at h ⊢
    rw [runS_cons, pushS_of (s := s) (RedS.suffix (b := c :: s) h)]
    exact run_of_red h
/-- a word reduced, as a list from its first sign -/
def shortL (w : List Nat) : List Nat := (runS [] w).reverse
theorem shortL_sg {w : List Nat} (h : Sg w) : Sg (shortL w) := fun c hc => runS_sg (s := []) (fun _ z => by cases z) h c (List.mem_reverse.mp hc)
def push (l : List Nat) (c : Nat) : List Nat := (pushS l.reverse c).reverse
theorem shortL_snoc (w : List Nat) (c : Nat) : shortL (w ++ [c]) = push (shortL w) c := by
  unfold shortL push
  rw [runS_app, List.reverse_reverse]
  rfl
theorem push_last {l : List Nat} {c : Nat} (x : Nat) : push (l ++ [x]) c = if x = flipC c then l else l ++ [x] ++ [c] := by
  unfold push
  rw [List.reverse_append]
  show (if x = flipC c then l.reverse else c :: x :: l.reverse).reverse = _
  by_cases e : x = flipC c
  · rw [if_pos e, if_pos e, List.reverse_reverse]
  · rw [if_neg e, if_neg e]
    simp
theorem push_nil (c : Nat) : push [] c = [c] := rfl
/-- two words put together where they meet -/
def glS : List Nat → List Nat → List Nat
  | x :: s, y :: b => if x = flipC y then glS s b else (y :: b).reverse ++ (x :: s)
  | [], b => b.reverse
  | x :: s, [] => x :: s
theorem RedS.join : ∀ {a : List Nat} {y : Nat} {s : List Nat}, RedS (a ++ [y]) → RedS (y :: s) → RedS (a ++ y :: s)
  | [], _, _, _, h => h
  | [x], y, s, h, k => ⟨h.1, k⟩
  | x :: z :: a, y, s, h, k => ⟨h.1, RedS.join (a := z :: a) h.2 k⟩
theorem glS_run : ∀ {b s : List Nat}, RedS b.reverse → RedS s → glS s b = runS s b
  | [], [], _, _ => rfl
  | [], _ :: _, _, _ => rfl
  | y :: b, [], h, _ => by
    have e := run_of_red (w := y :: b) (s := []) (by rw [List.append_nil]; exact h)
    rw [List.append_nil] at e
    exact e.symm
  | y :: b, x :: s, h, k => by
    rw [List.reverse_cons] at h
    by_cases e : x = flipC y
    · have e1 : pushS (x :: s) y = s := by simp only [pushS, if_pos e]
      rw [glS, if_pos e, runS_cons, e1]
      refine glS_run ?_ k.tail
      exact RedS.prefix h
    · have e1 : pushS (x :: s) y = y :: x :: s := by simp only [pushS, if_neg e]
      rw [glS, if_neg e, runS_cons, e1, List.reverse_cons, List.append_assoc]
      exact (run_of_red (RedS.join h (show RedS (y :: x :: s) from ⟨e, k⟩))).symm
where
  RedS.prefix : ∀ {a b : List Nat}, RedS (a ++ b) → RedS a
  | [], _, _ => trivial
  | [_], _, _ => trivial
  | _ :: y :: a, _, h => ⟨h.1, RedS.prefix (a := y :: a) h.2⟩
end Sf
namespace Sf
open PySem PySem.Spec PyProof.Rows L2 TL
/-! ### texts of words -/
def mkS (l : List Nat) : Str := ⟨l.toArray⟩
theorem tl_mkS (l : List Nat) : tl (mkS l) = l := rfl
theorem mkS_tl (x : Str) : mkS (tl x) = x := mk_tl x
theorem mkS_len (l : List Nat) : (mkS l).length = l.length := by rw [len_tl, tl_mkS]
theorem eq_mkS {x : Str} {l : List Nat} (h : tl x = l) : x = mkS l := ext_tl h
/-- a word undone, reduced, glued, as texts -/
def backT (x : Str) : Str := mkS (backL (tl x))
def shortT (x : Str) : Str := mkS (shortL (tl x))
def gluT (x y : Str) : Str := mkS (glS (tl x).reverse (tl y)).reverse
theorem glS_sg : ∀ {s b : List Nat}, Sg s → Sg b → Sg (glS s b)
  | x :: s, y :: b, hs, hb => by
    unfold glS
    by_cases e : x = flipC y
    · rw [if_pos e]
      exact glS_sg (fun c hc => hs c (List.mem_cons_of_mem _ hc)) (fun c hc => hb c (List.mem_cons_of_mem _ hc))
    · rw [if_neg e]
      intro c hc
      rcases List.mem_append.mp hc with hc | hc
      · exact hb c (List.mem_reverse.mp hc)
      · exact hs c hc
  | [], b, _, hb => fun c hc => hb c (List.mem_reverse.mp (by unfold glS at hc; exact hc))
  | x :: s, [], hs, _ => hs
theorem glS_len : ∀ {s b : List Nat}, (glS s b).length ≤ s.length + b.length
  | x :: s, y :: b => by
    unfold glS
    by_cases e : x = flipC y
    · rw [if_pos e]
      have := glS_len (s := s) (b := b)
      simp only [List.length_cons]
      omega
    · rw [if_neg e]
      simp only [List.length_append, List.length_reverse, List.length_cons]
      omega
  | [], b => by
    unfold glS
    simp
  | x :: s, [] => by
    unfold glS
    simp
theorem gluT_wd {x y : Str} (hx : Wd x) (hy : Wd y) : Wd (gluT x y) := fun c hc => by
  unfold gluT at hc
  rw [tl_mkS, List.mem_reverse] at hc
  exact glS_sg (fun d hd => hx d (List.mem_reverse.mp hd)) hy c hc
theorem gluT_len (x y : Str) : (gluT x y).length ≤ x.length + y.length := by
  unfold gluT
  rw [mkS_len, List.length_reverse, len_tl, len_tl]
  have := glS_len (s := (tl x).reverse) (b := tl y)
  rw [List.length_reverse] at this
  exact this
theorem backT_wd {x : Str} (h : Wd x) : Wd (backT x) := fun c hc => backL_sg h c hc
theorem backT_len (x : Str) : (backT x).length = x.length := by
  unfold backT backL
  rw [mkS_len, List.length_reverse, List.length_map, len_tl]
theorem backT_back {x : Str} (h : Wd x) : backT (backT x) = x := by
  unfold backT
  rw [tl_mkS, backL_back h, mkS_tl]
theorem runS_len : ∀ (w s : List Nat), (runS s w).length ≤ s.length + w.length
  | [], s => by simp [runS]
  | c :: w, s => by
    have h := runS_len w (pushS s c)
    rw [runS_cons]
    have h2 : (pushS s c).length ≤ s.length + 1 := by
      cases s with
      | nil => simp [pushS]
      | cons x t =>
        unfold pushS
        by_cases e : x = flipC c
        · simp only [if_pos e, List.length_cons]
          omega
        · simp only [if_neg e, List.length_cons]
          omega
    simp only [List.length_cons]
    omega
theorem shortL_len (w : List Nat) : (shortL w).length ≤ w.length := by
  unfold shortL
  rw [List.length_reverse]
  have := runS_len w []
  simpa using this
theorem glu_one {l : List Nat} {c : Nat} : (glS l.reverse [c]).reverse = push l c := by
  unfold push
  cases h : l.reverse with
  | nil => rfl
  | cons x t =>
    unfold glS pushS
    by_cases e : x = flipC c
    · simp only [if_pos e]
      cases t <;> rfl
    · simp only [if_neg e]
      rfl
end Sf
namespace Sf
open PySem PySem.Spec PyProof.Rows L2 TL
section
variable {P : Program} {w : World} {K : PySem.W.Frag} {mg : Str → Option Value} {base : Heap}
/-! ### need_word, turned, undone -/
def spNeed : Sp := fun vs H Q _ => ∃ x : Str, vs = [.str x] ∧ Wd x ∧ x.length ≤ 60 ∧ ∀ H', Same H H' → Q .non H'
abbrev HasNeed (P : Program) (w : World) (K : PySem.W.Frag) (mg : Str → Option Value) (base : Heap) : Prop := Has P w K mg base 2 "need_word" ["text"] spNeed
theorem sc_need : FnScope ["text"] ["text"] (defScope s_need_word) := ⟨rfl, rfl, rfl, by decide +kernel, rfl, by decide +kernel, by decide +kernel⟩
theorem has_need (F : FnAt K mg "need_word" s_need_word ["text"]) (hI : HasIsWord P w K mg base) : HasNeed P w K mg base := F.has fun F => by
  obtain ⟨fI, fdI, gI, kI, bI, GI⟩ := hI
  refine F.ok sc_need (fun vs H Q E h => ?_) (fun cdv A outer s H vs Q E hr h => ?_)
  · obtain ⟨x, rfl, _⟩ := h
    rfl
  · obtain ⟨x, rfl, hx, hl, q⟩ := h
    refine ⟨_, pss_one (ps_if (pt_not (pt_val (pe_call GI hr (by rfl) gI kI bI .nil pass0 (pa_cons (pv 0) pa_nil)))) pss_never pss_nil), ?_⟩
    refine ⟨_, rfl, x, rfl, by omega, fun H' s' => ⟨_, rfl, ?_⟩⟩
    rw [isW_true hx hl]
    exact iteF (q H' s')
end
end Sf
namespace Sf
open PySem PySem.Spec PyProof.Rows L2 TL
def MAt (K : PySem.W.Frag) (C : Addr) (m q : Str) (st : Stmt) (ps : List Str) : Prop := ∃ (f : Addr) (fd : FuncData), Meth K C m f ∧ Fun K m q st f fd ∧ Binds K fd ps []
def HasM (P : Program) (w : World) (K : PySem.W.Frag) (mg : Str → Option Value) (base : Heap) (C : Addr) (k : Nat) (m : Str) (ps : List Str) (sp : Sp) : Prop :=
  ∃ (f : Addr) (fd : FuncData), Meth K C m f ∧ Binds K fd ps [] ∧ FnOk P w K mg base CX0 k f fd ps sp
theorem MAt.has {P : Program} {w : World} {K : PySem.W.Frag} {mg : Str → Option Value} {base : Heap} {C : Addr} {k : Nat} {m q : Str} {st : Stmt} {ps : List Str} {sp : Sp} (h : MAt K C m q st ps)
    (ok : ∀ {f : Addr} {fd : FuncData}, Fun K m q st f fd → FnOk P w K mg base CX0 k f fd ps sp) : HasM P w K mg base C k m ps sp := by
  obtain ⟨f, fd, g, F, b⟩ := h
  exact ⟨f, fd, g, b, ok F⟩
theorem mAt_mk {K : PySem.W.Frag} {C : Addr} {m q : Str} {st : Stmt} {ps : List Str} {f : Addr} {oc : Value} {od an : Option Addr} {osl : Array (Option Value)} {kV doc pm cdv ct : Value}
    (a : PySem.W.findIn K (.ref C) m = some (some (.ref f))) (i : PySem.W.isFn K (.ref f) = true) (l : K.lookup f = some ⟨oc, od, .func (PySem.W.fnOf m q (defArgs st) (defBody st) (defScope st) .none kV doc pm an cdv ct), osl⟩)
    (c : PySem.W.codeIn K cdv q = true) (k : PySem.W.keepIn K (.ref f) = true)
    (b : ∀ (kV doc pm : Value) (an : Option Addr) (cdv ct : Value) (us : List Value), us.length = ps.length → bindArgs (PySem.W.fnOf m q (defArgs st) (defBody st) (defScope st) .none kV doc pm an cdv ct) ⟨us, []⟩ = pure (ps.zip us)) : MAt K C m q st ps :=
  ⟨f, _, ⟨a, i, k⟩, fun_mk l c k, (fun_mk l c k).binds b⟩
theorem dc_gen {J : It} {n : Nat} {g : TG} {tt : TT} {tk tv : TE} {vs : List Nat} {σ : L2.St} {H1 : Hp} {D : Addr} {Qd : Hp → Prop} (Pv : Nat → Hp → Prop) (h0 : Pv 0 (upd H1 D (.dK [])))
    (hgo : ∀ i H, i < n → Pv i H → J.go i H) (hst : ∀ H, Pv n H → J.stop n H)
    (hs : ∀ i x H H', i < n → Pv i H → J.yld i H x H' → g x (wipe σ vs) H' fun σ2 H2 => wipe σ2 vs = wipe σ vs ∧ tt σ2 H2 fun b H3 =>
      if b = true then tk σ2 H3 fun y H4 => tv σ2 H4 fun z H5 => ∃ kvs k, y = kV k ∧ H5 D = some (.dK kvs) ∧ kvs.length < sizeLine ∧ Pv (i + 1) (upd H5 D (.dK (putK kvs k z))) else Pv (i + 1) H3) (hd : ∀ H, Pv n H → Qd H) :
    ∃ W : Nat → Nat → Hp → Prop, (∃ m, W 0 m (upd H1 D (.dK []))) ∧ ∀ i m H, W i m H →
      (J.stop i H ∧ Qd H) ∨ (J.go i H ∧ ∃ Nx : Hp → Prop, (∀ H', Nx H' → ∃ m', m' < m ∧ W (i + 1) m' H') ∧ ∀ x H', J.yld i H x H' → g x (wipe σ vs) H' fun σ2 H2 => wipe σ2 vs = wipe σ vs ∧ tt σ2 H2 fun b H3 =>
        if b = true then tk σ2 H3 fun y H4 => tv σ2 H4 fun z H5 => ∃ kvs k, y = kV k ∧ H5 D = some (.dK kvs) ∧ kvs.length < sizeLine ∧ Nx (upd H5 D (.dK (putK kvs k z))) else Nx H3) := by
  refine ⟨fun i m H => m = n - i ∧ i ≤ n ∧ Pv i H, ⟨n, rfl, Nat.zero_le _, h0⟩, ?_⟩
  rintro i m H ⟨rfl, hi, p⟩
  by_cases hlt : i < n
  · exact .inr ⟨hgo i H hlt p, Pv (i + 1), fun H' p' => ⟨n - (i + 1), by omega, rfl, hlt, p'⟩, fun x H' y => hs i x H H' hlt p y⟩
  · have e : i = n := by omega
    subst e
    exact .inl ⟨hst H p, hd H p⟩
theorem kit_self {K : PySem.W.Frag} {t : Value} : PySem.W.kitOne K t t = some true := by
  unfold PySem.W.kitOne
  rw [if_pos (beq_self_eq_true t)]
end Sf
namespace Sf
open PySem PySem.Spec PyProof.Rows L2 TL
section
variable {P : Program} {w : World} {K : PySem.W.Frag} {mg : Str → Option Value} {base : Heap}
/-! ### glued, shortened, reduced -/
def spGlued : Sp := fun vs H Q _ => ∃ x y : Str, vs = [.str x, .str y] ∧ Wd x ∧ Wd y ∧ x.length + y.length ≤ 100000 ∧ Q (.str (gluT x y)) H
abbrev HasGlued (P : Program) (w : World) (K : PySem.W.Frag) (mg : Str → Option Value) (base : Heap) : Prop := Has P w K mg base 1 "glued" ["one", "other"] spGlued
theorem sc_glued : FnScope ["one", "other", "most", "gone"] ["one", "other"] (defScope s_glued) := ⟨rfl, rfl, rfl, by decide +kernel, rfl, by decide +kernel, by decide +kernel⟩
theorem at_neg {l : List Nat} {g : Nat} (h : g < l.length) : atI l (-1 - (g : Int)) = some (l.reverse[g]'(by rw [List.length_reverse]; exact h)) := by
  unfold atI ixN
  rw [if_neg (by omega), if_pos (by omega)]
  have e : ((-1 - (g : Int)) + (l.length : Nat)).toNat = l.length - 1 - g := by omega
  rw [e, Option.bind_some, List.getElem_reverse, List.getElem?_eq_getElem]
theorem glu_step {a b : List Nat} {g : Nat} (h1 : g < a.length) (h2 : g < b.length) (e : a[g] = flipC b[g]) : glS (a.drop g) (b.drop g) = glS (a.drop (g + 1)) (b.drop (g + 1)) := by
  rw [List.drop_eq_getElem_cons h1, List.drop_eq_getElem_cons h2, glS, if_pos e]
theorem glu_stop {a b : List Nat} {g : Nat} (h : g = min a.length b.length ∨ ∃ (h1 : g < a.length) (h2 : g < b.length), a[g] ≠ flipC b[g]) : glS (a.drop g) (b.drop g) = (b.drop g).reverse ++ a.drop g := by
  rcases h with h | ⟨h1, h2, e⟩
  · rcases Nat.le_total a.length b.length with hl | hl
    · rw [List.drop_eq_nil_of_le (as := a) (by omega), glS, List.append_nil]
    · rw [List.drop_eq_nil_of_le (as := b) (by omega)]
      cases a.drop g <;> rfl
  · rw [List.drop_eq_getElem_cons h1, List.drop_eq_getElem_cons h2, glS, if_neg e]
theorem cut_to {x : Str} {n : Int} (h0 : 0 ≤ n) (h1 : n ≤ x.length) : tl (cutS x none (some n)) = (tl x).take n.toNat := by
  rw [tl_cut]
  obtain ⟨m, rfl⟩ : ∃ m : Nat, n = (m : Int) := ⟨n.toNat, by omega⟩
  rw [HT.sIx_none, HT.sIx_nat, List.drop_zero, Int.toNat_natCast, Nat.sub_zero, Nat.min_eq_left (by omega)]
theorem cut_from {x : Str} {n : Int} (h0 : 0 ≤ n) (h1 : n ≤ x.length) : tl (cutS x (some n) none) = (tl x).drop n.toNat := by
  rw [tl_cut]
  obtain ⟨m, rfl⟩ : ∃ m : Nat, n = (m : Int) := ⟨n.toNat, by omega⟩
  rw [HT.sIx_none, HT.sIx_nat, Int.toNat_natCast, Nat.min_eq_left (by omega)]
  refine List.take_of_length_le ?_
  rw [List.length_drop, ← len_tl]
  exact Nat.le_refl _
theorem has_glued (F : FnAt K mg "glued" s_glued ["one", "other"]) (B : Blt mg) (mmin : mg "min" = none) : HasGlued P w K mg base := F.has fun F => by
  refine F.ok sc_glued (fun vs H Q E h => ?_) (fun cdv A outer s H vs Q E hr h => ?_)
  · obtain ⟨x, y, rfl, _⟩ := h
    rfl
  · obtain ⟨x, y, rfl, hx, hy, hl, q⟩ := h
    have zx := len_tl x
    have zy := len_tl y
    refine ⟨_, pss_cons (ps_set (i := 2) sc_glued.nd rfl (.inl rfl) (pe_callB (call_min2 rfl) (by rfl) mmin (by decide +kernel) (pa_cons (pe_callB call_len_str (by rfl) B.len PySem.boot_len (pa_cons (pv 0) pa_nil)) (pa_cons (pe_callB call_len_str (by rfl) B.len PySem.boot_len (pa_cons (pv 1) pa_nil)) pa_nil))))
      (pss_cons (ps_set (i := 3) sc_glued.nd rfl (.inl rfl) pe_int)
      (pss_cons (ps_while PassesOwn.never (PW.pt (pw_and (pt_cmpR op_lt (pv 3) (pv 2) (nomark _)) (pw_and1 (pt_cmpR op_eq (pe_ix ix_str (pv 0) (pe_op op_sub (pe_un un_neg pe_int) (pv 3)) (fun _ _ => rfl)) (pe_swapcase (pe_ix ix_str (pv 1) (pv 3) (fun _ _ => rfl))) (nomark _)))))
        (pss_one (ps_aug (i := 3) sc_glued.nd rfl (.inl rfl) pe_int ip_add)))
      (pss_one (ps_ret (pe_op op_add_str (pe_slice sl_str (pv 0) po_none (po_some (pe_op op_sub (pe_callB call_len_str (by rfl) B.len PySem.boot_len (pa_cons (pv 0) pa_nil)) (pv 3)))) (pe_slice sl_str (pv 1) (po_some (pv 3)) po_none)))))), ?_⟩
    refine ⟨_, rfl, x, rfl, line_of (by omega), _, rfl, y, rfl, line_of (by omega), _, _, rfl, ?_⟩
    have em : (if (y.length : Int) < (x.length : Int) then (y.length : Int) else (x.length : Int)) = ((min (tl x).reverse.length (tl y).length : Nat) : Int) := by
      rw [List.length_reverse, ← zx, ← zy]
      split <;> omega
    rw [em]
    refine ⟨fun m σ H1 => ∃ g : Nat, σ = [some (.str x), some (.str y), some (.int ((min (tl x).reverse.length (tl y).length : Nat) : Int)), some (.int (g : Int))] ∧ H1 = H ∧ g ≤ min (tl x).reverse.length (tl y).length ∧ glS (tl x).reverse (tl y) = glS ((tl x).reverse.drop g) ((tl y).drop g) ∧ m = min (tl x).reverse.length (tl y).length - g, ⟨_, 0, rfl, rfl, Nat.zero_le _, rfl, rfl⟩, ?_⟩
    · rintro m σ H1 ⟨g, rfl, rfl, hg, eg, rfl⟩
      have fin : (g = min (tl x).reverse.length (tl y).length ∨ ∃ (h1 : g < (tl x).reverse.length) (h2 : g < (tl y).length), (tl x).reverse[g] ≠ flipC (tl y)[g]) → Q (.str (cutS x none (some ((x.length : Int) - (g : Int))) ++ cutS y (some (g : Int)) none)) H1 := by
        intro hstop
        have e : cutS x none (some ((x.length : Int) - (g : Int))) ++ cutS y (some (g : Int)) none = gluT x y := by
          refine eq_mkS ?_
          rw [List.length_reverse, ← zx, ← zy] at hg
          rw [eg, glu_stop hstop, tl_append, cut_to (by omega) (by omega), cut_from (by omega) (by omega), List.reverse_append, List.reverse_reverse, List.reverse_drop, List.reverse_reverse, List.length_reverse, ← zx]
          have e1 : ((x.length : Int) - (g : Int)).toNat = x.length - g := by omega
          rw [e1, Int.toNat_natCast]
        rw [e]
        exact q
      have tail : (g = min (tl x).reverse.length (tl y).length ∨ ∃ (h1 : g < (tl x).reverse.length) (h2 : g < (tl y).length), (tl x).reverse[g] ≠ flipC (tl y)[g]) → ∃ v : V, some (some (V.str x)) = some (some v) ∧ ∃ v2 : V, some (some (V.str x)) = some (some v2) ∧ ∃ z : Str, [v2] = [V.str z] ∧ z.length ≤ sizeLine ∧ ∃ v3 : V, some (some (V.int (g : Int))) = some (some v3) ∧
          ∃ i j : Int, V.int z.length = .int i ∧ v3 = .int j ∧ ∃ k : Int, V.int (i - j) = .int k ∧ ∃ z2 : Str, v = .str z2 ∧ z2.length ≤ sizeLine ∧ ∃ v4 : V, some (some (V.str y)) = some (some v4) ∧ ∃ v5 : V, some (some (V.int (g : Int))) = some (some v5) ∧ ∃ i2 : Int, v5 = .int i2 ∧ ∃ z3 : Str, v4 = .str z3 ∧ z3.length ≤ sizeLine ∧
            ∃ i3 j3 : Str, V.str (cutS z2 none (some k)) = .str i3 ∧ V.str (cutS z3 (some i2) none) = .str j3 ∧ i3.length + j3.length ≤ sizeLine ∧ Q (.str (i3 ++ j3)) H1 := fun hstop =>
        ⟨_, rfl, _, rfl, x, rfl, line_of (by omega), _, rfl, _, _, rfl, rfl, _, rfl, x, rfl, line_of (by omega), _, rfl, _, rfl, _, rfl, y, rfl, line_of (by omega), _, _, rfl, rfl, line_of (Nat.le_trans (Nat.add_le_add (cutS_length x _ _) (cutS_length y _ _)) hl), fin hstop⟩
      refine ⟨_, rfl, _, rfl, (g : Int), _, rfl, rfl, _, rfl, ite2 (fun e => ?_) (fun e => ?_)⟩
      · have hlt : g < min (tl x).reverse.length (tl y).length := by
          have := of_decide_eq_true e
          omega
        have h1 : g < (tl x).reverse.length := by omega
        have h2 : g < (tl y).length := by omega
        have h1' : g < (tl x).length := by
          rw [List.length_reverse] at h1
          exact h1
        have ay : atI (tl y) (g : Int) = some (tl y)[g] := atI_nat (List.getElem?_eq_getElem h2)
        have sy := hy _ (List.getElem_mem h2)
        refine ⟨_, rfl, 1, rfl, _, rfl, -1, (g : Int), rfl, rfl, x, _, _, rfl, rfl, line_of (by omega), at_neg h1', _, rfl, _, rfl, y, _, _, rfl, rfl, line_of (by omega), ay, ⟨_, rfl⟩, _, rfl, rfl, by rw [len_one]; decide, ?_⟩
        rw [swap_wd (wd_one sy), flipS_one]
        refine ⟨rfl, _, rfl, ite2 (fun e2 => ?_) (fun e2 => ?_)⟩
        · have e3 : (tl x).reverse[g] = flipC (tl y)[g] := by
            have := of_decide_eq_true e2
            have h5 := V.str.inj this
            have h6 := congrArg tl h5
            exact List.head_eq_of_cons_eq h6
          refine ⟨fun σ' H' => σ' = [some (.str x), some (.str y), some (.int ((min (tl x).reverse.length (tl y).length : Nat) : Int)), some (.int ((g : Int) + 1))] ∧ H' = H1, fun σ' H' hN => ?_, ?_⟩
          · obtain ⟨rfl, rfl⟩ := hN
            exact ⟨min (tl x).reverse.length (tl y).length - (g + 1), by omega, g + 1, rfl, rfl, by omega, by rw [eg, glu_step h1 h2 e3], rfl⟩
          · exact ⟨_, rfl, _, _, rfl, rfl, rfl, rfl⟩
        · exact tail (.inr ⟨h1, h2, fun z => e2 (decide_eq_true (by rw [z]))⟩)
      · have hge : g = min (tl x).reverse.length (tl y).length := by
          have : ¬ ((g : Int) < ((min (tl x).reverse.length (tl y).length : Nat) : Int)) := fun z => e (decide_eq_true z)
          omega
        exact iteF (tail (.inl hge))
end
end Sf
namespace Sf
open PySem PySem.Spec PyProof.Rows L2 TL
section
variable {P : Program} {w : World} {K : PySem.W.Frag} {mg : Str → Option Value} {base : Heap}
def spTurned : Sp := fun vs H Q _ => ∃ x : Str, vs = [.str x] ∧ Wd x ∧ x.length ≤ 100000 ∧ Q (.str (backT x)) H
abbrev HasTurned (P : Program) (w : World) (K : PySem.W.Frag) (mg : Str → Option Value) (base : Heap) : Prop := Has P w K mg base 1 "turned" ["word"] spTurned
theorem sc_turned : FnScope ["word"] ["word"] (defScope s_turned) := ⟨rfl, rfl, rfl, by decide +kernel, rfl, by decide +kernel, by decide +kernel⟩
theorem has_turned (F : FnAt K mg "turned" s_turned ["word"]) : HasTurned P w K mg base := F.has fun F => by
  refine F.ok sc_turned (fun vs H Q E h => ?_) (fun cdv A outer s H vs Q E hr h => ?_)
  · obtain ⟨x, rfl, _⟩ := h
    rfl
  · obtain ⟨x, rfl, hx, hl, q⟩ := h
    refine ⟨_, pss_one (ps_ret (pe_swapcase (pe_revS (pv 0)))), ?_⟩
    refine ⟨_, rfl, x, rfl, line_of hl, ⟨_, rfl⟩, _, rfl, rfl, by rw [revS_len]; omega, ?_⟩
    have e : Txt.swapcase (revS x) = backT x := by
      rw [swap_wd (rev_wd hx)]
      refine eq_mkS ?_
      rw [tl_flipS, tl_revS, List.map_reverse]
      rfl
    rw [e]
    exact q
end
end Sf
namespace Sf
open PySem PySem.Spec PyProof.Rows L2 TL
/-! ### str.maketrans(a text, a text) -/
theorem find_mk (K : PySem.W.Frag) : PySem.W.findCls K (.type "str") (.type "type") (PySem.Str.ofString "maketrans") = some (.val (.builtin "str.maketrans")) := by first | rfl | kernel_rfl
theorem entry_mk : entryFor table "str.maketrans" = some Builtin.«str.maketrans» := entryFor_of_tree (by kernel_rfl)
theorem plain_mk : plainId "str.maketrans" = true := by decide +kernel
theorem check_mk {u v : Value} : checkBuiltinCall "str.maketrans" ⟨[u, v], []⟩ = pure () := by first | kernel_rfl | rfl
section
variable {prog : Program} {w : World} {A : Around} {E : Value → Shared → Prop} {s : Shared} {K : PySem.W.Frag}
theorem mk_get {pl : Sem Bool} {Q : Value × List Value → Shared → Prop} (X : K.In s.heap) (h : ∀ k, Q (.builtin "str.maketrans", []) { s with toks := k }) : wpAny (model prog w) A (getMethod (.type "str") (PySem.Str.ofString "maketrans") pl) Q E s := by
  have hstub : opaqueClassAbove (.type "str") = pure none := by unfold opaqueClassAbove; dsimp only; rw [show Manifest.isStub "str" = false by decide +kernel]; rfl
  have ht : typeOf (.type "str") = pure (.type "type") := by first | rfl | kernel_rfl
  have L0 : PySem.W.Looks (model prog w) s.heap (typeOf (.type "str")) (.type "type") := PySem.W.Looks.of_pure ht
  have hg : PySem.W.findIn K (.type "type") "__getattribute__" = some (some (.builtin "type.__getattribute__")) := PySem.W.type_tga
  unfold getMethod specialOf
  refine wpAny_bind (wpAny_bind (L0.here ((PySem.W.looks_findIn X hg).here ?_)))
  dsimp only
  rw [if_pos PySem.W.canon_tga]
  refine wpAny_bind (wpAny_mono (Q := fun v => Q (v, [])) (E := E) ?_ (fun _ _ z => wpAny_pure z) fun _ _ z => z)
  have LO : PySem.W.Looks (model prog w) s.heap (opaqueClassAbove (.type "str")) none := PySem.W.Looks.of_pure hstub
  refine PySem.W.cls_open X LO L0 hg (PySem.W.looks_hook X (r := none) (by rfl)) (by show PySem.W.subIn K _ _ = _; rfl) (find_mk K) ?_
  show wpAny _ _ (ret (.builtin "str.maketrans")) _ _ _
  exact wpAny_pure (wpAny_pure (h _))
end
def sgnL : List Nat := [97, 65, 98, 66, 99, 67, 100, 68, 101, 69, 102, 70, 103, 71, 104, 72]
def lowL : List Nat := [97, 98, 99, 100, 101, 102, 103, 104, 105, 106, 107, 108, 109, 110, 111, 112]
theorem tl_low : (Str.ofString "abcdefghijklmnop").cps.toList = lowL := by decide +kernel
theorem tl_sgnL : (Str.ofString "aAbBcCdDeEfFgGhH").cps.toList = sgnL := tl_signs
def putAll (ps : List (Nat × Nat)) : List (Key × V) := ps.foldl (fun kvs p => putK kvs (Sum.inl (p.1 : Int)) (.int (p.2 : Int))) []
def tabK : List (Key × V) := (sgnL.zip lowL).map fun p => (Sum.inl (p.1 : Int), .int (p.2 : Int))
theorem tab_put : putAll (sgnL.zip lowL) = tabK := by decide +kernel
theorem putAll_snoc (ps : List (Nat × Nat)) (p : Nat × Nat) : putAll (ps ++ [p]) = putK (putAll ps) (Sum.inl (p.1 : Int)) (.int (p.2 : Int)) := by
  unfold putAll
  rw [List.foldl_append]
  rfl
theorem putAll_len : ∀ ps : List (Nat × Nat), (putAll ps).length ≤ ps.length := by
  intro ps
  unfold putAll
  suffices h : ∀ (ps : List (Nat × Nat)) (kvs : List (Key × V)), (ps.foldl (fun kvs p => putK kvs (Sum.inl (p.1 : Int)) (.int (p.2 : Int))) kvs).length ≤ kvs.length + ps.length by
    have := h ps []
    simpa using this
  intro ps
  induction ps with
  | nil => intro kvs; simp
  | cons p ps ih =>
    intro kvs
    rw [List.foldl_cons]
    have h1 := ih (putK kvs (Sum.inl (p.1 : Int)) (.int (p.2 : Int)))
    have h2 := length_putK kvs (Sum.inl (p.1 : Int)) (V.int (p.2 : Int))
    simp only [List.length_cons]
    omega
section
variable {X : Cx}
theorem dictSetA {A : Around} {pins : List (Addr × Obj)} {σ : L2.St} {H : Hp} {s : Shared} {E : Value → Shared → Prop} {D : Addr} {kvs : List (Key × V)} {k : Key} {v : V} {u r : Value} {Q : Unit → Shared → Prop} (I : Inv X pins σ H s) (hD : H D = some (.dK kvs)) (hz : kvs.length < sizeLine)
    (ry : RelV (kV k) u) (rv : RelV v r) (h : ∀ s', Inv X pins σ (upd H D (.dK (putK kvs k v))) s' → Q () s') : wpAny (model X.prog X.w) A (dictSet D u r) Q E s := by
  obtain ⟨z, hd, vs, rel, dd⟩ := dk_of I.hok hD
  have hzv : vs.length ≤ sizeLine := by rw [← rel.length]; exact z
  have hl : (putK kvs k v).length ≤ sizeLine := by have := length_putK kvs k v; omega
  refine wpAny_dictSet_pairs (hsz := hzv) (kV_is ry) dd fun h' dd' hs => h _ ?_
  have he : ∃ q, h'.get? D = some q := let ⟨q, _, _, hq, _⟩ := dd'; ⟨q, hq⟩
  exact d_write I (by rw [hD]; exact True.intro) hs he (dk_new hl hd (rel.put k rv) dd')
set_option maxHeartbeats 4000000 in
theorem mk_run {A : Around} {pins : List (Addr × Obj)} {σ : L2.St} {H : Hp} {s : Shared} {E : Value → Shared → Prop} {t u : Tok} {Q : Value → Shared → Prop} (I : Inv X pins σ H s)
    (h : ∀ s', Inv X pins σ (upd H s.heap.objs.size (.dK tabK)) s' → Q (.ref s.heap.objs.size) s') : wpAny (model X.prog X.w) A (call (.builtin "str.maketrans") [.str (Str.ofString "aAbBcCdDeEfFgGhH") t, .str (Str.ofString "abcdefghijklmnop") u]) Q E s := by
  refine wpAny_call (codeAny_call_builtin plain_mk entry_mk (wpAny_of_eq check_mk ?_))
  unfold Builtin.«str.maketrans»
  refine wpAny_bind (wpAny_of_eq (a := ()) rfl ?_)
  refine wpAny_bind (wpAny_of_eq (a := ()) rfl ?_)
  refine wpAny_bind (wpAny_of_eq (a := some (Str.ofString "abcdefghijklmnop")) rfl ?_)
  refine wpAny_bind (wpAny_of_eq (a := none) rfl ?_)
  refine wpAny_bind ?_
  show wpAny _ _ (newObj (.type "dict") (.dict #[])) _ _ _
  refine wpAny_newObj_type ?_
  dsimp only
  with_reducible refine wpAny_bind ?_
  with_reducible refine wpAny_holding ?_
  with_reducible refine wpAny_bind ?_
  refine wpAny_of_eq (a := some (Str.ofString "aAbBcCdDeEfFgGhH")) rfl ?_
  dsimp only
  rw [if_neg (by decide +kernel)]
  have I1 : Inv X pins σ (upd H s.heap.objs.size (.dK [])) { s with heap := s.heap.push { cls := .type "dict", data := .dict #[] } } := I.laid (a := s.heap.objs.size) (o := .dK []) (t' := s.toks) (fun _ _ q => Heap.get?_push_of_some _ q) (Nat.le_refl _) (dk_empty s.heap I.big)
  rw [tl_sgnL, tl_low]
  generalize hL : sgnL.zip lowL = L
  with_reducible refine wpAny_bind ?_
  refine wpAny_forIn_list _ (fun rest _ s' => ∃ past, L = past ++ rest ∧ Inv X pins σ (upd H s.heap.objs.size (.dK (putAll past))) s') _ (fun p rest b s' hI => ?_) (fun b s' hI => ?_) _ _ ⟨[], rfl, I1⟩
  · obtain ⟨past, e, I2⟩ := hI
    obtain ⟨pa, pb⟩ := p
    with_reducible refine wpAny_bind ?_
    with_reducible refine wpAny_mkInt ?_
    with_reducible refine wpAny_bind ?_
    with_reducible refine wpAny_mkInt ?_
    with_reducible refine wpAny_bind ?_
    have hlen : past.length < 17 := by
      have h1 := congrArg List.length e
      rw [List.length_append] at h1
      have h2 : (sgnL.zip lowL).length = 16 := by decide
      rw [hL] at h2
      omega
    have hz : (putAll past).length < sizeLine := Nat.lt_of_le_of_lt (putAll_len past) (Nat.lt_trans hlen (by decide))
    refine dictSetA (D := s.heap.objs.size) (kvs := putAll past) (k := Sum.inl (pa : Int)) (v := .int (pb : Int)) ((I2.tok (s'.toks + 1)).tok (s'.toks + 1 + 1)) upd_same hz ⟨_, rfl⟩ ⟨_, rfl⟩ fun s2 I3 => ?_
    rw [upd_upd, ← putAll_snoc past (pa, pb)] at I3
    exact wpAny_pure ⟨past ++ [(pa, pb)], by rw [e, List.append_assoc]; rfl, I3⟩
  · obtain ⟨past, e, I2⟩ := hI
    rw [List.append_nil] at e
    rw [← e, ← hL, tab_put] at I2
    with_reducible refine wpAny_bind ?_
    refine wpAny_of_eq (a := PUnit.unit) (by rfl) ?_
    with_reducible refine wpAny_pure ?_
    exact wpAny_pure (h _ I2)
def tMk (to : TE) (t : TA) : TE := fun σ H Q => to σ H fun x H1 => x = .ty "str" ∧ t σ H1 fun vs H2 => vs = [.str (Str.ofString "aAbBcCdDeEfFgGhH"), .str (Str.ofString "abcdefghijklmnop")] ∧ ∀ p, H2 p = none → Q (.ref p) (upd H2 p (.dK tabK))
theorem pe_maketrans {o e : Expr} {es : List Expr} {to : TE} {t : TA} {apos pos : Pos} {pl : Sem Bool} (ho : PE X o to) (ha : PA X (e :: es) t) (hst : starEach (e :: es) X.env = (false, eval e X.env) :: starEach es X.env := by rfl) (hpl : (backTo pos (starEach es X.env)).any (·.1) = false := by rfl)
    (ht : eval (.Call (.Attribute o "maketrans" apos) (e :: es) [] pos) X.env = (do
      let ov ← eval o X.env
      standAt apos.atName
      let (f, first) ← holding [ov] (getMethod ov "maketrans" pl)
      callWith pos f first (backTo pos (starEach (e :: es) X.env)) (backToKw pos (keywordEach [] X.env))) := by rfl) :
    PE X (.Call (.Attribute o "maketrans" apos) (e :: es) [] pos) (tMk to t) := by
  refine ⟨fun pins s σ H Q I h => ?_⟩
  refine PySem.W.methodCall_KW (pl := pl) (thn (ho.run pins s σ H _ I h) fun v s1 ⟨x, H1, I1, rx, ex, q⟩ => ?_) ht
  subst ex
  obtain rfl : v = Value.type "str" := rx
  refine mk_get I1.kIn fun k => ?_
  show wpAny _ _ (callWith pos (.builtin "str.maketrans") [] (backTo pos (starEach (e :: es) X.env)) []) _ _ _
  refine PyProof.Rows.callWith_builtin1 (thn (ha.run pos pins _ σ H1 _ (I1.tok k) q) fun us s2 ⟨vs, H2, I2, rv, hu, hr⟩ => ?_) hst hpl
  subst hu
  obtain ⟨u1, u2, rfl, ru1, ru2⟩ := rv.two
  obtain ⟨t1, rfl⟩ := ru1
  obtain ⟨t2, rfl⟩ := ru2
  exact mk_run I2 fun s' I' => ⟨.ref _, _, I', rfl, hr _ (I2.hok.fresh (Nat.le_refl _))⟩
end
end Sf
namespace Sf
open PySem PySem.Spec PyProof.Rows L2 TL
open PySem.Builtin PySem.Builtin.Str
/-! ### text.translate(table), every sign in the table -/
def rkC (c : Nat) : Nat := if 97 ≤ c then 97 + 2 * (c - 97) else 98 + 2 * (c - 65)
theorem rkC_lt : ∀ c, c < 128 → sgn c = true → rkC c < 128 ∧ valV tabK (Sum.inl (c : Int)) = some (.int (rkC c : Int)) := by decide +kernel
def GivesR (f : Key → Option Value) : Prop := ∀ c : Nat, sgn c = true → ∃ t, f (Sum.inl (c : Int)) = some (.int (rkC c : Int) t)
section
variable {prog : Program} {w : World} {A : Around} {E : Value → Shared → Prop} {s : Shared} {d : Addr} {c : Nat}
theorem look_r {f : Key → Option Value} {Q : Mapped → Shared → Prop} (hm : s.heap.MapOf (mixKind prog w) d f) (hk : GivesR f) (hc : sgn c = true) (h : ∀ k, Q (.char (rkC c)) { s with toks := k }) : wpAny (model prog w) A (tableLookup (.ref d) c) Q E s := by
  unfold tableLookup
  with_reducible refine wpAny_bind ?_
  with_reducible refine wpAny_attempt ?_
  with_reducible refine wpAny_bind ?_
  with_reducible refine wpAny_mkInt ?_
  obtain ⟨t, hf⟩ := hk c hc
  refine wpAny_getItem_of (knd := mixKind prog w) (k := Sum.inl (c : Int)) (mixKind_int prog w _ _) hm hf ?_
  show wpAny _ _ (do let o ← asInt? (Value.int (rkC c : Int) t); _) _ _ _
  with_reducible refine wpAny_bind ?_
  refine wpAny_of_eq (a := some (rkC c : Int)) rfl ?_
  have hr := (rkC_lt c (sgn_lt hc) hc).1
  show wpAny _ _ (if (decide ((rkC c : Int) < 0) || decide ((rkC c : Int) > 0x10FFFF)) = true then _ else pure (Mapped.char (rkC c : Int).toNat)) _ _ _
  rw [if_neg (by rw [decide_eq_false (by omega), decide_eq_false (by omega)]; decide)]
  exact wpAny_pure (h _)
end
theorem pieces_r : ∀ (l : List Nat) (acc : Array Nat), List.foldl (fun acc (p : Str) => acc ++ p.cps) acc (l.map fun c => one (rkC c)) = acc ++ (l.map rkC).toArray
  | [], acc => by
    show acc = acc ++ #[]
    rw [Array.append_empty]
  | c :: l, acc => by
    rw [List.map_cons, List.foldl_cons, pieces_r l]
    apply Array.toList_inj.mp
    simp
theorem lookup_r {c c' : Nat} {a b : Option Nat} {known : List (Nat × Option Nat)} (h : List.lookup c' ((c, a) :: known) = some b) : (c' = c ∧ b = a) ∨ List.lookup c' known = some b := by
  rw [List.lookup_cons] at h
  by_cases e : c' = c
  · rw [e, beq_self_eq_true] at h
    exact .inl ⟨e, (Option.some.inj h).symm⟩
  · have e2 : (c' == c) = false := beq_eq_false_iff_ne.mpr e
    rw [e2] at h
    exact .inr h
def TrR (x : List Nat) (s : Shared) (rest : List Nat) (st : List Str × Nat × Bool × List (Nat × Option Nat) × Bool) (s' : Shared) : Prop :=
  ∃ (past : List Nat) (pieces : List Str) (known : List (Nat × Option Nat)) (k : Nat), x = past ++ rest ∧ st = (pieces, past.length, true, known, false) ∧ pieces.reverse = past.map (fun c => one (rkC c)) ∧
    (∀ c a, List.lookup c known = some a → a = some (rkC c)) ∧ s' = { s with toks := k }
theorem TrR.next {x : List Nat} {s : Shared} {rest past : List Nat} {c : Nat} {pieces : List Str} {known : List (Nat × Option Nat)} {k : Nat} (h1 : x = past ++ c :: rest)
    (h3 : pieces.reverse = past.map (fun c => one (rkC c))) (h4 : ∀ c a, List.lookup c known = some a → a = some (rkC c)) :
    TrR x s rest (one (rkC c) :: pieces, past.length + 1, true, known, false) { s with toks := k } := by
  refine ⟨past ++ [c], one (rkC c) :: pieces, known, k, ?_, ?_, ?_, h4, rfl⟩
  · rw [h1, List.append_assoc] <;> rfl
  · rw [List.length_append] <;> rfl
  · rw [List.reverse_cons, h3, List.map_append] <;> rfl
set_option maxHeartbeats 2000000 in
theorem meets_r {prog : Program} {w : World} (x : Str) (t : Tok) (d : Addr) (hx : Wd x) (hz : x.length ≤ 1000000) : MeetsIn prog w («str.translate» ⟨[.str x t, .ref d], []⟩) (fun _ R s =>
    (∃ f, s.heap.MapOf (mixKind prog w) d f ∧ GivesR f) ∧ ∀ (v : Value) (k : Nat), (∃ t', v = .str (mkS ((tl x).map rkC)) t') → R (.ok (.ret v)) { s with toks := k }) := by
  refine .of_wp fun A R s h => ?_
  obtain ⟨⟨f, hm, hk⟩, h⟩ := h
  show wpAny _ _ (if (x.length == 0) = true then (do rule "str.translate.empty"; ret (.str x t)) else (do
    let st ← forIn x.cps (([], 0, x.cps.all fun y => decide (y < 128), [], false) : List Str × Nat × Bool × List (Nat × Option Nat) × Bool) _
    _)) _ _ s
  by_cases h0 : (x.length == 0) = true
  · rw [if_pos h0]
    have hx0 : tl x = [] := by
      rw [beq_iff_eq] at h0
      exact (len0_tl x).mp h0
    have e : mkS ((tl x).map rkC) = x := by
      rw [hx0]
      exact (eq_mkS hx0).symm
    exact wpAny_bind (wpAny_rule (wpAny_pure ⟨_, rfl, h _ s.toks ⟨t, by rw [e]⟩⟩))
  · rw [if_neg h0]
    have hf : (x.cps.all fun y => decide (y < 128)) = true := by
      rw [← Array.all_toList, List.all_eq_true]
      exact fun c hc => decide_eq_true (sgn_lt (hx c hc))
    rw [hf]
    refine wpAny_bind (MeetsSeq2.wpAny_forIn_array _ (TrR (tl x) s) _ (fun c rest st s' hI => ?turn) (fun st s' hI => ?fin) x.cps ([], 0, true, [], false) ?h0)
    case h0 =>
      refine ⟨[], [], [], s.toks, rfl, rfl, rfl, fun c a z => ?_, rfl⟩
      rw [List.lookup_nil] at z
      cases z
    case turn =>
      obtain ⟨past, pieces, known, k, e1, e2, e3, e4, e5⟩ := hI
      subst e2
      subst e5
      have hzl := len_tl x
      have hpl : past.length ≤ 1000000 := by
        have q := congrArg List.length e1
        rw [List.length_append] at q
        omega
      have hc : sgn c = true := hx c (by rw [e1]; simp)
      show wpAny _ _ (if tooLong past.length = true then _ else (if true = true then _ else _)) _ _ _
      rw [show tooLong past.length = false from PyProof.Rows.short24 (by omega), if_neg Bool.false_ne_true, if_pos rfl]
      cases hl : List.lookup c known with
      | some a =>
        have ha := e4 c a hl
        subst ha
        refine wpAny_bind (wpAny_pure ?_)
        exact wpAny_pure (TrR.next e1 e3 e4)
      | none =>
        refine wpAny_bind (look_r (s := { s with toks := k }) hm hk hc fun k2 => ?_)
        have hr := (rkC_lt c (sgn_lt hc) hc).1
        dsimp only
        rw [if_pos hr]
        refine wpAny_bind (wpAny_pure ?_)
        refine wpAny_pure ?_
        refine TrR.next (s := s) (k := k2) (known := (c, some (rkC c)) :: known) e1 e3 fun c' a z => ?_
        rcases lookup_r z with ⟨q1, q2⟩ | q
        · rw [q2, q1]
        · exact e4 c' a q
    case fin =>
      obtain ⟨past, pieces, known, k, e1, e2, e3, e4, e5⟩ := hI
      subst e2
      subst e5
      have ex : tl x = past := by rw [e1, List.append_nil]
      have hzl := len_tl x
      show wpAny _ _ (if tooLong past.length = true then _ else retStr { cps := List.foldl (fun acc (p : Str) => acc ++ p.cps) #[] pieces.reverse }) _ _ _
      rw [show tooLong past.length = false from PyProof.Rows.short24 (by rw [← ex]; omega), if_neg Bool.false_ne_true, e3, pieces_r, ← ex]
      have ev : (⟨#[] ++ ((tl x).map rkC).toArray⟩ : Str) = mkS ((tl x).map rkC) := by
        rw [Array.empty_append] <;> rfl
      rw [ev]
      exact wpAny_bind (wpAny_mkStr (wpAny_pure ⟨_, rfl, h _ _ ⟨_, rfl⟩⟩) (by rw [mkS_len, List.length_map, ← hzl, sizeLine_eq]; omega))
def rankS (x : Str) : Str := mkS ((tl x).map rkC)
section
variable {X : Cx}
theorem mt_rank : MtR X "str.translate" (fun x xs H Q => ∃ (a : Str) (d : Addr), x = .str a ∧ xs = [.ref d] ∧ H d = some (.dK tabK) ∧ Wd a ∧ a.length ≤ 1000000 ∧ Q (.str (rankS a)) H) := by
  intro pins s σ H x xs v us Q I rx rs h
  obtain ⟨a, d, rfl, rfl, hd, hw, hz, h⟩ := h
  obtain ⟨t, rfl⟩ := rx
  cases rs with
  | cons r1 rs =>
    cases rs
    cases r1
    obtain ⟨z, hds, vs, rel, dd⟩ := dk_of I.hok hd
    have hg : GivesR (valueAt vs) := fun c hc => by
      have h1 := rel.val (Sum.inl (c : Int))
      rw [(rkC_lt c (sgn_lt hc) hc).2] at h1
      obtain ⟨u, e1, t, e2⟩ := RelO.some_of h1
      exact ⟨t, by rw [e1, e2]⟩
    refine call_meetsIn F.slot_str_translate (typeIs_str _ _ _) F.entry_str_translate (F.args_str_translate_2 _ _) (meets_r a t d hw hz) ⟨⟨_, dd.mapOf, hg⟩, ?_⟩
    intro v k ⟨t', e⟩
    subst e
    exact ⟨.str _, H, I.tok k, ⟨t', rfl⟩, h⟩
end
section
variable {P : Program} {w : World} {K : PySem.W.Frag} {mg : Str → Option Value} {base : Heap}
/-! ### rank -/
def spRank : Sp := fun vs H Q _ => ∃ x : Str, vs = [.str x] ∧ Wd x ∧ x.length ≤ 1000000 ∧ ∀ (p : Addr) (H' : Hp), H p = none → Same H H' → H' p = some (.tup [.int (x.length : Int), .str (rankS x)]) → Q (.ref p) H'
abbrev HasRank (P : Program) (w : World) (K : PySem.W.Frag) (mg : Str → Option Value) (base : Heap) : Prop := Has P w K mg base 1 "rank" ["word"] spRank
theorem sc_rank : FnScope ["word"] ["word"] (defScope s_rank) := ⟨rfl, rfl, rfl, by decide +kernel, rfl, by decide +kernel, by decide +kernel⟩
theorem has_rank (F : FnAt K mg "rank" s_rank ["word"]) (B : Blt mg) : HasRank P w K mg base := F.has fun F => by
  refine F.ok sc_rank (fun vs H Q E h => ?_) (fun cdv A outer s H vs Q E hr h => ?_)
  · obtain ⟨x, rfl, _⟩ := h
    rfl
  · obtain ⟨x, rfl, hx, hl, q⟩ := h
    have hsz : x.length ≤ sizeLine := Nat.le_trans hl (by decide)
    refine ⟨_, pss_one (ps_ret (pe_tup (pa_cons (pe_callB call_len_str (by rfl) B.len PySem.boot_len (pa_cons (pv 0) pa_nil)) (pa_cons (pe_m1 PySem.F.slot_str_translate PySem.F.type_str_translate mt_rank (pv 0) (pe_maketrans (pe_bltn (v := .ty "str") (by rfl) B.str (by decide +kernel) rfl) (pa_cons pe_str (pa_cons pe_str pa_nil)))) pa_nil)))), ?_⟩
    refine ⟨_, rfl, x, rfl, hsz, _, rfl, ⟨_, rfl⟩, rfl, rfl, fun d nd => ⟨x, d, rfl, rfl, upd_same, hx, hl, (by show 2 ≤ sizeLine; decide), fun p np => ?_⟩⟩
    exact q p _ ((same_upd nd).free np) ((same_upd nd).trans (same_upd np)) upd_same
end
end Sf
namespace Sf
open PySem PySem.Spec PyProof.Rows L2 TL
section
variable {X : Cx}
/-! ### < of data -/
theorem op_ltD (hu : X.A.units + 64 < cLine) : OpR X (compareOp .Lt) (fun x y H Q => ∃ d e, Dp X.K H x d ∧ Dp X.K H y e ∧ PySem.W.alike d e = true ∧ d ≠ .none ∧ d.depth ≤ 60 ∧ Q (.bl (PySem.W.dataLt d e)) H) := by
  intro pins s σ H x y v u Q I rx ry h
  obtain ⟨d, e, hd, he, ha, hn, hdp, q⟩ := h
  obtain ⟨as, r1⟩ := Dp.reads I d x v hd rx
  obtain ⟨bs, r2⟩ := Dp.reads I e y u he ry
  exact PySem.W.rcLt_alike d e _ _ v u as bs r1 r2 ha hn (by omega) _ _ _ _ ⟨.bl _, H, I, rfl, q⟩
end
/-! ### how words rise -/
def lexI : List Int → List Int → Bool
  | [], [] => false
  | [], _ :: _ => true
  | _ :: _, [] => false
  | x :: r, y :: t => decide (x < y) || (!decide (y < x) && lexI r t)
def idxC (c : Nat) : Int := (rkC c : Int) - 97
def wlt (x y : Str) : Bool := decide ((x.length : Int) < (y.length : Int)) || (!decide ((y.length : Int) < (x.length : Int)) && lexI ((tl x).map idxC) ((tl y).map idxC))
theorem idx_lt (x y : Nat) : idxC x < idxC y ↔ rkC x < rkC y := by
  unfold idxC
  omega
theorem lex_rk : ∀ l m : List Nat, decide (l.map rkC < m.map rkC) = lexI (l.map idxC) (m.map idxC)
  | [], [] => by decide
  | [], y :: m => by simp [lexI]
  | x :: l, [] => by simp [lexI]
  | x :: l, y :: m => by
    have ih := lex_rk l m
    simp only [List.map_cons, lexI, ← ih]
    rw [Bool.eq_iff_iff]
    simp only [decide_eq_true_eq, Bool.or_eq_true, Bool.and_eq_true, Bool.not_eq_true', decide_eq_false_iff_not, List.cons_lt_cons_iff, idx_lt]
    constructor
    · rintro (h | ⟨h1, h2⟩)
      · exact .inl h
      · exact .inr ⟨by omega, h2⟩
    · rintro (h | ⟨h1, h2⟩)
      · exact .inl h
      · by_cases h3 : rkC x < rkC y
        · exact .inl h3
        · exact .inr ⟨by omega, h2⟩
open PySem.W in
theorem lt_tup (n m : Int) (r q : Str) : dataLt (.tuple [.int n, .str r]) (.tuple [.int m, .str q]) = (decide (n < m) || (!decide (m < n) && decide (tl r < tl q))) := by
  unfold dataLt
  simp only [keyToks, keyToksAll, List.cons_append, List.nil_append]
  rw [lex_cons, lex_cons, lex_cons, lex_cons, lex_cons]
  simp [itemLt, PyProof.Rows.strKind, PyProof.Rows.lexLt]
open PySem.W in
theorem lex_toks : ∀ is js : List Int, PyProof.Rows.lexLt itemOrd (keyToksAll (is.map .int) ++ [.inl 0]) (keyToksAll (js.map .int) ++ [.inl 0]) = lexI is js
  | [], [] => by decide
  | [], j :: js => by simp [keyToksAll, keyToks, PyProof.Rows.lexLt, itemLt, lexI]
  | i :: is, [] => by simp [keyToksAll, keyToks, PyProof.Rows.lexLt, itemLt, lexI]
  | i :: is, j :: js => by
    have ih := lex_toks is js
    simp only [List.map_cons, keyToksAll, keyToks, List.cons_append, List.nil_append, lexI]
    rw [lex_cons, lex_cons, ih]
    simp [itemLt]
open PySem.W in
theorem lt_lst (n m : Int) (is js : List Int) : dataLt (.list [.int n, .list (is.map .int)]) (.list [.int m, .list (js.map .int)]) = (decide (n < m) || (!decide (m < n) && lexI is js)) := by
  unfold dataLt
  simp only [keyToks, keyToksAll, List.cons_append, List.nil_append]
  rw [lex_cons, lex_cons, lex_cons, lex_toks]
  simp [itemLt]
theorem rank_lt (x y : Str) : PySem.W.dataLt (.tuple [.int (x.length : Int), .str (rankS x)]) (.tuple [.int (y.length : Int), .str (rankS y)]) = wlt x y := by
  rw [lt_tup]
  unfold wlt rankS
  rw [tl_mkS, tl_mkS, lex_rk]
theorem find_one : ∀ c, c < 128 → sgn c = true → Txt.find (Str.ofString "aAbBcCdDeEfFgGhH") (one c) = idxC c := by decide +kernel
open PySem.W in
theorem alike_ints : ∀ is js : List Int, alikeAll (is.map .int) (js.map .int) = true
  | [], _ => by simp [alikeAll]
  | _ :: _, [] => by simp [alikeAll]
  | _ :: is, _ :: js => by
    rw [List.map_cons, List.map_cons, alikeAll, alike_ints is js]
    rfl
theorem depth_ints : ∀ is : List Int, PyData.depthAll (is.map .int) = 0
  | [] => rfl
  | _ :: is => by
    rw [List.map_cons, PyData.depthAll, depth_ints is]
    rfl
theorem dp_intsL {K : PySem.W.Frag} {H : Hp} : ∀ l : List Int, DpAll K H (l.map V.int) (l.map .int)
  | [] => .nil
  | _ :: l => .cons (.int _) (dp_intsL l)
section
variable {P : Program} {w : World} {K : PySem.W.Frag} {mg : Str → Option Value} {base : Heap}
/-! ### _law_rank -/
def RkAt (H : Hp) (p : Addr) (x : Str) : Prop := ∃ q : Addr, H p = some (.lst [.int (x.length : Int), .ref q]) ∧ H q = some (.lst (((tl x).map idxC).map V.int))
theorem RkAt.same {H H' : Hp} {p : Addr} {x : Str} (s : Same H H') : RkAt H p x → RkAt H' p x
  | ⟨q, h1, h2⟩ => ⟨q, s _ _ h1, s _ _ h2⟩
/-- .. and both of its lists are new -/
def RkN (H0 H : Hp) (p : Addr) (x : Str) : Prop := ∃ q : Addr, H0 q = none ∧ H p = some (.lst [.int (x.length : Int), .ref q]) ∧ H q = some (.lst (((tl x).map idxC).map V.int))
theorem RkN.at {H0 H : Hp} {p : Addr} {x : Str} : RkN H0 H p x → RkAt H p x
  | ⟨q, _, h1, h2⟩ => ⟨q, h1, h2⟩
def rkD (x : Str) : PyData := .list [.int (x.length : Int), .list (((tl x).map idxC).map .int)]
theorem RkAt.dp {H : Hp} {p : Addr} {x : Str} : RkAt H p x → Dp K H (.ref p) (rkD x)
  | ⟨_, h1, h2⟩ => .lst (SqL.of h1) (.cons (.int _) (.cons (.lst (SqL.of h2) (dp_intsL _)) .nil))
theorem rkD_lt (x y : Str) : PySem.W.dataLt (rkD x) (rkD y) = wlt x y := by
  unfold rkD
  rw [lt_lst]
  rfl
theorem rkD_alike (x y : Str) : PySem.W.alike (rkD x) (rkD y) = true := by
  unfold rkD
  simp only [PySem.W.alike, PySem.W.alikeAll, alike_ints, Bool.and_self]
theorem rkD_depth (x : Str) : (rkD x).depth ≤ 60 := by
  unfold rkD
  simp only [PyData.depth, PyData.depthAll, depth_ints]
  decide
def spRankL : Sp := fun vs H Q _ => ∃ x : Str, vs = [.str x] ∧ Wd x ∧ x.length ≤ 50000 ∧ ∀ (p : Addr) (H' : Hp), H p = none → Same H H' → RkN H H' p x → Q (.ref p) H'
abbrev HasRankL (P : Program) (w : World) (K : PySem.W.Frag) (mg : Str → Option Value) (base : Heap) : Prop := Has P w K mg base 1 "_law_rank" ["_law_word_here"] spRankL
theorem sc_rankL : FnScope ["_law_word_here", "_law_sign_here"] ["_law_word_here"] (defScope s__law_rank) := ⟨rfl, rfl, rfl, by decide +kernel, rfl, by decide +kernel, by decide +kernel⟩
theorem has_rankL (F : FnAt K mg "_law_rank" s__law_rank ["_law_word_here"]) (B : Blt mg) : HasRankL P w K mg base := F.has fun F => by
  refine F.ok sc_rankL (fun vs H Q E h => ?_) (fun cdv A outer s H vs Q E hr h => ?_)
  · obtain ⟨x, rfl, _⟩ := h
    rfl
  · obtain ⟨x, rfl, hx, hl, q⟩ := h
    have hz : x.cps.size = (tl x).length := len_tl x
    have hzl : x.length = (tl x).length := len_tl x
    refine ⟨_, pss_one (ps_ret (pe_lst (pa_cons (pe_callB call_len_str (by rfl) B.len PySem.boot_len (pa_cons (pv 0) pa_nil)) (pa_cons (pe_lc (own := [("_law_sign_here", 1)]) (g := gName 1) (tt := tYes) (by rfl) sc_rankL.nd (pi_str (pv 0))
      (blkOk_by (own := [("_law_sign_here", 1)]) (N := ["_law_word_here", "_law_sign_here"]) (sc := defScope s__law_rank) (by decide +kernel)) (fun _ _ _ _ _ => pg_name (i := 1) sc_rankL.nd rfl (.inl rfl)) (fun _ _ _ _ _ => pts_nil)
      (fun _ _ _ _ _ => pe_m1 PySem.F.slot_str_find PySem.F.type_str_find mt_find pe_str (pv 1))) pa_nil)))), ?_⟩
    refine ⟨_, rfl, x, rfl, line_of (by omega), _, rfl, x, rfl, fun D nD => ?_⟩
    refine lc_gen (n := x.cps.size) (fun i H2 => Same H H2 ∧ H2 D = some (.lst ((((tl x).take i).map idxC).map V.int))) ⟨same_upd nD, upd_same⟩ (fun i H2 hi _ => hi) (fun H2 _ => Nat.le_refl _) ?_ ?_
    · rintro i v H2 H3 hi ⟨s2, hD⟩ ⟨rfl, c, hc, rfl⟩
      have hc' := getElem?_of_cps hc
      have hs := hx c (List.mem_of_getElem? hc')
      refine ⟨rfl, yes_if ?_⟩
      refine ⟨⟨_, rfl⟩, _, rfl, _, _, rfl, rfl, ?_⟩
      rw [find_one c (sgn_lt hs) hs]
      refine ⟨_, hD, ?_, fun a o e => ?_, ?_⟩
      · rw [List.length_map, List.length_map, List.length_take]
        exact lineLt_of (by omega)
      · rw [upd_ne (ne_of_none e nD)]
        exact s2 _ _ e
      · rw [upd_same, List.take_add_one, hc', List.map_append, List.map_append]
        rfl
    · rintro H2 ⟨s2, hD⟩
      rw [List.take_of_length_le (by rw [hz]; exact Nat.le_refl _)] at hD
      refine ⟨(by show 2 ≤ sizeLine; decide), fun p np => ?_⟩
      exact q p _ (s2.free np) (s2.trans (same_upd np)) ⟨D, nD, upd_same, by rw [upd_ne (ne_of_none hD np)]; exact hD⟩
end
end Sf
namespace Sf
open PySem PySem.Spec PyProof.Rows L2 TL
/-! ### {**a, **b} -/
section
variable {prog : Program} {w : World} {A : Around} {E : Value → Shared → Prop} {s : Shared}
theorem put_pairs {d : Addr} {kvs : List (Key × Value)} {k : Key} {key v : Value} {Q : Unit → Shared → Prop} (hkey : (mixKind prog w).is k key = true) (hm : s.heap.DictOf (mixKind prog w) d kvs)
    (hQ : ∀ h', h'.DictOf (mixKind prog w) d (stored kvs k v) → Heap.SameBut d s.heap h' → Q () { s with heap := h' })
    (hsz : kvs.length ≤ sizeLine) : wpAny (model prog w) A (dictPut d ((mixKind prog w).hash k) key v) Q E s := by
  obtain ⟨o, es, ep, ho, hc, hd, hk, hp, hn⟩ := hm
  have hes : es.size ≤ sizeLine := by
    have e1 := hp.length
    have e2 : es.toList.length = es.size := by simp
    omega
  unfold dictPut
  refine wpAny_bind (wpAny_dictFind_of hkey ho hd hk ?_)
  have hidx : (es.findIdx? fun e => (mixKind prog w).is k e.key) = kvs.findIdx? fun kv => decide (kv.1 = k) := by
    rw [← hp.findIdx k]
    obtain ⟨l⟩ := es
    simp
  cases hi : es.findIdx? fun e => (mixKind prog w).is k e.key with
  | some i =>
    refine wpAny_updateDict ho hd (hQ _ ⟨_, _, ep, Heap.get?_update_self _ ho (Obj.isFreed_of_dict (Obj.data_mapDict hd _)), hc.mapDict _, Obj.data_mapDict hd _, hk.modify _ _, ?_, ?_⟩ (Heap.SameBut.update ..))
    · rw [stored, if_pos (any_of_findIdx_some (hidx ▸ hi))]
      have hl : (es.toList.findIdx? fun e => (mixKind prog w).is k e.key) = some i := by
        rw [← hi]
        obtain ⟨l⟩ := es
        simp
      have := hp.modify hn hl v
      obtain ⟨l⟩ := es
      simpa using this
    · rw [stored, if_pos (any_of_findIdx_some (hidx ▸ hi)), keys_map_store]
      exact hn
  | none =>
    have hnot : k ∉ kvs.map (·.1) := not_mem_of_findIdx_none (hidx ▸ hi)
    have hany : ¬ (kvs.any fun kv => decide (kv.1 = k)) = true := by
      rw [List.any_eq_true]
      rintro ⟨kv, hkv, he⟩
      exact hnot (List.mem_map.mpr ⟨kv, hkv, of_decide_eq_true he⟩)
    refine wpAny_updateDictKeys (hz := hes) ho hd (hQ _ ⟨_, _, ep + 1, Heap.get?_update_self _ ho (Obj.isFreed_of_dict (Obj.data_mapDictKeys hd _)), hc.mapDictKeys _, Obj.data_mapDictKeys hd _, hk.push hkey _, ?_, ?_⟩ (Heap.SameBut.update ..))
    · rw [stored, if_neg hany]
      have := hp.append hkey ((mixKind prog w).hash k) v
      obtain ⟨l⟩ := es
      simpa using this
    · rw [stored, if_neg hany, List.map_append, List.nodup_append]
      refine ⟨hn, by simp, ?_⟩
      intro a ha b hb
      simp only [List.map_cons, List.map_nil, List.mem_singleton] at hb
      subst hb
      exact fun e => hnot (e ▸ ha)
theorem merge_pairs {d o : Addr} {kvs more : List (Key × Value)} {Q : Unit → Shared → Prop} (hdo : d ≠ o) (hoS : (o == sysModules) = false) (hd : s.heap.DictOf (mixKind prog w) d kvs) (ho : s.heap.DictOf (mixKind prog w) o more)
    (hQ : ∀ h', h'.DictOf (mixKind prog w) d (merged kvs more) → Heap.SameBut d s.heap h' → Q () { s with heap := h' }) (hsz : kvs.length + more.length ≤ sizeLine) :
    wpAny (model prog w) A (mergeMapping d (.ref o) false) Q E s := by
  obtain ⟨od, esd, epd, hod, hcd, hdd, hkd, hpd, hnd⟩ := id hd
  obtain ⟨oo, eso, epo, hoo, hco, hdo', hko, hpo, hno⟩ := id ho
  have hlen : more.length = eso.size := by rw [← hpo.length]; simp
  unfold mergeMapping
  refine wpAny_bind (wpAny_isInstance ho.typeIs isSubtype_dict_dict ?_)
  simp only [if_true]
  refine wpAny_bind (wpAny_specialOf ho.typeIs PySem.F.slot_dict_iter.lookup ?_)
  refine wpAny_bind (wpAny_pure ?_)
  simp only [beq_self_eq_true]
  rw [if_neg (by rw [hoS]; exact Bool.false_ne_true)]
  refine wpAny_bind (wpAny_dictEntries hod hdd ?_)
  have loop : wpAny (model prog w) A (do
      let l ← dictEntries o
      let epoch ← dictEpoch o
      forIn (List.range l.size) PUnit.unit fun i (_ : PUnit) => (do
          let l' ← dictEntries o
          match l'[i]? with
            | some e => do
              holding [e.key, e.val] (dictPut d e.hash e.key e.val)
              let ep' ← dictEpoch o
              if (ep' != epoch) = true then do
                  (unsupported "dict.changed-during-merge" : Sem PUnit)
                  pure (ForInStep.yield PUnit.unit)
                else pure (ForInStep.yield PUnit.unit)
            | _ => do
              (unsupported "dict.changed-during-merge" : Sem PUnit)
              pure (ForInStep.yield PUnit.unit) : Sem (ForInStep PUnit))
      pure ()) Q E s := by
    refine wpAny_bind (wpAny_dictEntries hoo hdo' ?_)
    refine wpAny_bind (wpAny_dictEpoch hoo hdo' ?_)
    refine wpAny_bind ?_
    rw [List.range_eq_range']
    refine wpAny_forIn_list _
      (fun rest _ s' => ∃ h' i, s' = { s with heap := h' } ∧ rest = List.range' i (eso.size - i) ∧ i ≤ eso.size ∧ h'.DictOf (mixKind prog w) d (merged kvs (more.take i)) ∧ h'.get? o = some oo ∧ Heap.SameBut d s.heap h')
      _ ?_ ?_ _ _ ⟨s.heap, 0, rfl, by simp, Nat.zero_le _, by simpa [merged] using hd, hoo, Heap.SameBut.refl _ _⟩
    · rintro x rest b s' ⟨h', i, rfl, hr, hi, hd', hoo', hs'⟩
      have hlt : i < eso.size := by
        rcases Nat.lt_or_ge i eso.size with h | h
        · exact h
        · rw [Nat.sub_eq_zero_of_le h] at hr
          simp at hr
      obtain ⟨rfl, hrest⟩ : x = i ∧ rest = List.range' (i + 1) (eso.size - (i + 1)) := by
        have e : eso.size - i = (eso.size - (i + 1)) + 1 := by omega
        rw [e, List.range'_succ] at hr
        injection hr with h1 h2
        exact ⟨h1, h2⟩
      refine wpAny_bind (wpAny_dictEntries hoo' hdo' ?_)
      rw [Array.getElem?_eq_getElem hlt]
      obtain ⟨kv, hkv⟩ : ∃ kv, more[x]? = some kv := ⟨more[x]'(by rw [hlen]; exact hlt), List.getElem?_eq_getElem _⟩
      obtain ⟨k, v⟩ := kv
      obtain ⟨hkey, hval⟩ := hpo.get? (e := eso[x]) (by simp [hlt]) hkv
      obtain ⟨k', hkey', hhash⟩ := hko eso[x] (Array.getElem_mem hlt)
      obtain rfl : k' = k := (mixKind prog w).inj _ _ _ hkey' hkey
      show wpAny _ _ (holding [eso[x].key, eso[x].val] (dictPut d eso[x].hash eso[x].key eso[x].val) >>= _) _ _ _
      rw [hhash, hval]
      have hmx : (merged kvs (more.take x)).length ≤ sizeLine := by
        have e1 := merged_length_le kvs (more.take x)
        have e2 : (more.take x).length ≤ more.length := by rw [List.length_take]; omega
        omega
      refine wpAny_bind (wpAny_holding (put_pairs (hsz := hmx) hkey hd' fun h'' hd'' hs'' => ?_))
      have hoo'' : h''.get? o = some oo := (hs''.2 o (Ne.symm hdo)).trans hoo'
      refine wpAny_bind (wpAny_dictEpoch hoo'' hdo' ?_)
      rw [if_neg (by simp)]
      exact wpAny_pure ⟨h'', x + 1, rfl, hrest, hlt, by rw [merged_take_succ kvs more x (k', v) hkv]; exact hd'', hoo'', hs'.trans hs''⟩
    · rintro b s' ⟨h', i, rfl, hr, hi, hd', hoo', hs'⟩
      have hin : i = eso.size := by
        rcases Nat.lt_or_ge i eso.size with h | h
        · have e : eso.size - i = (eso.size - (i + 1)) + 1 := by omega
          rw [e, List.range'_succ] at hr
          exact nomatch hr
        · exact Nat.le_antisymm hi h
      refine wpAny_pure (hQ h' ?_ hs')
      rw [hin, ← hlen, List.take_length] at hd'
      exact hd'
  split
  · refine wpAny_bind (wpAny_dictEntries hoo hdo' ?_)
    refine wpAny_bind (MeetsSeq2.wpAny_forIn_array _ (fun rest _ s' => s' = s ∧ ∀ e ∈ rest, e ∈ eso.toList) _ (fun e rest b s' hI => ?_) (fun b s' hI => ?_) _ _ ⟨rfl, fun e he => he⟩)
    · obtain ⟨rfl, hmem⟩ := hI
      obtain ⟨k', hkey', hhash⟩ := hko e (Array.mem_toList_iff.mp (hmem e (List.mem_cons_self ..)))
      have hrest : ∀ e' ∈ rest, e' ∈ eso.toList := fun e' he' => hmem e' (List.mem_cons_of_mem _ he')
      rcases keyIs_shape (show keyIs k' e.key = true from hkey') with ⟨i, t, _, ek⟩ | ⟨x, t, _, ek⟩
      · rw [ek]
        exact wpAny_pure ⟨rfl, hrest⟩
      · rw [ek]
        exact wpAny_pure ⟨rfl, hrest⟩
    · obtain ⟨rfl, _⟩ := hI
      exact loop
  · exact loop
end
section
variable {X : Cx}
theorem stored_put {kvs : List (Key × V)} {vs : List (Key × Value)} (r : KV kvs vs) : ∀ {more : List (Key × V)} {ws : List (Key × Value)}, KV more ws → KV (more.foldl (fun a p => putK a p.1 p.2) kvs) (merged vs ws) := by
  intro more ws h
  induction h generalizing kvs vs with
  | nil => exact r
  | cons p q ih =>
    rename_i a b l m
    obtain ⟨e, rv⟩ := p
    show KV (List.foldl _ (putK kvs a.1 a.2) l) (merged (stored vs b.1 b.2) m)
    rw [← e]
    exact ih (r.put a.1 rv)
def mergeV (a b : List (Key × V)) : List (Key × V) := b.foldl (fun a p => putK a p.1 p.2) a
theorem mergeV_len (a b : List (Key × V)) : (mergeV a b).length ≤ a.length + b.length := by
  unfold mergeV
  induction b generalizing a with
  | nil => simp
  | cons p b ih =>
    rw [List.foldl_cons]
    have h1 := ih (putK a p.1 p.2)
    have h2 := length_putK a p.1 p.2
    simp only [List.length_cons]
    omega
theorem merge_run {A : Around} {E : Value → Shared → Prop} {pins : List (Addr × Obj)} {σ : L2.St} {H : Hp} {s : Shared} {d o : Addr} {kvs more : List (Key × V)} {Q : Unit → Shared → Prop} (I : Inv X pins σ H s) (hdo : d ≠ o) (hd : H d = some (.dK kvs)) (ho : H o = some (.dK more)) (hsz : kvs.length + more.length ≤ sizeLine)
    (h : ∀ s', Inv X pins σ (upd H d (.dK (mergeV kvs more))) s' → Q () s') : wpAny (model X.prog X.w) A (mergeMapping d (.ref o) false) Q E s := by
  obtain ⟨z1, hs1, vs, rel, dd⟩ := dk_of I.hok hd
  obtain ⟨z2, hs2, ws, rel2, dd2⟩ := dk_of I.hok ho
  refine merge_pairs hdo hs2 dd dd2 (fun h' dd' hs => h _ ?_) (by rw [← rel.length, ← rel2.length]; exact hsz)
  have he : ∃ q, h'.get? d = some q := let ⟨q, _, _, hq, _⟩ := dd'; ⟨q, hq⟩
  exact d_write I (by rw [hd]; exact True.intro) hs he (dk_new (Nat.le_trans (mergeV_len _ _) hsz) hs1 (stored_put rel rel2) dd')
/-- {**a, **b}: a new dict first, then a into it, then b -/
def tMerge2 (ta tb : TE) : TE := fun σ H Q => ∀ p, H p = none → ta σ (upd H p (.dK [])) fun x H1 => ∃ (a : Addr) (ka : List (Key × V)), x = .ref a ∧ a ≠ p ∧ H1 a = some (.dK ka) ∧ H1 p = some (.dK []) ∧ ka.length ≤ sizeLine ∧
  tb σ (upd H1 p (.dK (mergeV [] ka))) fun y H2 => ∃ (b : Addr) (kb : List (Key × V)), y = .ref b ∧ b ≠ p ∧ H2 b = some (.dK kb) ∧ H2 p = some (.dK (mergeV [] ka)) ∧ (mergeV [] ka).length + kb.length ≤ sizeLine ∧ Q (.ref p) (upd H2 p (.dK (mergeV (mergeV [] ka) kb)))
theorem pe_merge2 {e1 e2 : Expr} {ta tb : TE} {pos : Pos} (h1 : PE X e1 ta) (h2 : PE X e2 tb) : PE X (.Dict [none, none] [e1, e2] pos) (tMerge2 ta tb) := by
  refine ⟨fun pins s σ H Q I q => ?_⟩
  show wpAny _ _ (do
    standAt pos
    dictDisplay [(none, do let x ← eval e1 X.env; standAt pos; pure x), (none, do let x ← eval e2 X.env; standAt pos; pure x)]) _ _ _
  refine wpAny_bind (wpAny_standAt ?_)
  have hn := I.hok.fresh (Nat.le_refl s.heap.objs.size)
  have I1 := I.laid (a := s.heap.objs.size) (o := .dK []) (h' := s.heap.push { cls := .type "dict", data := .dict #[] }) (t' := s.toks) (fun _ _ q => Heap.get?_push_of_some _ q) (Nat.le_refl _) (dk_empty s.heap I.big)
  have q := q _ hn
  unfold dictDisplay
  simp only [List.forIn_cons, List.forIn_nil, List.isEmpty_nil, if_true]
  refine wpAny_bind ?_
  refine wpAny_bind ?_
  refine wpAny_bind (wpAny_pure ?_)
  dsimp only
  refine wpAny_bind (wpAny_alloc ?_)
  refine wpAny_bind (wpAny_holding (wpAny_bind (thn (h1.run pins _ σ _ _ I1 q) fun v s2 ⟨x, H2, I2, rx, a, ka, ex, hap, ha, hp, hz, q2⟩ => wpAny_bind (wpAny_standAt (wpAny_pure ?_)))))
  subst ex
  cases rx
  refine wpAny_bind (wpAny_onRaise (wpAny_tryCatch (wpAny_onRaise (wpAny_holding (merge_run I2 hap.symm hp ha (by rw [List.length_nil, Nat.zero_add]; exact hz) fun s3 I3 => ?_)))))
  refine wpAny_pure ?_
  dsimp only
  refine wpAny_bind ?_
  simp only [List.isEmpty_nil, if_true]
  refine wpAny_bind (wpAny_pure ?_)
  dsimp only
  refine wpAny_bind (wpAny_pure ?_)
  refine wpAny_bind (wpAny_holding (wpAny_bind (thn (h2.run pins _ σ _ _ I3 q2) fun v s4 ⟨y, H4, I4, ry, b, kb, ey, hbp, hb, hp4, hz4, q4⟩ => wpAny_bind (wpAny_standAt (wpAny_pure ?_)))))
  subst ey
  cases ry
  refine wpAny_bind (wpAny_onRaise (wpAny_tryCatch (wpAny_onRaise (wpAny_holding (merge_run I4 hbp.symm hp4 hb hz4 fun s5 I5 => ?_)))))
  refine wpAny_pure ?_
  dsimp only
  refine wpAny_pure ?_
  simp only [List.isEmpty_nil, if_true]
  refine wpAny_bind (wpAny_pure ?_)
  exact wpAny_pure ⟨.ref _, _, I5, rfl, q4⟩
end
end Sf
namespace Sf
open PySem PySem.Spec PyProof.Rows L2 TL
/-! ### ==, != and len of an own class -/
section
variable {X : Cx} {k : Nat} {f C : Addr} {fd : FuncData} {ps : List Str} {sp : Sp}
theorem run_fnA {A : Around} {Er : Value → Shared → Prop} {pins : List (Addr × Obj)} {σ : L2.St} {H : Hp} {s : Shared} {Q : VK} {us : List Value} {vs : List V} (F : FnOk X.prog X.w X.K X.mg X.base CX0 k f fd ps sp) (hr : Room k A) (e0 : Env0 X.prog X.w X.K X.mg X.base A X.stack s H) (hb : Binds X.K fd ps [])
    (I : Inv X pins σ H s) (r : Vals vs us) (h : sp vs H Q E0) : wpAny (model X.prog X.w) A (call (.ref f) us) (EP X pins σ Q) Er s := by
  have hl : (us ++ []).length = ps.length := by rw [List.append_nil, ← r.length]; exact F.len _ _ _ _ h
  have hbd := hb s us I.kIn hl
  rw [List.append_nil] at hbd
  refine wpAny_call (codeAny_mono (F.run A X.stack s H ⟨us, []⟩ us vs Q E0 hr e0 hbd r h) fun r s' hq => ?_)
  cases r with
  | error e => exact False.elim hq
  | ok fl =>
    cases fl with
    | ret u => exact I.after hq
    | next => exact False.elim hq
    | brk => exact False.elim hq
    | cont => exact False.elim hq
/-- a == b, both of the class at C, by its __eq__ -/
theorem op_eqOwn (F : FnOk X.prog X.w X.K X.mg X.base CX0 k f fd ps sp) (hs : PySem.W.findIn X.K (.ref C) "__eq__" = some (some (.ref f))) (hf : PySem.W.isFn X.K (.ref f) = true) (hb : Binds X.K fd ps []) (hr : Room k X.A) :
    OpR X (compareOp .Eq) (fun x y H Q => ∃ a b dx dy fs gs, x = .ref a ∧ y = .ref b ∧ H a = some (.ins C dx fs) ∧ H b = some (.ins C dy gs) ∧ sp [.ref a, .ref b] H (fun v H' => ∃ t, v = .bl t ∧ Q (.bl t) H') E0) := by
  intro pins s σ H x y v u Q I rx ry h
  obtain ⟨a, b, dx, dy, fs, gs, rfl, rfl, ha, hb', h⟩ := h
  cases rx
  cases ry
  obtain ⟨mA, J, _⟩ := ins_get I.hok ha
  obtain ⟨mB, J', _⟩ := ins_get I.hok hb'
  obtain ⟨od, J, _⟩ := J.look
  obtain ⟨od', J', _⟩ := J'.look
  obtain ⟨m, hF⟩ := I.fr
  refine PySem.W.cmp_K (op := .Eq) (tb := .ref C) hr.units0 hF I.ok.mod.kin J J'.type (by simp [PySem.W.notFirst]) hs hf ?_
  refine wpAny_mono (run_fnA (Er := X.xe) F hr I.env0 hb I (show Vals [V.ref a, V.ref b] [Value.ref a, Value.ref b] from .cons rfl (.cons rfl .nil)) h) (fun v s' hv => ?_) fun _ _ z => z
  obtain ⟨z, H', I', rz, t, rfl, q⟩ := hv
  cases rz
  exact ⟨.bl t, H', I', rfl, q⟩
theorem ifBound_ne {M : Model} {A : Around} {E : Value → Shared → Prop} {s : Shared} {K : PySem.W.Frag} {x : Addr} {ox : Obj} {od : Option Obj} {args : List Value} {Q : Option Value → Shared → Prop} (X : K.In s.heap) (I : PySem.W.InstAt s.heap x ox C od) (hs : PySem.W.findIn K (.ref C) "__ne__" = some (some (.builtin "object.__ne__")))
    (h : wpAny M A (call (.builtin "object.__ne__") (.ref x :: args)) (fun v => Q (some v)) E s) : wpAny M A (callSpecialIfBound? (.ref x) "__ne__" args) Q E s := by
  simp only [callSpecialIfBound?, bindSpecialIfBound?]
  refine wpAny_holding (wpAny_bind (wpAny_bind (wpAny_bind (I.type.here ((PySem.W.looks_findIn X hs).here ?_)))))
  refine wpAny_bind (wpAny_askSetting (wpAny_ite ?_))
  have fin : wpAny M A (call (.builtin "object.__ne__") ([.ref x] ++ args) >>= fun v => pure (some v)) Q E s := wpAny_bind (wpAny_mono h (fun v s' h' => wpAny_pure h') fun _ _ h' => h')
  split
  · exact wpAny_bind (wpAny_of_eq (PySem.F.cmp_object.ne.bind _) (wpAny_pure (by exact fin)))
  · exact wpAny_tryCatch (wpAny_bind (wpAny_of_eq (PySem.F.cmp_object.ne.bind _) (wpAny_pure (by exact fin))))
/-- a != b, both of the class at C, by its __eq__ -/
theorem op_neOwn (F : FnOk X.prog X.w X.K X.mg X.base CX0 k f fd ps sp) (hs : PySem.W.findIn X.K (.ref C) "__eq__" = some (some (.ref f))) (hf : PySem.W.isFn X.K (.ref f) = true) (hb : Binds X.K fd ps []) (hn : PySem.W.findIn X.K (.ref C) "__ne__" = some (some (.builtin "object.__ne__")))
    (hm : PySem.W.mroIn X.K C (.type "object") = some true) (hr : Room (k + 1) X.A) :
    OpR X (compareOp .NotEq) (fun x y H Q => ∃ a b dx dy fs gs, x = .ref a ∧ y = .ref b ∧ H a = some (.ins C dx fs) ∧ H b = some (.ins C dy gs) ∧ sp [.ref a, .ref b] H (fun v H' => ∃ t, v = .bl t ∧ Q (.bl (!t)) H') E0) := by
  intro pins s σ H x y v u Q I rx ry h
  obtain ⟨a, b, dx, dy, fs, gs, rfl, rfl, ha, hb', h⟩ := h
  cases rx
  cases ry
  obtain ⟨mA, J, _⟩ := ins_get I.hok ha
  obtain ⟨mB, J', _⟩ := ins_get I.hok hb'
  obtain ⟨od, J, _⟩ := J.look
  obtain ⟨od', J', _⟩ := J'.look
  have hu1 : X.A.in1.units < cLine := hr.in1.units0
  have one : wpAny (model X.prog X.w) X.A (tryCompare (.ref a) (cmpInfo .NotEq).2.1 (.ref b)) (fun r s' => ∃ v, r = some v ∧ EP X pins σ Q v s') X.xe s := by
    unfold tryCompare
    refine wpAny_bind (ifBound_ne I.kIn J hn ?_)
    refine wpAny_call (codeAny_call_builtin PySem.F.cmp_object.ne.plain PySem.F.cmpEntry_ne (PySem.W.check_slot PySem.F.cmpKind_ne PySem.F.cmpSplit_ne (J.type.andThen (PySem.W.looks_mroIn I.kIn hm)) (PySem.F.cmpArgs_ne _ _) ?_))
    unfold Builtin.«object.__ne__»
    refine wpAny_bind (wpAny_of_eq (a := (.ref a, [.ref b])) rfl ?_)
    dsimp only
    refine wpAny_bind (wpAny_cRoomFor hu1 ?_)
    refine wpAny_bind (PySem.W.ifBound_K I.kIn J hs hf ?_)
    refine wpAny_mono (run_fnA F hr.in1 I.env0.in1 hb I (show Vals [V.ref a, V.ref b] [Value.ref a, Value.ref b] from .cons rfl (.cons rfl .nil)) h) (fun v s' hv => ?_) fun _ _ z => z
    obtain ⟨z, H', I', rz, t, rfl, q⟩ := hv
    cases rz
    refine wpAny_bind (wpAny_truthy_bool ?_)
    exact wpAny_pure (wpAny_pure ⟨_, rfl, .bl (!t), H', I', rfl, q⟩)
  show wpAny (model X.prog X.w) X.A (richCompare .NotEq (.ref a) (.ref b)) _ _ _
  unfold richCompare
  simp only [oneThing_ref]
  refine wpAny_holding (wpAny_bind (wpAny_cRoomFor hr.units0 ?_))
  refine wpAny_bind (J.type.here (wpAny_bind (J'.type.here ?_)))
  split
  · rename_i q
    simp at q
  · refine wpAny_bind (wpAny_pure ?_)
    simp only [Bool.false_eq_true, if_false]
    refine wpAny_bind (wpAny_mono one (fun r s' z => ?_) fun _ _ e => e)
    obtain ⟨v, rfl, hq⟩ := z
    exact wpAny_pure hq
/-- len(a), a of the class at C, by its __len__ -/
theorem call_lenOwn (F : FnOk X.prog X.w X.K X.mg X.base CX0 k f fd ps sp) (hs : PySem.W.findIn X.K (.ref C) "__len__" = some (some (.ref f))) (hf : PySem.W.isFn X.K (.ref f) = true) (hb : Binds X.K fd ps []) (hr : Room (k + 1) X.A) :
    CallR X (.builtin "len") (fun xs H Q => ∃ a dx fs, xs = [.ref a] ∧ H a = some (.ins C dx fs) ∧ sp [.ref a] H (fun v H' => ∃ n : Nat, v = .int (n : Int) ∧ n ≤ sizeLine ∧ Q (.int (n : Int)) H') E0) := by
  intro pins s σ H xs us Q I r h
  obtain ⟨a, dx, fs, rfl, ha, h⟩ := h
  obtain ⟨u1, rfl, r1⟩ := vals1 r
  cases r1
  obtain ⟨mA, J, _⟩ := ins_get I.hok ha
  obtain ⟨od, J, _⟩ := J.look
  obtain ⟨m, hF⟩ := I.fr
  refine PySem.W.len_K hF I.ok.mod.kin J hs hf ?_
  refine wpAny_mono (run_fnA F hr.in1 I.env0.in1 hb I (show Vals [V.ref a] [Value.ref a] from .cons rfl .nil) h) (fun v s' hv => ?_) fun _ _ z => z
  obtain ⟨z, H', I', rz, n, rfl, hn, q⟩ := hv
  obtain ⟨t, rfl⟩ := rz
  have h63 : (n : Int) < 2 ^ 63 := by
    have := line63
    have : n < 2 ^ 63 := Nat.lt_of_le_of_lt hn this
    exact_mod_cast this
  exact ⟨⟨Int.natCast_nonneg n, h63⟩, .int (n : Int), H', I'.tok _, ⟨_, rfl⟩, q⟩
end
end Sf
namespace Sf
open PySem PySem.Spec PyProof.Rows L2 TL
/-! ### lists of texts, joined -/
theorem joinL_nil : ∀ ps : List (List Nat), joinL [] ps = ps.flatten
  | [] => rfl
  | [p] => by simp [joinL]
  | p :: q :: r => by
    show p ++ ([] ++ joinL [] (q :: r)) = _
    rw [joinL_nil (q :: r), List.nil_append]
    rfl
theorem tl_empty : tl (Str.ofString "") = [] := by decide +kernel
theorem join_tl (ys : List Str) : Txt.join (Str.ofString "") ys = mkS (ys.map tl).flatten := by
  refine eq_mkS ?_
  rw [join_eq, tl_join, tl_empty, joinL_nil]
theorem join_ones (l : List Nat) : Txt.join (Str.ofString "") (l.map one) = mkS l := by
  rw [join_tl, List.map_map]
  congr 1
  induction l with
  | nil => rfl
  | cons c l ih =>
    rw [List.map_cons, List.flatten_cons, ih]
    rfl
theorem len_empty : (Str.ofString "").length = 0 := by decide +kernel
theorem ones_sum (l : List Nat) : ((l.map one).map (·.length)).sum = l.length := by
  induction l with
  | nil => rfl
  | cons c l ih =>
    rw [List.map_cons, List.map_cons, List.sum_cons, ih, len_one, List.length_cons]
    omega
theorem join_fit {l : List Nat} (h : l.length ≤ 100000) : ((l.map one).map (·.length)).sum + (l.map one).length * (Str.ofString "").length ≤ 16777216 := by
  rw [ones_sum, len_empty]
  omega
/-- data of a list of single signs -/
def dOnes (l : List Nat) : PyData := .list (l.map fun c => .str (one c))
theorem dp_all {K : PySem.W.Frag} {H : Hp} : ∀ l : List Nat, DpAll K H (l.map fun c => V.str (one c)) (l.map fun c => .str (one c))
  | [] => .nil
  | _ :: l => .cons (.str _) (dp_all l)
theorem ones_lay : ∀ {l : List Nat}, Sg l → PyData.canLayAll0 (l.map fun c => .str (one c)) = true
  | [], _ => rfl
  | c :: l, h => by
    have hc := h c (List.mem_cons_self ..)
    have e : PyData.canLay0 (.str (one c)) = true := by
      rw [sgn_iff] at hc
      have : ∀ d, d < 128 → PyData.canLay0 (.str (one d)) = true := by decide +kernel
      exact this c (by omega)
    rw [List.map_cons, PyData.canLayAll0, e, ones_lay fun d hd => h d (List.mem_cons_of_mem _ hd)]
    rfl
theorem ones_depth : ∀ l : List Nat, PyData.depthAll (l.map fun c => .str (one c)) = 0
  | [] => rfl
  | _ :: l => by
    rw [List.map_cons, PyData.depthAll, ones_depth l]
    rfl
theorem ones_shaped {l : List Nat} (h : Sg l) : SeqAt.shaped (dOnes l) = true := by
  unfold SeqAt.shaped dOnes
  rw [PyData.canLay0, ones_lay h, Bool.true_and, PyData.depth, ones_depth]
  rfl
theorem ones_nil {l : List Nat} : PyData.eqv (dOnes l) (.list []) = l.isEmpty := by
  unfold dOnes
  cases l with
  | nil => simp [PyData.eqv, PyData.eqvAll]
  | cons c l => simp [PyData.eqv, PyData.eqvAll]
theorem Fx.toSame {L : Addr} {H H' : Hp} (f : Fx L H H') (n : H L = none) : Same H H' := fun b o e => f b o e (ne_of_none e n)
theorem glu_take {l : List Nat} {i c : Nat} (h : l[i]? = some c) : gluT (mkS (shortL (l.take i))) (one c) = mkS (shortL (l.take (i + 1))) := by
  unfold gluT
  rw [tl_mkS, tl_one, glu_one, ← shortL_snoc, List.take_add_one, h]
  rfl
end Sf
namespace Sf
open PySem PySem.Spec PyProof.Rows L2 TL
section
variable {P : Program} {w : World} {K : PySem.W.Frag} {mg : Str → Option Value} {base : Heap}
/-! ### _law_back, _law_short -/
def spBack : Sp := fun vs H Q _ => ∃ x : Str, vs = [.str x] ∧ Wd x ∧ x.length ≤ 50000 ∧ ∀ H', Same H H' → Q (.str (backT x)) H'
abbrev HasBack (P : Program) (w : World) (K : PySem.W.Frag) (mg : Str → Option Value) (base : Heap) : Prop := Has P w K mg base 2 "_law_back" ["_law_word_here"] spBack
def spShort : Sp := fun vs H Q _ => ∃ x : Str, vs = [.str x] ∧ Wd x ∧ x.length ≤ 50000 ∧ ∀ H', Same H H' → Q (.str (shortT x)) H'
abbrev HasShort (P : Program) (w : World) (K : PySem.W.Frag) (mg : Str → Option Value) (base : Heap) : Prop := Has P w K mg base 2 "_law_short" ["_law_word_here"] spShort
end
end Sf
namespace Sf
open PySem PySem.Spec PyProof.Rows L2 TL
section
variable {P : Program} {w : World} {K : PySem.W.Frag} {mg : Str → Option Value} {base : Heap}
theorem sc_back : FnScope ["_law_word_here", "_law_sign_here"] ["_law_word_here"] (defScope s__law_back) := ⟨rfl, rfl, rfl, by decide +kernel, rfl, by decide +kernel, by decide +kernel⟩
theorem has_back (F : FnAt K mg "_law_back" s__law_back ["_law_word_here"]) (hF : HasFlip P w K mg base) : HasBack P w K mg base := F.has fun F => by
  obtain ⟨fF, fdF, gF, kF, bF, GF⟩ := hF
  refine F.ok sc_back (fun vs H Q E h => ?_) (fun cdv A outer s H vs Q E hr h => ?_)
  · obtain ⟨x, rfl, _⟩ := h
    rfl
  · obtain ⟨x, rfl, hx, hl, q⟩ := h
    have hz : (revS x).cps.size = (tl (revS x)).length := len_tl (revS x)
    have hzl := revS_len x
    refine ⟨_, pss_one (ps_ret (pe_join pe_str (pe_lc (own := [("_law_sign_here", 1)]) (g := gName 1) (tt := tYes) (by rfl) sc_back.nd (pi_str (pe_revS (pv 0)))
      (blkOk_by (own := [("_law_sign_here", 1)]) (N := ["_law_word_here", "_law_sign_here"]) (sc := defScope s__law_back) (by decide +kernel)) (fun _ _ _ _ _ => pg_name (i := 1) sc_back.nd rfl (.inl rfl)) (fun _ _ _ _ _ => pts_nil)
      (fun _ _ _ _ _ => pe_call GF hr (by rfl) gF kF bF .nil pass0 (pa_cons (pv 1) pa_nil))))), ?_⟩
    refine ⟨⟨_, rfl⟩, _, rfl, x, rfl, line_of (by omega), revS x, rfl, fun D nD => ?_⟩
    refine lc_gen (n := (revS x).cps.size) (fun i H2 => Same H H2 ∧ H2 D = some (.lst (((tl (revS x)).take i).map fun c => V.str (one (flipC c))))) ⟨same_upd nD, upd_same⟩ (fun i H2 hi _ => hi) (fun H2 _ => Nat.le_refl _) ?_ ?_
    · rintro i v H2 H3 hi ⟨s2, hD⟩ ⟨rfl, c, hc, rfl⟩
      have hc' := getElem?_of_cps hc
      have hs := rev_wd hx c (List.mem_of_getElem? hc')
      refine ⟨rfl, yes_if ?_⟩
      refine ⟨_, rfl, c, rfl, hs, _, hD, ?_, fun a o e => ?_, ?_⟩
      · rw [List.length_map, List.length_take]
        have h3 : (revS x).length = (tl (revS x)).length := len_tl (revS x)
        exact lineLt_of (by omega)
      · rw [upd_ne (ne_of_none e nD)]
        exact s2 _ _ e
      · rw [upd_same, List.take_add_one, hc', List.map_append]
        rfl
    · rintro H2 ⟨s2, hD⟩
      have e1 : (tl (revS x)).take (revS x).cps.size = tl (revS x) := List.take_of_length_le (by rw [hz]; exact Nat.le_refl _)
      rw [e1] at hD
      have e2 : (backL (tl x)).map one = (tl (revS x)).map fun c => one (flipC c) := by
        rw [tl_revS]
        unfold backL
        rw [← List.map_reverse, List.map_map]
        rfl
      refine ⟨_, D, (backL (tl x)).map one, rfl, rfl, .inl (SqL.of ?_), join_fit ?_, ?_⟩
      · rw [hD, e2, List.map_map]
        rfl
      · unfold backL
        rw [List.length_reverse, List.length_map, ← len_tl]
        omega
      · rw [join_ones]
        exact q H2 s2
end
end Sf
namespace Sf
open PySem PySem.Spec PyProof.Rows L2 TL
section
variable {P : Program} {w : World} {K : PySem.W.Frag} {mg : Str → Option Value} {base : Heap}
theorem sc_short : FnScope ["_law_word_here", "_law_left", "_law_sign_here"] ["_law_word_here"] (defScope s__law_short) := ⟨rfl, rfl, rfl, by decide +kernel, rfl, by decide +kernel, by decide +kernel⟩
theorem has_short (F : FnAt K mg "_law_short" s__law_short ["_law_word_here"]) (hF : HasFlip P w K mg base) : HasShort P w K mg base := F.has fun F => by
  obtain ⟨fF, fdF, gF, kF, bF, GF⟩ := hF
  refine F.ok sc_short (fun vs H Q E h => ?_) (fun cdv A outer s H vs Q E hr h => ?_)
  · obtain ⟨x, rfl, _⟩ := h
    rfl
  · obtain ⟨x, rfl, hx, hl, q⟩ := h
    have hz : x.cps.size = (tl x).length := len_tl x
    have hzl : x.length = (tl x).length := len_tl x
    refine ⟨_, pss_cons (ps_set (i := 1) sc_short.nd rfl (.inl rfl) (pe_lst pa_nil))
      (pss_cons (ps_for PassesOwn.never rfl (pi_str (pv 0)) (pg_name (i := 2) sc_short.nd rfl (.inl rfl))
        (pss_one (ps_if (PW.pt (pw_and (pt_cmpR (op_neD hr.units) (pv 1) (pe_lst pa_nil) (nomark _)) (pw_and1 (pt_cmpR op_eq (pe_ix ix_list (pv 1) (pe_un un_neg pe_int) (fun _ _ => rfl)) (pe_call GF hr (by rfl) gF kF bF .nil pass0 (pa_cons (pv 2) pa_nil)) (nomark _)))))
          (pss_one (ps_expr (pe_bm0 PySem.F.plainAttrs_list PySem.F.slot_list_pop PySem.F.type_list_pop mt_pop (pv 1))))
          (pss_one (ps_expr (pe_bm PySem.F.plainAttrs_list PySem.F.slot_list_append PySem.F.type_list_append mt_append (pv 1) (pa_cons (pv 2) pa_nil)))))))
      (pss_one (ps_ret (pe_join pe_str (pv 1))))), ?_⟩
    refine ⟨(by show 0 ≤ sizeLine; decide), fun L nL => ?_⟩
    refine ⟨_, rfl, x, rfl, for_gen (n := x.cps.size) (fun i σ H1 => ∃ y : Option V, σ = [some (.str x), some (.ref L), y] ∧ Fx L H H1 ∧ H1 L = some (.lst ((shortL ((tl x).take i)).map fun c => V.str (one c)))) ⟨none, rfl, Fx.of (same_upd nL), upd_same⟩ (fun i σ H1 hi _ => hi) (fun σ H1 _ => Nat.le_refl _) ?_ ?_⟩
    · rintro i v σ H1 H2 hi ⟨y, rfl, f1, hL⟩ ⟨rfl, c, hc, rfl⟩
      have hc' := getElem?_of_cps hc
      have hs := hx c (List.mem_of_getElem? hc')
      have hSg : Sg (shortL ((tl x).take i)) := shortL_sg fun d hd => hx d (List.mem_of_mem_take hd)
      have hlen : (shortL ((tl x).take i)).length ≤ 50000 := by
        have := shortL_len ((tl x).take i)
        rw [List.length_take] at this
        omega
      have hnext : shortL ((tl x).take (i + 1)) = push (shortL ((tl x).take i)) c := by
        rw [List.take_add_one, hc', ← shortL_snoc]
        rfl
      refine ⟨_, rfl, (by show 0 ≤ sizeLine; decide), fun p np => ?_⟩
      have npL : L ≠ p := ne_of_none hL np
      have hL2 : (upd H2 p (.lst [])) L = some (.lst ((shortL ((tl x).take i)).map fun c => V.str (one c))) := by
        rw [upd_ne npL]
        exact hL
      have f2 : Fx L H (upd H2 p (.lst [])) := f1.new np
      refine ⟨dOnes (shortL ((tl x).take i)), .list [], .lst (SqL.of hL2) (dp_all _), .lst (SqL.of upd_same) .nil, ones_shaped hSg, (by decide +kernel), _, rfl, ?_⟩
      rw [ones_nil, hnext]
      generalize hl0 : shortL ((tl x).take i) = l at hL hL2 hSg hlen
      have app : push l c = l ++ [c] → ∃ v : V, some (some (V.ref L)) = some (some v) ∧ tyV K "list" v (upd H2 p (.lst [])) ∧ ∃ v2 : V, some (some (V.str (one c))) = some (some v2) ∧ ∃ (l' : Addr) (xs : List V) (y : V), v = .ref l' ∧ [v2] = [y] ∧ (upd H2 p (.lst [])) l' = some (.lst xs) ∧ xs.length < sizeLine ∧
          ∃ y' : Option V, [some (V.str x), some (.ref L), some (.str (one c))] = [some (V.str x), some (.ref L), y'] ∧ Fx L H (upd (upd H2 p (.lst [])) l' (.lst (xs ++ [y]))) ∧ (upd (upd H2 p (.lst [])) l' (.lst (xs ++ [y]))) L = some (.lst ((push l c).map fun c => V.str (one c))) := by
        intro e
        refine ⟨_, rfl, .inl ⟨rfl, _, SqL.of hL2⟩, _, rfl, L, _, _, rfl, rfl, hL2, ?_, _, rfl, f2.upd, ?_⟩
        · rw [List.length_map]
          exact lineLt_of (by omega)
        · rw [upd_same, e, List.map_append]
          rfl
      rcases List.eq_nil_or_concat l with rfl | ⟨r, d, rfl⟩
      · exact iteF (app (push_nil c))
      · rw [List.concat_eq_append] at *
        have e0 : (!(r ++ [d]).isEmpty) = true := by cases r <;> rfl
        rw [e0]
        have al : atI ((r ++ [d]).map fun c => V.str (one c)) (-1) = some (V.str (one d)) := by
          rw [List.map_append]
          exact atI_last _ _
        refine iteT ⟨_, rfl, 1, rfl, L, _, -1, _, rfl, rfl, SqL.of hL2, al, _, rfl, c, rfl, hs, rfl, _, rfl, ite2 (fun e => ?_) (fun e => ?_)⟩
        · have e3 : d = flipC c := by
            have := of_decide_eq_true e
            have h6 := congrArg tl (V.str.inj this)
            exact List.head_eq_of_cons_eq h6
          refine ⟨_, rfl, .inl ⟨rfl, _, SqL.of hL2⟩, L, _, .str (one d), rfl, rfl, hL2, ?_, _, rfl, f2.upd, ?_⟩
          · rw [List.length_map, List.length_append, List.length_singleton, Nat.add_sub_cancel, List.getElem?_map, List.getElem?_append_right (Nat.le_refl _), Nat.sub_self]
            rfl
          · rw [upd_same, push_last, if_pos e3, List.map_append, List.map_singleton, List.dropLast_concat]
        · have e3 : d ≠ flipC c := fun z => e (decide_eq_true (by rw [z]))
          refine app ?_
          rw [push_last, if_neg e3]
    · rintro σ H1 ⟨y, rfl, f1, hL⟩
      rw [List.take_of_length_le (by rw [hz]; exact Nat.le_refl _)] at hL
      have h3 := shortL_len (tl x)
      refine ⟨⟨_, rfl⟩, _, rfl, _, L, (shortL (tl x)).map one, rfl, rfl, .inl (SqL.of ?_), join_fit (by omega), ?_⟩
      · rw [hL, List.map_map]
        rfl
      · rw [join_ones]
        exact q H1 (f1.toSame nL)
end
end Sf
namespace Sf
open PySem PySem.Spec PyProof.Rows L2 TL
/-! ### reduced words as a group -/
def Rdc (x : Str) : Prop := Wd x ∧ RedS (tl x).reverse
theorem runS_short {s : List Nat} (h : RedS s) (hs : Sg s) : ∀ (n : Nat) (w : List Nat), w.length = n → Sg w → runS s (shortL w) = runS s w := by
  intro n
  induction n with
  | zero =>
    intro w hw _
    rw [List.eq_nil_of_length_eq_zero hw]
    rfl
  | succ n ih =>
    intro w hw hg
    rcases List.eq_nil_or_concat w with rfl | ⟨u, c, rfl⟩
    · rfl
    · rw [List.concat_eq_append] at *
      have hu : Sg u := fun d hd => hg d (List.mem_append_left _ hd)
      have hc : sgn c = true := hg c (List.mem_append_right _ (List.mem_singleton.mpr rfl))
      have hl : u.length = n := by
        rw [List.length_append, List.length_singleton] at hw
        omega
      have ihu := ih u hl hu
      rw [shortL_snoc, runS_app]
      show runS s (push (shortL u) c) = pushS (runS s u) c
      rw [← ihu]
      rcases List.eq_nil_or_concat (shortL u) with e | ⟨r, d, e⟩
      · rw [e]
        rfl
      · rw [List.concat_eq_append] at e
        have hd : sgn d = true := shortL_sg hu d (by rw [e]; simp)
        have hr : Sg r := fun z hz => shortL_sg hu z (by rw [e]; exact List.mem_append_left _ hz)
        rw [e, push_last]
        by_cases q : d = flipC c
        · rw [if_pos q, runS_app]
          show runS s r = pushS (pushS (runS s r) d) c
          have hinv := pushS_inv (s := runS s r) (c := d) (runS_red h) (runS_sg hs hr) hd
          have e2 : flipC d = c := by rw [q, flip2 hc]
          rw [e2] at hinv
          exact hinv.symm
        · rw [if_neg q, runS_app s (r ++ [d]) [c]]
          rfl
theorem run_self {x : Str} (h : Rdc x) : runS [] (tl x) = (tl x).reverse := by
  have := run_of_red (w := tl x) (s := []) (by rw [List.append_nil]; exact h.2)
  rw [List.append_nil] at this
  exact this
theorem tl_glu {x y : Str} (hx : Rdc x) (hy : Rdc y) : tl (gluT x y) = (runS (tl x).reverse (tl y)).reverse := by
  unfold gluT
  rw [tl_mkS, glS_run hy.2 hx.2]
theorem glu_rdc {x y : Str} (hx : Rdc x) (hy : Rdc y) : Rdc (gluT x y) := by
  refine ⟨gluT_wd hx.1 hy.1, ?_⟩
  rw [tl_glu hx hy, List.reverse_reverse]
  exact runS_red hx.2
theorem rev_sg {x : Str} (h : Wd x) : Sg (tl x).reverse := fun c hc => h c (List.mem_reverse.mp hc)
theorem glu_short {x y : Str} (hx : Rdc x) (hy : Rdc y) : tl (gluT x y) = shortL (tl x ++ tl y) := by
  rw [tl_glu hx hy]
  unfold shortL
  rw [runS_app, run_self hx]
theorem glu_assoc {x y z : Str} (hx : Rdc x) (hy : Rdc y) (hz : Rdc z) : gluT (gluT x y) z = gluT x (gluT y z) := by
  refine ext_tl ?_
  rw [tl_glu (glu_rdc hx hy) hz, tl_glu hx (glu_rdc hy hz), tl_glu hx hy, List.reverse_reverse, glu_short hy hz]
  rw [runS_short hx.2 (rev_sg hx.1) _ _ rfl (fun c hc => (List.mem_append.mp hc).elim (hy.1 c) (hz.1 c)), runS_app]
theorem rdc_nil : Rdc (Str.ofString "") := ⟨wd_nil, by rw [tl_empty]; exact True.intro⟩
theorem glu_nil {x : Str} : gluT x (Str.ofString "") = x := by
  refine ext_tl ?_
  unfold gluT
  rw [tl_mkS, tl_empty]
  cases h : (tl x).reverse with
  | nil =>
    rw [List.reverse_eq_nil_iff] at h
    rw [h]
    rfl
  | cons a l =>
    show (a :: l).reverse = _
    rw [← h, List.reverse_reverse]
theorem nil_glu {x : Str} (hx : Rdc x) : gluT (Str.ofString "") x = x := by
  refine ext_tl ?_
  rw [tl_glu rdc_nil hx, tl_empty]
  show (runS [] (tl x)).reverse = _
  rw [run_self hx, List.reverse_reverse]
theorem red_npc2 : ∀ {l : List Nat}, RedS l.reverse → Sg l → RedS (l.map flipC)
  | [], _, _ => True.intro
  | [_], _, _ => True.intro
  | x :: y :: t, h, hs => by
    rw [List.reverse_cons] at h
    have h1 : RedS (y :: t).reverse := glS_run.RedS.prefix h
    rw [List.reverse_cons, List.append_assoc] at h
    have h2 : RedS [y, x] := RedS.suffix (a := t.reverse) h
    have hx := hs x (List.mem_cons_self ..)
    have ih := red_npc2 (l := y :: t) h1 (fun c hc => hs c (List.mem_cons_of_mem _ hc))
    refine ⟨?_, ih⟩
    intro e
    rw [flip2 hx] at e
    exact h2.1 e.symm
theorem back_rdc {x : Str} (hx : Rdc x) : Rdc (backT x) := by
  refine ⟨backT_wd hx.1, ?_⟩
  show RedS (backL (tl x)).reverse
  unfold backL
  rw [List.reverse_reverse]
  exact red_npc2 hx.2 hx.1
theorem glu_back {x : Str} (hx : Rdc x) : gluT x (backT x) = Str.ofString "" := by
  refine ext_tl ?_
  rw [tl_glu hx (back_rdc hx), tl_empty]
  show (runS (tl x).reverse (backL (tl x))).reverse = []
  rw [← run_self hx, run_back (s := []) True.intro (fun _ z => by cases z) hx.1]
  rfl
theorem back_glu {x : Str} (hx : Rdc x) : gluT (backT x) x = Str.ofString "" := by
  have h := glu_back (back_rdc hx)
  rw [backT_back hx.1] at h
  exact h
theorem glu_cancel {e s : Str} (he : Rdc e) (hs : Rdc s) : gluT (backT e) (gluT e s) = s := by
  rw [← glu_assoc (back_rdc he) he hs, back_glu he, nil_glu hs]
theorem glu_cancel2 {e s : Str} (he : Rdc e) (hs : Rdc s) : gluT e (gluT (backT e) s) = s := by
  rw [← glu_assoc he (back_rdc he) hs, glu_back he, nil_glu hs]
theorem glu_inj {e s t : Str} (he : Rdc e) (hs : Rdc s) (ht : Rdc t) (h : gluT e s = gluT e t) : s = t := by
  rw [← glu_cancel he hs, ← glu_cancel he ht, h]
theorem back_of_glu {x y : Str} (hx : Rdc x) (hy : Rdc y) : backT (gluT x y) = gluT (backT y) (backT x) := by
  have h1 := glu_rdc hx hy
  have h2 := glu_rdc (back_rdc hy) (back_rdc hx)
  have e : gluT (gluT x y) (gluT (backT y) (backT x)) = Str.ofString "" := by
    rw [glu_assoc hx hy h2, glu_cancel2 hy (back_rdc hx), glu_back hx]
  have e2 := glu_cancel (s := gluT (backT y) (backT x)) h1 h2
  rw [e, glu_nil] at e2
  exact e2
theorem short_rdc {w : List Nat} (h : Sg w) : Rdc (mkS (shortL w)) := by
  refine ⟨shortL_sg h, ?_⟩
  rw [tl_mkS]
  unfold shortL
  rw [List.reverse_reverse]
  exact runS_red (s := []) True.intro
/-! ### lists without doubles -/
theorem nodup_le : ∀ {ks ms : List Str}, ks.Nodup → (∀ s ∈ ks, s ∈ ms) → ks.length ≤ ms.length
  | [], _, _, _ => Nat.zero_le _
  | k :: ks, ms, hn, h => by
    obtain ⟨a, b, rfl⟩ := List.append_of_mem (h k (List.mem_cons_self ..))
    have hk := (List.nodup_cons.mp hn)
    have ih := nodup_le (ks := ks) (ms := a ++ b) hk.2 (fun s hs => by
      have h1 := h s (List.mem_cons_of_mem _ hs)
      rcases List.mem_append.mp h1 with h1 | h1
      · exact List.mem_append_left _ h1
      · rcases List.mem_cons.mp h1 with rfl | h1
        · exact absurd hs hk.1
        · exact List.mem_append_right _ h1)
    rw [List.length_append] at ih
    rw [List.length_append, List.length_cons, List.length_cons]
    omega
theorem nodup_len {ks ms : List Str} (h1 : ks.Nodup) (h2 : ms.Nodup) (h : ∀ s, s ∈ ks ↔ s ∈ ms) : ks.length = ms.length :=
  Nat.le_antisymm (nodup_le h1 fun s hs => (h s).mp hs) (nodup_le h2 fun s hs => (h s).mpr hs)
theorem nodup_map_glu {e : Str} (he : Rdc e) : ∀ {ks : List Str}, (∀ s ∈ ks, Rdc s) → ks.Nodup → (ks.map (gluT e)).Nodup
  | [], _, _ => List.nodup_nil
  | k :: ks, hr, hn => by
    have hk := List.nodup_cons.mp hn
    rw [List.map_cons, List.nodup_cons]
    refine ⟨fun hm => ?_, nodup_map_glu he (fun s hs => hr s (List.mem_cons_of_mem _ hs)) hk.2⟩
    obtain ⟨t, ht, e2⟩ := List.mem_map.mp hm
    have := glu_inj he (hr t (List.mem_cons_of_mem _ ht)) (hr k (List.mem_cons_self ..)) e2
    rw [this] at ht
    exact hk.1 ht
/-! ### dicts of spots -/
def dOf (ks : List Str) : List (Key × V) := ks.map fun s => (Sum.inr s, V.bl true)
theorem dOf_len (ks : List Str) : (dOf ks).length = ks.length := List.length_map ..
def addS (l : List Str) (s : Str) : List Str := if s ∈ l then l else l ++ [s]
theorem any_dOf (l : List Str) (s : Str) : ((dOf l).any fun kv => decide (kv.1 = (Sum.inr s : Key))) = decide (s ∈ l) := by
  unfold dOf
  rw [List.any_map, Bool.eq_iff_iff, List.any_eq_true, decide_eq_true_eq]
  constructor
  · rintro ⟨t, ht, e⟩
    have e1 : (Sum.inr t : Key) = Sum.inr s := of_decide_eq_true e
    cases e1
    exact ht
  · intro h
    exact ⟨s, h, decide_eq_true rfl⟩
theorem put_dOf (l : List Str) (s : Str) : putK (dOf l) (Sum.inr s) (.bl true) = dOf (addS l s) := by
  unfold putK addS
  rw [any_dOf]
  by_cases h : s ∈ l
  · rw [if_pos (decide_eq_true h), if_pos h]
    unfold dOf
    rw [List.map_map]
    refine List.map_congr_left fun t _ => ?_
    show (if (Sum.inr t : Key) = Sum.inr s then ((Sum.inr t : Key), V.bl true) else (Sum.inr t, V.bl true)) = _
    split <;> rfl
  · rw [if_neg (by rw [decide_eq_false h]; exact Bool.false_ne_true), if_neg h]
    unfold dOf
    rw [List.map_append]
    rfl
theorem addS_mem {l : List Str} {s t : Str} : t ∈ addS l s ↔ t ∈ l ∨ t = s := by
  unfold addS
  by_cases h : s ∈ l
  · rw [if_pos h]
    constructor
    · exact .inl
    · rintro (h1 | rfl)
      · exact h1
      · exact h
  · rw [if_neg h, List.mem_append, List.mem_singleton]
theorem addS_nodup {l : List Str} {s : Str} (h : l.Nodup) : (addS l s).Nodup := by
  unfold addS
  by_cases hs : s ∈ l
  · rw [if_pos hs]
    exact h
  · rw [if_neg hs, List.nodup_append]
    refine ⟨h, by simp, ?_⟩
    intro a ha b hb
    rw [List.mem_singleton] at hb
    subst hb
    exact fun e => hs (e ▸ ha)
theorem addS_len (l : List Str) (s : Str) : (addS l s).length ≤ l.length + 1 := by
  unfold addS
  by_cases hs : s ∈ l
  · rw [if_pos hs]
    omega
  · rw [if_neg hs, List.length_append, List.length_singleton]
    exact Nat.le_refl _
def uni (l m : List Str) : List Str := m.foldl addS l
theorem merge_dOf : ∀ (l m : List Str), mergeV (dOf l) (dOf m) = dOf (uni l m)
  | _, [] => rfl
  | l, s :: m => by
    show mergeV (putK (dOf l) (Sum.inr s) (.bl true)) (dOf m) = _
    rw [put_dOf, merge_dOf]
    rfl
theorem uni_mem : ∀ {m l : List Str} {t : Str}, t ∈ uni l m ↔ t ∈ l ∨ t ∈ m
  | [], l, t => by simp [uni]
  | s :: m, l, t => by
    show t ∈ uni (addS l s) m ↔ _
    rw [uni_mem, addS_mem, List.mem_cons, or_assoc]
theorem uni_nodup : ∀ {m l : List Str}, l.Nodup → (uni l m).Nodup
  | [], _, h => h
  | _ :: m, _, h => uni_nodup (m := m) (addS_nodup h)
theorem uni_len : ∀ (m l : List Str), (uni l m).length ≤ l.length + m.length
  | [], l => by simp [uni]
  | s :: m, l => by
    have h1 := uni_len m (addS l s)
    have h2 := addS_len l s
    show (uni (addS l s) m).length ≤ _
    rw [List.length_cons]
    omega
theorem dOf_nil : dOf [] = [] := rfl
theorem val_dOf {l : List Str} {s : Str} (h : s ∈ l) : valV (dOf l) (Sum.inr s) = some (.bl true) := by
  induction l with
  | nil => cases h
  | cons t l ih =>
    by_cases e : t = s
    · rw [e]
      exact valV_pos rfl
    · have e2 : ¬ ((Sum.inr t : Key) = Sum.inr s) := fun z => e (Sum.inr.inj z)
      show valV ((Sum.inr t, V.bl true) :: dOf l) _ = _
      rw [valV_neg e2]
      exact ih ((List.mem_cons.mp h).resolve_left fun z => e z.symm)
theorem val_dOf_none {l : List Str} {s : Str} (h : s ∉ l) : valV (dOf l) (Sum.inr s) = none := by
  induction l with
  | nil => rfl
  | cons t l ih =>
    have e2 : ¬ ((Sum.inr t : Key) = Sum.inr s) := fun z => h (by rw [Sum.inr.inj z]; exact List.mem_cons_self ..)
    show valV ((Sum.inr t, V.bl true) :: dOf l) _ = _
    rw [valV_neg e2]
    exact ih fun z => h (List.mem_cons_of_mem _ z)
end Sf
namespace Sf
open PySem PySem.Spec PyProof.Rows L2 TL
def spotP (x : Str) : Str → Prop := fun s => ∃ i, i ≤ (tl x).length ∧ s = mkS (shortL ((tl x).take i))
end Sf
namespace Sf
open PySem PySem.Spec PyProof.Rows L2 TL
/-! ### the class Track -/
def tf (d : Addr) (e : Str) : List (Str × V) := putF "last" (.str e) (putF "passed" (.ref d) [])
theorem pl_ne : ¬ (("passed" : Str) = "last") := by decide +kernel
theorem lp_ne : ¬ (("last" : Str) = "passed") := by decide +kernel
theorem tf_eq (d : Addr) (e : Str) : tf d e = ([("passed", V.ref d), ("last", V.str e)] : List (Str × V)) := by
  show (if ("passed" : Str) = "last" then [(("passed" : Str), V.str e)] else (("passed" : Str), V.ref d) :: putF "last" (V.str e) []) = ([("passed", V.ref d), ("last", V.str e)] : List (Str × V))
  rw [if_neg pl_ne]
  all_goals rfl
theorem tf_passed (d : Addr) (e : Str) : (tf d e).lookup ("passed" : Str) = some (.ref d) := by
  unfold tf
  rw [lookup_putF, if_neg pl_ne, lookup_putF, if_pos rfl]
theorem tf_last (d : Addr) (e : Str) : (tf d e).lookup ("last" : Str) = some (.str e) := by
  unfold tf
  rw [lookup_putF, if_pos rfl]
theorem tf_no (d : Addr) (e : Str) {m : Str} (h1 : ¬ m = "last") (h2 : ¬ m = "passed") : (tf d e).lookup m = none := by
  unfold tf
  rw [lookup_putF, if_neg h1, lookup_putF, if_neg h2]
  all_goals rfl
theorem tf_len (d : Addr) (e : Str) : (tf d e).length = 2 := by rw [tf_eq]; rfl
theorem tf_putP (d d' : Addr) (e : Str) : putF "passed" (.ref d') (tf d e) = tf d' e := by
  rw [tf_eq, tf_eq]
  show (if ("passed" : Str) = "passed" then [(("passed" : Str), V.ref d'), ("last", V.str e)] else _) = _
  rw [if_pos rfl]
theorem tf_putL (d : Addr) (e e' : Str) : putF "last" (.str e') (tf d e) = tf d e' := by
  rw [tf_eq, tf_eq]
  show (if ("passed" : Str) = "last" then _ else (("passed" : Str), V.ref d) :: (if ("last" : Str) = "last" then [(("last" : Str), V.str e')] else _)) = _
  rw [if_neg pl_ne, if_pos rfl]
/-- the spots of a track with end e: at most B of them, of at most B signs -/
structure Spots (ks : List Str) (S : Str → Prop) (e : Str) (B : Nat) : Prop where
  nd : ks.Nodup
  mem : ∀ s, s ∈ ks ↔ S s
  rd : ∀ s, S s → Rdc s
  ln : ∀ s, S s → s.length ≤ B
  re : Rdc e
  le : e.length ≤ B
  many : ks.length ≤ B
def Trk (C : Addr) (H : Hp) (p : Addr) (S : Str → Prop) (e : Str) (B : Nat) : Prop := ∃ (dx d : Addr) (ks : List Str), H p = some (.ins C dx (tf d e)) ∧ H d = some (.dK (dOf ks)) ∧ Spots ks S e B
theorem Trk.same {C : Addr} {H H' : Hp} {p : Addr} {S : Str → Prop} {e : Str} {B : Nat} (s : Same H H') : Trk C H p S e B → Trk C H' p S e B
  | ⟨dx, d, ks, h1, h2, h3⟩ => ⟨dx, d, ks, s _ _ h1, s _ _ h2, h3⟩
theorem Trk.fx {C b l : Addr} {H H' : Hp} {p : Addr} {S : Str → Prop} {e : Str} {B : Nat} (hB : Bag H b l) (f : Fx b H H') : Trk C H p S e B → Trk C H' p S e B
  | ⟨dx, d, ks, h1, h2, h3⟩ => by
    obtain ⟨ns, k, z, r, hb⟩ := hB
    exact ⟨dx, d, ks, f _ _ h1 (ne_of h1 hb.hb (by intro q; cases q)), f _ _ h2 (ne_of h2 hb.hb (by intro q; cases q)), h3⟩
theorem Trk.cong {C : Addr} {H : Hp} {p : Addr} {S S' : Str → Prop} {e e' : Str} {B : Nat} (hS : ∀ s, S s ↔ S' s) (he : e = e') : Trk C H p S e B → Trk C H p S' e' B
  | ⟨dx, d, ks, h1, h2, h3⟩ => ⟨dx, d, ks, by rw [← he]; exact h1, h2, h3.nd, fun s => (h3.mem s).trans (hS s), fun s h => h3.rd s ((hS s).mpr h), fun s h => h3.ln s ((hS s).mpr h), by rw [← he]; exact h3.re, by rw [← he]; exact h3.le, h3.many⟩
structure TC (K : PySem.W.Frag) (mg : Str → Option Value) (C : Addr) : Prop where
  cl : Cls K C
  nP : PySem.W.findIn K (.ref C) "passed" = some none
  nL : PySem.W.findIn K (.ref C) "last" = some none
  mgC : mg "Track" = some (.ref C)
  ha : PySem.W.findIn K (.ref C) "__class__" = some (some (.builtin "object.__class__"))
  hn : PySem.W.specialIn K (.builtin "object.__class__") "__get__" = some (some (.builtin "getset_descriptor.__get__"))
  htk : PySem.W.takesIn K (.builtin "object.__class__") = some true
  hm : PySem.W.mroIn K C (.type "object") = some true
  ne : PySem.W.findIn K (.ref C) "__ne__" = some (some (.builtin "object.__ne__"))
section
variable {P : Program} {w : World} {K : PySem.W.Frag} {mg : Str → Option Value} {base : Heap} {C : Addr}
/-! ### __init__ -/
def spInit (C : Addr) : Sp := fun vs H Q _ => ∃ (p dx : Addr) (x : Str), vs = [.ref p, .str x] ∧ H p = some (.ins C dx []) ∧ Wd x ∧ x.length ≤ 60 ∧
  ∀ H', Trk C H' p (spotP x) (shortT x) 61 → (∀ b o, H b = some o → b ≠ p → H' b = some o) → Q .non H'
theorem sc_init : FnScope ["self", "word", "here", "passed", "sign"] ["self", "word"] (defScope s_Track___init__) := ⟨rfl, rfl, rfl, by decide +kernel, rfl, by decide +kernel, by decide +kernel⟩
theorem has_init (F : MAt K C "__init__" "Track.__init__" s_Track___init__ ["self", "word"]) (T : TC K mg C) (hN : HasNeed P w K mg base) (hG : HasGlued P w K mg base) : HasM P w K mg base C 3 "__init__" ["self", "word"] (spInit C) := F.has fun F => by
  obtain ⟨fN, fdN, gN, kN, bN, GN⟩ := hN
  obtain ⟨fG, fdG, gG, kG, bG, GG⟩ := hG
  refine F.ok sc_init (fun vs H Q E h => ?_) (fun cdv A outer s H vs Q E hr h => ?_)
  · obtain ⟨p, dx, x, rfl, _⟩ := h
    rfl
  · obtain ⟨p, dx, x, rfl, hp, hx, hl, q⟩ := h
    have hz : x.cps.size = (tl x).length := len_tl x
    have hzl : x.length = (tl x).length := len_tl x
    refine ⟨_, pss_cons (ps_expr (pe_call GN hr (by rfl) gN kN bN .nil pass0 (pa_cons (pv 1) pa_nil)))
      (pss_cons (ps_set (i := 2) sc_init.nd rfl (.inl rfl) pe_str)
      (pss_cons (ps_set (i := 3) sc_init.nd rfl (.inl rfl) (pe_disp (pps_cons (pv 2) pe_bl pps_nil) (by rfl) (by rfl) (fun z => by cases z) (by decide)))
      (pss_cons (ps_for PassesOwn.never rfl (pi_str (pv 1)) (pg_name (i := 4) sc_init.nd rfl (.inl rfl))
        (pss_cons (ps_set (i := 2) sc_init.nd rfl (.inl rfl) (pe_call GG (hr.mono (by decide)) (by rfl) gG kG bG .nil pass0 (pa_cons (pv 2) (pa_cons (pv 4) pa_nil))))
        (pss_one (ps_dput (hu_of hr) (pv 3) (pv 2) pe_bl rfl))))
      (pss_cons (ps_fld (pv 0) (pv 3) rfl) (pss_one (ps_fld (pv 0) (pv 2) rfl)))))), ?_⟩
    refine ⟨_, rfl, x, rfl, hx, hl, fun H1 s1 => ?_⟩
    refine fun d nd => ⟨_, rfl, upd_same, [(Sum.inr (Str.ofString ""), .bl true)], rfl, by decide, ?_⟩
    rw [upd_upd]
    have e0 : mergeK [] [((Sum.inr (Str.ofString "") : Key), V.bl true)] = dOf [Str.ofString ""] := rfl
    rw [e0]
    have hp1 : H1 p = some (.ins C dx []) := s1 _ _ hp
    have npd : p ≠ d := ne_of_none hp1 nd
    refine ⟨_, rfl, x, rfl, for_gen (n := x.cps.size) (fun i σ H2 => ∃ (y : Option V) (ks : List Str), σ = [some (.ref p), some (.str x), some (.str (mkS (shortL ((tl x).take i)))), some (.ref d), y] ∧ Fx d H1 H2 ∧ H2 d = some (.dK (dOf ks)) ∧ ks.Nodup ∧ (∀ s, s ∈ ks ↔ ∃ j, j ≤ i ∧ s = mkS (shortL ((tl x).take j))) ∧ ks.length ≤ i + 1)
      ⟨none, [Str.ofString ""], rfl, Fx.of (same_upd nd), upd_same, by simp, fun s => ?_, by decide⟩ (fun i σ H2 hi _ => hi) (fun σ H2 _ => Nat.le_refl _) ?_ ?_⟩
    · rw [List.mem_singleton]
      constructor
      · rintro rfl
        exact ⟨0, Nat.le_refl _, by rw [List.take_zero]; decide +kernel⟩
      · rintro ⟨j, hj, e⟩
        have : j = 0 := by omega
        rw [e, this, List.take_zero]
        decide +kernel
    · rintro i v σ H2 H3 hi ⟨y, ks, rfl, f2, hd, hn, hm, hk⟩ ⟨rfl, c, hc, rfl⟩
      have hc' := getElem?_of_cps hc
      have hs := hx c (List.mem_of_getElem? hc')
      have hlen := shortL_len ((tl x).take i)
      rw [List.length_take] at hlen
      refine ⟨_, rfl, _, rfl, _, _, rfl, ?_, wd_one hs, ?_, ?_⟩
      · exact shortL_sg fun d hd => hx d (List.mem_of_mem_take hd)
      · rw [mkS_len, len_one]
        omega
      · rw [glu_take hc']
        refine ⟨_, rfl, _, rfl, d, _, rfl, DPut.k (k := Sum.inr (mkS (shortL ((tl x).take (i + 1))))) hd ?_, ?_⟩
        · rw [dOf_len]
          exact lineLt_of (by omega)
        · rw [put_dOf]
          refine ⟨_, _, rfl, f2.upd, upd_same, addS_nodup hn, fun s => ?_, by have := addS_len ks (mkS (shortL ((tl x).take (i + 1)))); omega⟩
          rw [addS_mem, hm]
          constructor
          · rintro (⟨j, hj, e⟩ | e)
            · exact ⟨j, by omega, e⟩
            · exact ⟨i + 1, Nat.le_refl _, e⟩
          · rintro ⟨j, hj, e⟩
            by_cases hji : j ≤ i
            · exact .inl ⟨j, hji, e⟩
            · have : j = i + 1 := by omega
              subst this
              exact .inr e
    · rintro σ H2 ⟨y, ks, rfl, f2, hd, hn, hm, hk⟩
      have hp2 : H2 p = some (.ins C dx []) := f2 _ _ hp1 npd
      have ndp : d ≠ p := npd.symm
      refine ⟨_, rfl, _, rfl, p, C, dx, [], rfl, hp2, T.cl, T.nP, (by show 0 < 1000; decide), ?_⟩
      refine ⟨_, rfl, _, rfl, p, C, dx, _, rfl, upd_same, T.cl, T.nL, (by show 1 < 1000; decide), ?_⟩
      have e1 : mkS (shortL ((tl x).take x.cps.size)) = shortT x := by
        rw [List.take_of_length_le (by rw [hz]; exact Nat.le_refl _)]
        rfl
      rw [e1]
      refine q _ ⟨dx, d, ks, upd_same, by rw [upd_ne ndp, upd_ne ndp]; exact hd, hn, fun s => ?_, fun s => ?_, fun s => ?_, ?_, ?_, ?_⟩ fun b o e hb => ?_
      · rw [hm, hz]
        rfl
      · rintro ⟨j, hj, rfl⟩
        exact short_rdc fun c hc => hx c (List.mem_of_mem_take hc)
      · rintro ⟨j, hj, rfl⟩
        rw [mkS_len]
        have := shortL_len ((tl x).take j)
        rw [List.length_take] at this
        omega
      · exact short_rdc hx
      · show (mkS (shortL (tl x))).length ≤ 61
        rw [mkS_len]
        have := shortL_len (tl x)
        omega
      · omega
      · rw [upd_ne hb, upd_ne hb]
        exact f2 _ _ (s1 _ _ e) (ne_of_none (s1 _ _ e) nd)
end
end Sf
namespace Sf
open PySem PySem.Spec PyProof.Rows L2 TL
/-! ### sorted of data, and of a dict's keys by key=, a def that keeps its promise -/
section
variable {X : Cx} {pins : List (Addr × Obj)} {σ : L2.St} {H : Hp} {s : Shared}
theorem each_vals {β : Type} {vof : β → V} : ∀ {us : List Value} {bs : List β}, PySem.W.EachIs (fun u b => RelV (vof b) u) us bs → Vals (bs.map vof) us
  | _, _, .nil => .nil
  | _, _, .cons h t => .cons h (each_vals t)
theorem vals_each {β : Type} {vof : β → V} : ∀ {us : List Value} {bs : List β}, Vals (bs.map vof) us → PySem.W.EachIs (fun u b => RelV (vof b) u) us bs
  | [], [], _ => .nil
  | u :: us, b :: bs, h => by
    rw [List.map_cons] at h
    cases h with
    | cons h1 h2 => exact .cons h1 (vals_each h2)
  | [], b :: bs, h => by
    rw [List.map_cons] at h
    cases h
  | u :: us, [], h => by
    rw [List.map_nil] at h
    cases h
/-- sorted(l) of data -/
theorem call_sortedData {β : Type} (vof : β → V) (enc : β → PyData) (hu : X.A.units + 64 < cLine) : CallR X (.builtin "sorted") (fun xs H Q => ∃ (a : Addr) (bs : List β), xs = [.ref a] ∧ SqL X.K H a (bs.map vof) ∧ (∀ b ∈ bs, Dp X.K H (vof b) (enc b)) ∧
    PySem.W.AllAlike (bs.map enc) ∧ PySem.W.Sortable (bs.map enc) ∧ (∀ b ∈ bs, (enc b).depth ≤ 60) ∧ ∀ p, H p = none → Q (.ref p) (upd H p (.lst ((bs.mergeSort (PySem.W.dataLe false enc)).map vof)))) := by
  intro pins s σ H xs us Q I r h
  obtain ⟨a, bs, rfl, hs, hdp, hal, hso, hdep, q⟩ := h
  rw [Vals.ref1 r]
  obtain ⟨its, rv, hl, hz⟩ := I.list hs
  have hz' := hz
  rw [List.length_map] at hz'
  have e := vals_each rv
  have er : PySem.W.EachIs (fun v b => ∃ as, Reads s.heap v (enc b) as) its bs := (PySem.W.each_mem e).mono fun v b hb => Dp.reads I (enc b) (vof b) v (hdp b hb.2) hb.1
  refine PySem.W.sorted_data hl.isList e er hal hso hz' (fun b hb => by have := hdep b hb; omega) fun out ho eo => ?_
  obtain ⟨ep, he'⟩ := PyProof.Rows.sortedAll_at s.heap its out.toArray
  have rv' := each_vals eo
  have hlen : ((bs.mergeSort (PySem.W.dataLe false enc)).map vof).length ≤ sizeLine := by
    rw [List.length_map, List.length_mergeSort]
    exact hz'
  exact ⟨.ref _, upd H (s.heap.objs.size + 1) (.lst ((bs.mergeSort (PySem.W.dataLe false enc)).map vof)), I.laid (t' := s.toks) (fun _ _ => PyProof.Rows.sortedAll_old) (Nat.le_succ _) ⟨hlen, out, ep, rv', he'⟩, rfl, q _ (I.hok.fresh (Nat.le_succ _))⟩
/-! what was new when the call began -/
structure Newly (X : Cx) (pins : List (Addr × Obj)) (b : Addr) : Prop where
  s0 : X.s_0.heap.objs.size ≤ b
  loc : b ≠ X.env.locals
  cl : ∀ x c, X.env.cells.lookup x = some c → c ≠ b
  fs : b ∉ X.fs
  pn : ∀ p ∈ X.pn ++ pins, p.1 ≠ b
theorem newly_of {b : Addr} (I : Inv X pins σ H s) (h : s.heap.objs.size ≤ b) : Newly X pins b :=
  ⟨Nat.le_trans I.sz h, fun e => absurd (Nat.lt_of_lt_of_le I.lt h) (by rw [e]; exact Nat.lt_irrefl _), fun x c e z => by
    obtain ⟨v, o, ho, _⟩ := I.cell x c e
    rw [z] at ho
    exact absurd (Nat.lt_of_lt_of_le (Heap.lt_size ho) h) (Nat.lt_irrefl _), I.nofs h, fun p hp z => by
    have ho := (I.pin p hp).1
    rw [z] at ho
    exact absurd (Nat.lt_of_lt_of_le (Heap.lt_size ho) h) (Nat.lt_irrefl _)⟩
theorem pin_more {b : Addr} {o : Obj} (I : Inv X pins σ H s) (N : Newly X pins b) (hb : s.heap.get? b = some o) (hn : H b = none) (hc : ∀ v, o.data ≠ .cell v) : Inv X ((b, o) :: pins) σ H s := I.pins_of fun p hp => by
  rcases List.mem_cons.mp hp with rfl | hp
  · exact ⟨hb, hn, N.loc, N.fs, hc⟩
  · exact I.pin p (List.mem_append_right _ hp)
theorem pin_less {p : Addr × Obj} (I : Inv X (p :: pins) σ H s) : Inv X pins σ H s := I.pins_of fun q hq => I.pin q (List.mem_append_right _ (List.mem_cons_of_mem _ hq))
theorem turn_one {b : Addr} {h' : Heap} {t' : Nat} (I : Inv X pins σ H s) (N : Newly X pins b) (hn : H b = none) (k : ∀ c o, c ≠ b → s.heap.get? c = some o → h'.get? c = some o) : Inv X pins σ H { s with heap := h', toks := t' } :=
  I.turned k hn N.loc (.inr N.s0) N.cl N.pn
/-- two records of ours have changed, the one at a is tracked from now on -/
theorem take_in {a b : Addr} {o : HO} {h' : Heap} {t' : Nat} (I : Inv X pins σ H s) (Na : Newly X pins a) (Nb : Newly X pins b) (na : H a = none) (nb : H b = none) (k : ∀ c o, c ≠ a → c ≠ b → s.heap.get? c = some o → h'.get? c = some o)
    (new : ObjOk X.prog X.w (upd H a o) h' a o) : Inv X pins σ (upd H a o) { s with heap := h', toks := t' } := by
  have nea : ∀ c u, H c = some u → c ≠ a := fun c u e => ne_of_none e na
  have neb : ∀ c u, H c = some u → c ≠ b := fun c u e => ne_of_none e nb
  have out : ∀ c, c ∉ [a, b] → c ≠ a ∧ c ≠ b := fun c hc => ⟨fun z => hc (by simp [z]), fun z => hc (by simp [z])⟩
  refine I.step (g' := s.gens) (d' := s.drawn) (ch := [a, b]) (fun c hc => ?_) (fun c o _ _ hc e _ => k c o (out c hc).1 (out c hc).2 e) (fun c o _ _ hc e _ => ⟨o.slots, k c o (out c hc).1 (out c hc).2 e⟩) (fun c _ hc _ n => by rw [upd_ne (out c hc).1]; exact n)
    (fun c o hc e => ⟨o, k c o (out c hc).1 (out c hc).2 e⟩) (fun c _ e => by rw [upd_ne (nea c _ e)]; exact e) (fun c _ _ e => by rw [upd_ne (nea c _ e)]; exact e) (fun c ps e => ⟨#[], by rw [upd_ne (nea c _ e), e]; simp⟩) (fun m hm => ?_) (fun c u e => ?_) I.bare
  · rcases List.mem_cons.mp hc with rfl | hc
    · exact ⟨.inr Na.s0, Na.loc, Na.cl, Na.pn⟩
    · obtain rfl := List.mem_singleton.mp hc
      exact ⟨.inr Nb.s0, Nb.loc, Nb.cl, Nb.pn⟩
  · obtain ⟨o, es, ep, ho, r⟩ := hm
    exact ⟨o, es, ep, k _ o (Ne.symm Na.loc) (Ne.symm Nb.loc) ho, r⟩
  · by_cases hca : c = a
    · subst hca
      rw [upd_same] at e
      cases e
      exact new
    · rw [upd_ne hca] at e
      refine (I.hok c u e).stay (fun d v hd q => ?_) (fun d q => by rw [upd_ne (nea d _ q)]; exact q) fun d xs q => by rw [upd_ne (nea d _ q)]; exact q
      rcases hd with z | z
      · rw [z] at q ⊢
        exact k c v hca (neb c u e) q
      · exact k d v (nea d _ z) (neb d _ z) q
end
section
variable {X : Cx} {pins : List (Addr × Obj)} {σ : L2.St} {H : Hp} {s : Shared} {k : Nat} {f : Addr} {fd : FuncData} {ps : List Str} {sp : Sp}
theorem seq_cell {T : String} {xs : Array Value} {n : Nat} : ∀ v, (seqObj T xs n).data ≠ .cell v := fun v z => by cases z
/-- a key that stays -/
def KeyAt (K : PySem.W.Frag) (H : Hp) (v : V) (d : PyData) : Prop := ∀ H', Same H H' → Dp K H' v d
theorem keys_go {a kS : Addr} {e1 : Nat} {vs : List Value} {xs : List Str} {A : Around} {E : Value → Shared → Prop} {R : PySem.Fin → Shared → Prop} (κ : Str → PyData) (F : FnOk X.prog X.w X.K X.mg X.base CX0 k f fd ps sp) (hb : Binds X.K fd ps []) (hr : Room k A)
    (hA : ∀ {pins : List (Addr × Obj)} {H : Hp} {s : Shared}, Inv X pins σ H s → Env0 X.prog X.w X.K X.mg X.base A X.stack s H) (I : Inv X pins σ H s) (Na : Newly X pins a) (Nk : Newly X pins kS) (hak : a ≠ kS)
    (ok : s.heap.get? kS = some (seqObj "list" #[] 0)) (oa : s.heap.get? a = some (seqObj "list" #[] e1)) (na : H a = none) (nk : H kS = none)
    (hv : PySem.W.EachIs (fun u x => RelV (V.str x) u) vs xs) (hZ : vs.length ≤ sizeLine) (hal : PySem.W.AllAlike (xs.map κ)) (hso : PySem.W.Sortable (xs.map κ)) (hu : ∀ x ∈ xs, A.units + (κ x).depth < cLine)
    (hsp : ∀ x ∈ xs, ∀ (H1 : Hp) (Q : VK), (∀ v H2, Same H1 H2 → KeyAt X.K H2 v (κ x) → Q v H2) → sp [.str x] H1 Q E0)
    (h : ∀ (s' : Shared) (H' : Hp), Same H H' → H' a = some (.lst ((xs.mergeSort (PySem.W.dataLe false κ)).map V.str)) → Inv X pins σ H' s' → R (.done (.ret .none)) s') :
    wpAny (model X.prog X.w) A (ksk_rest a (.ref f) false vs.toArray e1 (.ref kS)) R E s := by
  have hlen : xs.length = vs.length := hv.length.symm
  unfold ksk_rest
  refine wpAny_bind (wpAny_rule ?_)
  first
    | rw [List.forIn_toArray]
    | (rw [← Array.forIn_toList]; simp only [List.toList_toArray])
  refine wpAny_bind (ksk_fold (fun i s1 => ∃ (H1 : Hp) (ks : List V) (kA : Array Value) (e : Nat), Inv X ((kS, seqObj "list" kA e) :: (a, seqObj "list" #[] e1) :: pins) σ H1 s1 ∧ Same H H1 ∧ Vals ks kA.toList ∧ ks.length = i ∧ ∀ (j : Nat) (v : V) (x : Str), ks[j]? = some v → xs[j]? = some x → KeyAt X.K H1 v (κ x)) vs 0 s
    ⟨H, [], #[], 0, ?start, Same.refl _, .nil, rfl, fun j v x z => by simp at z⟩ ?turn ?fin)
  case start =>
    have I1 := pin_more I Na oa na seq_cell
    exact pin_more I1 ⟨Nk.s0, Nk.loc, Nk.cl, Nk.fs, fun p hp => by
      rcases List.mem_append.mp hp with z | z
      · exact Nk.pn p (List.mem_append_left _ z)
      · rcases List.mem_cons.mp z with rfl | z
        · exact hak
        · exact Nk.pn p (List.mem_append_right _ z)⟩ ok nk seq_cell
  case turn =>
    rintro j u s1 hj ⟨H1, ks, kA, e, I1, s01, rk, hk, kx⟩
    simp only [Nat.zero_add] at hk ⊢
    have hjl : j < vs.length := (List.getElem?_eq_some_iff.mp hj).1
    obtain ⟨x, hx⟩ : ∃ x, xs[j]? = some x := ⟨_, List.getElem?_eq_getElem (by omega)⟩
    have hz : (u, x) ∈ vs.zip xs := List.mem_of_getElem? (i := j) (by rw [List.getElem?_zip_eq_some]; exact ⟨hj, hx⟩)
    have ru : RelV (V.str x) u := hv.zip _ hz
    have hxm : x ∈ xs := List.mem_of_getElem? hx
    refine wpAny_bind (wpAny_attempt (wpAny_mono (run_fnA (Er := fun _ _ => False) (vs := [V.str x]) F hr (hA I1) hb I1 (.cons ru .nil) (hsp x hxm H1 (fun v H2 => Same H1 H2 ∧ KeyAt X.K H2 v (κ x)) fun v H2 g1 g2 => ⟨g1, g2⟩)) (fun v2 s2 he => ?_) fun _ _ hF => hF.elim))
    obtain ⟨v, H2, I2, rv, s12, kv⟩ := he
    try dsimp only
    obtain ⟨ok2, nk2, _⟩ := I2.pin _ (List.mem_append_right _ (List.mem_cons_self ..))
    have hka : kA.size = j := by
      rw [← Array.length_toList, ← rk.length]
      exact hk
    obtain ⟨c2, hc2⟩ : ∃ c2, (s2.heap.update kS (Obj.mapSeq (·.push v2))).get? kS = some (seqObj "list" (kA.push v2) c2) := ⟨_, get?_update_seq ok2 (·.push v2)⟩
    have sb := Heap.SameBut.update s2.heap kS (Obj.mapSeq (·.push v2))
    refine wpAny_bind (listUpdate_at ok2 rfl ?_ (by rw [hka]; omega) (by rw [Array.size_push, hka]; omega))
    have I3 := pin_less I2
    have Nk3 : Newly X ((a, seqObj "list" #[] e1) :: pins) kS := ⟨Nk.s0, Nk.loc, Nk.cl, Nk.fs, fun p hp => by
      rcases List.mem_append.mp hp with z | z
      · exact Nk.pn p (List.mem_append_left _ z)
      · rcases List.mem_cons.mp z with rfl | z
        · exact hak
        · exact Nk.pn p (List.mem_append_right _ z)⟩
    have I4 : Inv X ((a, seqObj "list" #[] e1) :: pins) σ H2 { s2 with heap := s2.heap.update kS (Obj.mapSeq (·.push v2)), toks := s2.toks } := turn_one I3 Nk3 nk2 fun c o hc e => (sb.2 c hc).trans e
    refine wpAny_pure ⟨rfl, H2, ks ++ [v], kA.push v2, c2, pin_more I4 Nk3 hc2 nk2 seq_cell, s01.trans s12, ?_, by rw [List.length_append, hk]; rfl, fun i w y hw hy => ?_⟩
    · rw [Array.toList_push]
      exact rk.append (.cons rv .nil)
    · by_cases hij : i < j
      · rw [List.getElem?_append_left (by omega)] at hw
        exact fun H3 s3 => kx i w y hw hy H3 (s12.trans s3)
      · rw [List.getElem?_append_right (by omega)] at hw
        have h0 : i - ks.length = 0 := by
          have := (List.getElem?_eq_some_iff.mp hw).1
          rw [List.length_singleton] at this
          omega
        have hi : i = j := by omega
        rw [h0] at hw
        subst hi
        rw [hx] at hy
        cases hy
        have e9 : v = w := Option.some.inj hw
        rw [← e9]
        exact kv
  case fin =>
    rintro s1 ⟨H1, ks, kA, e, I1, s01, rk, hk, kx⟩
    rw [Nat.zero_add] at hk
    obtain ⟨ok1, nk1, _⟩ := I1.pin _ (List.mem_append_right _ (List.mem_cons_self ..))
    obtain ⟨oa1, na1, _⟩ := I1.pin _ (List.mem_append_right _ (List.mem_cons_of_mem _ (List.mem_cons_self ..)))
    have hsz : kA.size = vs.length := by
      rw [← Array.length_toList, ← rk.length]
      exact hk
    have hks : PySem.W.EachIs (fun u d => ∃ as, Reads s1.heap u d as) kA.toList (xs.map κ) := by
      have all : ∀ (ks : List V) (us : List Value) (zs : List Str), Vals ks us → ks.length = zs.length → (∀ (j : Nat) (v : V) (x : Str), ks[j]? = some v → zs[j]? = some x → KeyAt X.K H1 v (κ x)) → PySem.W.EachIs (fun u d => ∃ as, Reads s1.heap u d as) us (zs.map κ) := by
        intro ks us zs r
        induction r generalizing zs with
        | nil =>
          intro hl _
          cases zs with
          | nil => exact .nil
          | cons z zs => cases hl
        | cons r1 r2 ih =>
          intro hl hk
          cases zs with
          | nil => cases hl
          | cons z zs =>
            rw [List.map_cons]
            exact .cons (Dp.reads I1 _ _ _ (hk 0 _ z rfl rfl H1 (Same.refl _)) r1) (ih zs (by simpa using hl) fun j v x h1 h2 => hk (j + 1) v x (by simpa using h1) (by simpa using h2))
      exact all ks _ xs rk (by omega) kx
    have hud : ∀ d ∈ xs.map κ, A.units + d.depth < cLine := fun d hd => by
      obtain ⟨x, hx, rfl⟩ := List.mem_map.mp hd
      exact hu x hx
    try dsimp only
    refine wpAny_bind (listItems_at ok1 rfl ?_)
    refine PySem.W.keyH_end (κ := PySem.W.dataKind s1.heap (xs.map κ)) (h₁ := s1.heap.hide kS) (fun c o hc e => Heap.of_hide e) (Heap.hide_self _ _) ok1 oa1 (Ne.symm hak) (PySem.W.SortsAt.data hks hal hso hud) hsz hZ fun h3 tk3 c3 kp n3 => ?_
    have I2 := pin_less (pin_less I1)
    have eo := PySem.W.keyedOut_each (rev := false) κ ⟨s1.heap, kA.toList, hal, rfl, hks⟩ hv
    have hl3 : ((xs.mergeSort (PySem.W.dataLe false κ)).map V.str).length ≤ sizeLine := by
      rw [List.length_map, List.length_mergeSort, hlen]
      exact hZ
    refine h _ _ (fun b o hb => ?_) upd_same (take_in (t' := tk3) (o := .lst ((xs.mergeSort (PySem.W.dataLe false κ)).map V.str)) I2 Na Nk na1 nk1 (fun c o h1 h2 e => kp c o h1 (by rw [Heap.hide_ne _ h2]; exact e)) ⟨hl3, _, c3, each_vals (vof := V.str) eo, n3⟩)
    rw [upd_ne (ne_of_none hb na)]
    exact s01 b o hb
/-- sorted(d, key=f) of a dict whose keys are texts -/
theorem call_sortedDK (hcalm : X.calm = true) (κ : Str → PyData) (F : FnOk X.prog X.w X.K X.mg X.base CX0 k f fd ps sp) (hb : Binds X.K fd ps []) (hr : Room (k + 2) X.A) : CallRK X (.builtin "sorted") [Str.ofString "key"] (fun vs zs H Q => ∃ (a : Addr) (kvs : List (Key × V)) (xs : List Str), vs = [.ref a] ∧ zs = [.ref f] ∧ Rd H a (.dK kvs) ∧ kvs.map (·.1) = xs.map Sum.inr ∧
    PySem.W.AllAlike (xs.map κ) ∧ PySem.W.Sortable (xs.map κ) ∧ (∀ x ∈ xs, (κ x).depth ≤ 60) ∧ (∀ x ∈ xs, ∀ (H1 : Hp) (Q : VK), (∀ v H2, Same H1 H2 → KeyAt X.K H2 v (κ x) → Q v H2) → sp [.str x] H1 Q E0) ∧
    ∀ p H', H p = none → Same H H' → H' p = some (.lst ((xs.mergeSort (PySem.W.dataLe false κ)).map V.str)) → Q (.ref p) H') := by
  intro pins s σ H vs zs us ws Q I r rz q
  obtain ⟨a, kvs, xs, rfl, rfl, hd, hks, hal, hso, hdep, hsp, q⟩ := q
  obtain rfl := Vals.ref1 r
  obtain ⟨w1, rfl, e1⟩ := vals1 rz
  cases e1
  obtain ⟨z, lo, ds, rel, dd⟩ := dk_rd I.hok hd
  obtain ⟨ep, hat⟩ := dd.dictAt
  have hkeys : ds.map (·.1) = xs.map Sum.inr := rel.keys.symm.trans hks
  have hl : ds.length = xs.length := by
    have e := congrArg List.length hkeys
    rw [List.length_map, List.length_map] at e
    exact e
  have hz : ds.length ≤ sizeLine := by rw [← rel.length]; exact z
  show wpAny _ _ (call (.builtin "sorted") [.ref a] [(Str.ofString "key", .ref f)]) _ _ _
  refine call_function_entry_kw kind_sorted plain_sorted entry_sorted (ksk_s1 _ _) ?_
  unfold Builtin.«sorted»
  refine wpAny_bind (m := checkCount "sorted" 1 1 _) (wpAny_pure ?_)
  refine wpAny_bind (PySem.W.kdu_collect (A := X.A.in1) (PySem.W.kdl_dict (knd := mixKind X.prog X.w) (kvs := ds) (ep := ep) lo) (I.ok.hd hcalm) hat hz fun h1 tk acc hk1 hacc => ?_)
  have hsz : acc.toList.length = xs.length := by rw [Array.length_toList, hacc.1, hl]
  have hS : PySem.W.EachIs (fun u x => RelV (V.str x) u) acc.toList xs := by
    have hS : StrsAre acc.toList xs := strs_at hsz fun j v e => by
      obtain ⟨k, x, e1, e2⟩ := hacc.2 j v (by rw [← Array.getElem?_toList]; exact e)
      have e3 : (ds.map (·.1))[j]? = some k := by rw [List.getElem?_map, e1]; all_goals rfl
      rw [hkeys, List.getElem?_map] at e3
      cases e4 : xs[j]? with
      | none => rw [e4] at e3; cases e3
      | some y =>
        rw [e4] at e3
        have e5 : Sum.inr y = k := Option.some.inj e3
        subst e5
        obtain ⟨t, ev⟩ := Value.isStrOf_shape (x := y) (v := v) e2
        exact ⟨y, t, rfl, ev⟩
    exact vals_each (vof := V.str) (vals_of_strs hS)
  have I1 : Inv X pins σ H { s with heap := h1, toks := tk } := I.kept hk1
  refine wpAny_bind (wpAny_newList ?_ (by rw [hsz, ← hl]; exact hz))
  have hoL : (h1.push (seqObj "list" acc.toList.toArray 0)).get? h1.objs.size = some (seqObj "list" acc.toList.toArray 0) := Heap.get?_push_size _ rfl
  show wpAny _ _ _ _ _ { s with heap := h1.push (seqObj "list" acc.toList.toArray 0), toks := tk }
  refine wpAny_bind (wpAny_holding (wpAny_call_entry_kw slot_list_sort ⟨_, hoL, rfl⟩ entry_list_sort ?_ (ksk_l1 _ _)))
  rw [ksk_t1]
  have hZ : acc.toList.length ≤ sizeLine := by rw [hsz, ← hl]; exact hz
  have I2 : Inv X pins σ H { s with heap := h1.push (seqObj "list" acc.toList.toArray 0), toks := tk } := I1.kept fun b u e => Heap.get?_push_of_some _ e
  generalize hA' : h1.objs.size = aL at hoL
  have Na : Newly X pins aL := newly_of I1 (by rw [← hA']; exact Nat.le_refl _)
  have na : H aL = none := I1.hok.fresh (by rw [← hA']; exact Nat.le_refl _)
  generalize hh2 : h1.push (seqObj "list" acc.toList.toArray 0) = h2 at hoL I2
  obtain ⟨e1, ho1⟩ : ∃ e1, (h2.update aL (Obj.mapSeq fun _ => (#[] : Array Value))).get? aL = some (seqObj "list" #[] e1) := ⟨_, get?_update_seq hoL fun _ => #[]⟩
  unfold ksk_tree
  refine wpAny_bind (listItems_at hoL rfl ?_)
  refine wpAny_bind (listUpdate_at hoL rfl ?_ (by rw [List.size_toArray]; exact hZ) (Nat.zero_le _))
  refine wpAny_bind (seqEpoch_at ho1 rfl ?_)
  refine wpAny_bind (wpAny_newTuple ?_ (by show acc.toList.length ≤ _; exact hZ))
  refine wpAny_bind (wpAny_newList ?_ (Nat.zero_le _))
  refine wpAny_holding ?_
  have sb := Heap.SameBut.update h2 aL (Obj.mapSeq fun _ => (#[] : Array Value))
  have I3 : Inv X pins σ H { s with heap := h2.update aL (Obj.mapSeq fun _ => (#[] : Array Value)), toks := tk } := turn_one (s := { s with heap := h2, toks := tk }) I2 Na na fun c o hc e => (sb.2 c hc).trans e
  have I4 : Inv X pins σ H { s with heap := (h2.update aL (Obj.mapSeq fun _ => (#[] : Array Value))).push (seqObj "tuple" acc.toList.toArray 0), toks := tk } := I3.kept fun b u e => Heap.get?_push_of_some _ e
  have I5 : Inv X pins σ H { s with heap := ((h2.update aL (Obj.mapSeq fun _ => (#[] : Array Value))).push (seqObj "tuple" acc.toList.toArray 0)).push (seqObj "list" #[] 0), toks := tk } := I4.kept fun b u e => Heap.get?_push_of_some _ e
  have Nk := newly_of I4 (Nat.le_refl _)
  have nk := I4.hok.fresh (Nat.le_refl _)
  have oa5 := Heap.get?_push_of_some (seqObj "list" #[] 0) (Heap.get?_push_of_some (seqObj "tuple" acc.toList.toArray 0) ho1)
  refine keys_go κ F hb hr.in1.in1 (fun J => J.env0.in1.in1) I5 Na Nk ?_ (Heap.get?_push_size _ rfl) oa5 na nk hS hZ hal hso (fun x hx => ?_) hsp fun s9 H9 s09 h9 I9 => ⟨_, rfl, wpAny_pure ⟨_, rfl, .ref aL, H9, I9, rfl, q aL H9 na s09 h9⟩⟩
  · intro e
    have hlt := Heap.lt_size (Heap.get?_push_of_some (seqObj "tuple" acc.toList.toArray 0) ho1)
    rw [← e] at hlt
    exact Nat.lt_irrefl _ hlt
  · have := hr.un
    have := hdep x hx
    show X.A.units + 1 + 1 + _ < _
    omega
end
end Sf
namespace Sf
open PySem PySem.Spec PyProof.Rows L2 TL
/-! ### words that rise -/
theorem lexI_irrefl : ∀ l : List Int, lexI l l = false
  | [] => rfl
  | x :: l => by
    unfold lexI
    rw [lexI_irrefl l]
    simp
theorem lexI_trans : ∀ a b c : List Int, lexI a b = true → lexI b c = true → lexI a c = true
  | [], [], _, h, _ => by cases h
  | [], _ :: _, [], _, h => by cases h
  | [], _ :: _, _ :: _, _, _ => rfl
  | _ :: _, [], _, h, _ => by cases h
  | _ :: _, _ :: _, [], _, h => by cases h
  | x :: a, y :: b, z :: c, h1, h2 => by
    have ih := lexI_trans a b c
    unfold lexI at h1 h2 ⊢
    simp only [Bool.or_eq_true, Bool.and_eq_true, decide_eq_true_eq, Bool.not_eq_true', decide_eq_false_iff_not] at h1 h2 ⊢
    rcases h1 with h1 | ⟨h1, h3⟩
    · rcases h2 with h2 | ⟨h2, h4⟩
      · exact .inl (by omega)
      · exact .inl (by omega)
    · rcases h2 with h2 | ⟨h2, h4⟩
      · exact .inl (by omega)
      · by_cases h5 : x < z
        · exact .inl h5
        · exact .inr ⟨by omega, ih h3 h4⟩
theorem lexI_total : ∀ a b : List Int, lexI a b = false → lexI b a = false → a = b
  | [], [], _, _ => rfl
  | [], _ :: _, h, _ => by cases h
  | _ :: _, [], _, h => by cases h
  | x :: a, y :: b, h1, h2 => by
    have ih := lexI_total a b
    unfold lexI at h1 h2
    simp only [Bool.or_eq_false_iff, Bool.and_eq_false_iff, decide_eq_false_iff_not, Bool.not_eq_false', decide_eq_true_eq] at h1 h2
    have e : x = y := by omega
    subst e
    rw [ih (by rcases h1.2 with z | z; omega; exact z) (by rcases h2.2 with z | z; omega; exact z)]
def wkey (x : Str) : List Int := (x.length : Int) :: (tl x).map idxC
theorem wlt_key (x y : Str) : wlt x y = lexI (wkey x) (wkey y) := rfl
theorem idx_inj : ∀ c, c < 128 → ∀ d, d < 128 → sgn c = true → sgn d = true → idxC c = idxC d → c = d := by decide +kernel
theorem map_idx : ∀ {l m : List Nat}, Sg l → Sg m → l.map idxC = m.map idxC → l = m
  | [], [], _, _, _ => rfl
  | [], _ :: _, _, _, h => by cases h
  | _ :: _, [], _, _, h => by cases h
  | c :: l, d :: m, h1, h2, h => by
    rw [List.map_cons, List.map_cons] at h
    obtain ⟨e1, e2⟩ := List.cons.inj h
    have c1 := h1 c (List.mem_cons_self ..)
    have d1 := h2 d (List.mem_cons_self ..)
    rw [idx_inj c (sgn_lt c1) d (sgn_lt d1) c1 d1 e1, map_idx (fun e he => h1 e (List.mem_cons_of_mem _ he)) (fun e he => h2 e (List.mem_cons_of_mem _ he)) e2]
theorem wlt_irrefl (x : Str) : wlt x x = false := by rw [wlt_key, lexI_irrefl]
theorem wlt_trans {x y z : Str} (h1 : wlt x y = true) (h2 : wlt y z = true) : wlt x z = true := by
  rw [wlt_key] at h1 h2 ⊢
  exact lexI_trans _ _ _ h1 h2
theorem wlt_asymm {x y : Str} (h1 : wlt x y = true) (h2 : wlt y x = true) : False := by
  have := wlt_trans h1 h2
  rw [wlt_irrefl] at this
  cases this
theorem wlt_total {x y : Str} (hx : Wd x) (hy : Wd y) (h1 : wlt x y = false) (h2 : wlt y x = false) : x = y := by
  rw [wlt_key] at h1 h2
  have h := lexI_total _ _ h1 h2
  exact ext_tl (map_idx hx hy (List.cons.inj h).2)
theorem wlt_neg {x y z : Str} (h1 : wlt y x = false) (h2 : wlt z y = false) : wlt z x = false := by
  cases h : wlt z x with
  | false => rfl
  | true =>
    cases h3 : wlt x y with
    | true => rw [wlt_trans h h3] at h2; cases h2
    | false =>
      rw [wlt_key] at h3 h1
      have e : wkey x = wkey y := lexI_total _ _ h3 h1
      rw [wlt_key, e, ← wlt_key, h2] at h
      cases h
/-- strictly rising -/
def Rises (l : List Str) : Prop := l.Pairwise fun a b => wlt a b = true
theorem sort_w {β : Type} (f : β → Str) (l : List β) : (l.mergeSort fun a b => !wlt (f b) (f a)).Pairwise fun a b => wlt (f b) (f a) = false := by
  have h := List.pairwise_mergeSort (le := fun a b => !wlt (f b) (f a)) (fun a b c h1 h2 => ?_) (fun a b => ?_) l
  · exact h.imp fun {a b} z => by simpa using z
  · simp only [Bool.not_eq_true'] at h1 h2 ⊢
    exact wlt_neg h1 h2
  · cases h1 : wlt (f b) (f a) with
    | false => rfl
    | true =>
      cases h2 : wlt (f a) (f b) with
      | false => rfl
      | true => exact (wlt_asymm h1 h2).elim
theorem rises_of {l : List Str} (h : l.Pairwise fun a b => wlt b a = false) (hn : l.Nodup) (hw : ∀ x ∈ l, Wd x) : Rises l := by
  induction l with
  | nil => exact .nil
  | cons a l ih =>
    rw [List.pairwise_cons] at h
    rw [List.nodup_cons] at hn
    refine List.pairwise_cons.mpr ⟨fun b hb => ?_, ih h.2 hn.2 fun x hx => hw x (List.mem_cons_of_mem _ hx)⟩
    cases e : wlt a b with
    | true => rfl
    | false =>
      have := wlt_total (hw a (List.mem_cons_self ..)) (hw b (List.mem_cons_of_mem _ hb)) e (h.1 b hb)
      rw [this] at hn
      exact (hn.1 hb).elim
theorem rises_ext : ∀ {l m : List Str}, Rises l → Rises m → (∀ s, s ∈ l ↔ s ∈ m) → l = m
  | [], [], _, _, _ => rfl
  | [], b :: m, _, _, h => by cases (h b).mpr (List.mem_cons_self ..)
  | a :: l, [], _, _, h => by cases (h a).mp (List.mem_cons_self ..)
  | a :: l, b :: m, h1, h2, h => by
    unfold Rises at h1 h2
    rw [List.pairwise_cons] at h1 h2
    have e : a = b := by
      rcases List.mem_cons.mp ((h a).mp (List.mem_cons_self ..)) with e | e
      · exact e
      · rcases List.mem_cons.mp ((h b).mpr (List.mem_cons_self ..)) with e2 | e2
        · exact e2.symm
        · exact (wlt_asymm (h1.1 b e2) (h2.1 a e)).elim
    subst e
    rw [rises_ext h1.2 h2.2 fun s => ?_]
    constructor
    · intro hs
      rcases List.mem_cons.mp ((h s).mp (List.mem_cons_of_mem _ hs)) with e | e
      · have := h1.1 s hs
        rw [e, wlt_irrefl] at this
        cases this
      · exact e
    · intro hs
      rcases List.mem_cons.mp ((h s).mpr (List.mem_cons_of_mem _ hs)) with e | e
      · have := h2.1 s hs
        rw [e, wlt_irrefl] at this
        cases this
      · exact e
theorem rises_nodup {l : List Str} (h : Rises l) : l.Nodup := h.imp fun {a b} z e => by
  rw [e, wlt_irrefl] at z
  cases z
/-- one more word of a row that rises weakly -/
theorem rises_more {F : List Str} {w : Str} (hF : Rises F) (hw : Wd w) (hFw : ∀ f ∈ F, Wd f) (hle : ∀ f ∈ F, wlt w f = false) (hl : F.getLast? ≠ some w) : Rises (F ++ [w]) := by
  refine List.pairwise_append.mpr ⟨hF, List.pairwise_singleton _ _, fun f hf b hb => ?_⟩
  rw [List.mem_singleton] at hb
  subst hb
  cases e : wlt f b with
  | true => rfl
  | false =>
    have e1 := wlt_total (hFw f hf) hw e (hle f hf)
    subst e1
    rcases List.eq_nil_or_concat F with rfl | ⟨r, z, rfl⟩
    · cases hf
    · rw [List.concat_eq_append] at *
      rw [List.mem_append, List.mem_singleton] at hf
      rcases hf with hf | hf
      · have h5 := (List.pairwise_append.mp hF).2.2 f hf z (List.mem_singleton.mpr rfl)
        rw [hle z (List.mem_append_right _ (List.mem_singleton.mpr rfl))] at h5
        cases h5
      · rw [hf] at hl
        exact (hl (by simp)).elim
theorem le_rank : PySem.W.dataLe false (fun x : Str => PyData.tuple [.int (x.length : Int), .str (rankS x)]) = fun a b => !wlt b a := by
  funext a b
  rw [PySem.W.dataLe_eq]
  show (!PySem.W.dataLt _ _) = _
  rw [rank_lt]
structure Mrk where
  w : Str
  t : Addr
  hw : Wd w
def Mrk.v (b : Mrk) : V := .ref b.t
def Mrk.d (b : Mrk) : PyData := .tuple [rkD b.w, .str b.w]
theorem lt_marked {x y : Str} (hx : Wd x) (hy : Wd y) : PySem.W.dataLt (.tuple [rkD x, .str x]) (.tuple [rkD y, .str y]) = wlt x y := by
  rw [PySem.W.dataLt_pair (rkD_alike x y) (by simp [PySem.W.alike]), rkD_lt]
  by_cases e : PyData.eqv (rkD x) (rkD y) = true
  · rw [if_pos e]
    have exy : x = y := by
      unfold rkD at e
      simp only [PyData.eqv, PyData.eqvAll, PySem.W.ked_eqvAll, Bool.and_eq_true, decide_eq_true_eq, Bool.and_true] at e
      exact ext_tl (map_idx hx hy e.2)
    subst exy
    rw [if_pos (by simp [PyData.eqv]), wlt_irrefl]
  · rw [if_neg e]
theorem le_marked : PySem.W.dataLe false Mrk.d = fun a b => !wlt b.w a.w := by
  funext a b
  rw [PySem.W.dataLe_eq]
  show (!PySem.W.dataLt _ _) = _
  unfold Mrk.d
  rw [lt_marked b.hw a.hw]
/-- the last of a row -/
theorem cut_last (l : List V) : cutV l (some (-1)) none = l.getLast?.toList := by
  rcases List.eq_nil_or_concat l with rfl | ⟨r, z, rfl⟩
  · rfl
  · rw [List.concat_eq_append]
    unfold cutV
    have e1 : HT.sIx (r ++ [z]).length 0 (some (-1)) = r.length := by
      unfold HT.sIx
      dsimp only
      rw [if_pos (by decide), List.length_append, List.length_singleton]
      omega
    have e2 : HT.sIx (r ++ [z]).length (r ++ [z]).length none = r.length + 1 := by
      rw [HT.sIx_none, List.length_append, List.length_singleton]
    rw [e1, e2, List.drop_left, Nat.add_sub_cancel_left]
    simp
theorem last_map (F : List Str) : (F.map V.str).getLast?.toList = F.getLast?.toList.map V.str := by
  rcases List.eq_nil_or_concat F with rfl | ⟨r, z, rfl⟩
  · rfl
  · rw [List.concat_eq_append, List.map_append]
    simp
/-- data of a list of words -/
def dWs (l : List Str) : PyData := .list (l.map .str)
theorem dp_ws {K : PySem.W.Frag} {H : Hp} : ∀ l : List Str, DpAll K H (l.map V.str) (l.map .str)
  | [] => .nil
  | _ :: l => .cons (.str _) (dp_ws l)
theorem wd_ok {x : Str} (h : Wd x) : PyData.canLay0 (.str x) = true := by
  rw [PyData.canLay0]
  show x.cps.all (fun c => decide (c < 0x110000)) = true
  rw [← Array.all_toList, List.all_eq_true]
  intro c hc
  have := sgn_lt (h c hc)
  exact decide_eq_true (by omega)
theorem ws_lay : ∀ {l : List Str}, (∀ x ∈ l, Wd x) → PyData.canLayAll0 (l.map .str) = true
  | [], _ => rfl
  | x :: l, h => by
    rw [List.map_cons, PyData.canLayAll0, ws_lay fun y hy => h y (List.mem_cons_of_mem _ hy), wd_ok (h x (List.mem_cons_self ..))]
    rfl
theorem ws_depth : ∀ l : List Str, PyData.depthAll (l.map .str) = 0
  | [] => rfl
  | _ :: l => by
    rw [List.map_cons, PyData.depthAll, ws_depth l]
    rfl
theorem ws_shaped {l : List Str} (h : ∀ x ∈ l, Wd x) : SeqAt.shaped (dWs l) = true := by
  unfold SeqAt.shaped dWs
  rw [PyData.canLay0, ws_lay h, Bool.true_and, PyData.depth, ws_depth]
  rfl
theorem ws_eqv : ∀ l m : List Str, PyData.eqvAll (l.map .str) (m.map .str) = decide (l = m)
  | [], [] => by simp [PyData.eqvAll]
  | [], _ :: _ => by simp [PyData.eqvAll]
  | _ :: _, [] => by simp [PyData.eqvAll]
  | a :: r, b :: t => by
    simp only [List.map_cons, PyData.eqvAll, PyData.eqv, ws_eqv r t]
    by_cases h : a = b <;> by_cases h' : r = t <;> simp [h, h']
theorem dws_eqv (l m : List Str) : PyData.eqv (dWs l) (dWs m) = decide (l = m) := by
  unfold dWs
  rw [PyData.eqv, ws_eqv]
end Sf
namespace Sf
open PySem PySem.Spec PyProof.Rows L2 TL
section
variable {P : Program} {w : World} {K : PySem.W.Frag} {mg : Str → Option Value} {base : Heap}
/-! ### _law_rise -/
def spRise (K : PySem.W.Frag) : Sp := fun vs H Q _ => ∃ (a : Addr) (ws : List Str), vs = [.ref a] ∧ SqL K H a (ws.map V.str) ∧ (∀ x ∈ ws, Wd x ∧ x.length ≤ 50000) ∧ ws.length ≤ 50000 ∧
  ∀ (p : Addr) (H' : Hp) (L : List Str), H p = none → Same H H' → H' p = some (.lst (L.map V.str)) → Rises L → (∀ s, s ∈ L ↔ s ∈ ws) → L.length ≤ ws.length → Q (.ref p) H'
abbrev HasRise (P : Program) (w : World) (K : PySem.W.Frag) (mg : Str → Option Value) (base : Heap) : Prop := Has P w K mg base 2 "_law_rise" ["_law_words"] (spRise K)
theorem sc_rise : FnScope ["_law_words", "_law_found", "_law_mark", "_law_word_here"] ["_law_words"] (defScope s__law_rise) := ⟨rfl, rfl, rfl, by decide +kernel, rfl, by decide +kernel, by decide +kernel⟩
def MrkAt (H : Hp) (b : Mrk) : Prop := ∃ r, H b.t = some (.tup [.ref r, .str b.w]) ∧ RkAt H r b.w
theorem MrkAt.same {H H' : Hp} {b : Mrk} (s : Same H H') : MrkAt H b → MrkAt H' b
  | ⟨r, h1, h2⟩ => ⟨r, s _ _ h1, h2.same s⟩
/-- a mark none of whose things stands at D -/
def MrkOff (D : Addr) (H : Hp) (b : Mrk) : Prop := ∃ r q : Addr, b.t ≠ D ∧ r ≠ D ∧ q ≠ D ∧ H b.t = some (.tup [.ref r, .str b.w]) ∧ H r = some (.lst [.int (b.w.length : Int), .ref q]) ∧ H q = some (.lst (((tl b.w).map idxC).map V.int))
theorem MrkOff.fx {D : Addr} {H H' : Hp} {b : Mrk} (f : Fx D H H') : MrkOff D H b → MrkOff D H' b
  | ⟨r, q, n1, n2, n3, h1, h2, h3⟩ => ⟨r, q, n1, n2, n3, f _ _ h1 n1, f _ _ h2 n2, f _ _ h3 n3⟩
theorem MrkOff.at {D : Addr} {H : Hp} {b : Mrk} : MrkOff D H b → MrkAt H b
  | ⟨r, q, _, _, _, h1, h2, h3⟩ => ⟨r, h1, q, h2, h3⟩
theorem MrkAt.dp {H : Hp} {b : Mrk} : MrkAt H b → Dp K H b.v b.d
  | ⟨_, h1, h2⟩ => .tup (SqT.of h1) (.cons h2.dp (.cons (.str _) .nil))
theorem mk_alike (b c : Mrk) : PySem.W.alike b.d c.d = true := by
  unfold Mrk.d
  simp [PySem.W.alike, PySem.W.alikeAll, rkD_alike]
theorem mk_depth (b : Mrk) : b.d.depth ≤ 60 := by
  have h : (rkD b.w).depth ≤ 2 := by
    unfold rkD
    simp only [PyData.depth, PyData.depthAll, depth_ints]
    decide
  unfold Mrk.d
  simp only [PyData.depth, PyData.depthAll]
  omega
theorem has_rise (F : FnAt K mg "_law_rise" s__law_rise ["_law_words"]) (B : Blt mg) (hR : HasRankL P w K mg base) : HasRise P w K mg base := F.has fun F => by
  obtain ⟨fR, fdR, gR, kR, bR, GR⟩ := hR
  refine F.ok sc_rise (fun vs H Q E h => ?_) (fun cdv A outer s H vs Q E hr h => ?_)
  · obtain ⟨a, ws, rfl, _⟩ := h
    rfl
  · obtain ⟨a, ws, rfl, hS, hw, hl, q⟩ := h
    have hr1 : Room 1 _ := hr.mono (by decide)
    refine ⟨_, pss_cons (ps_set (i := 1) sc_rise.nd rfl (.inl rfl) (pe_lst pa_nil))
      (pss_cons (ps_for PassesOwn.never rfl (pi_list (pe_callB (call_sortedData Mrk.v Mrk.d hr.units) (by rfl) B.sorted boot_sorted (pa_cons (pe_lc (own := [("_law_word_here", 3)]) (g := gName 3) (tt := tYes) (by rfl) sc_rise.nd (pi_list (pv 0))
          (blkOk_by (own := [("_law_word_here", 3)]) (N := ["_law_words", "_law_found", "_law_mark", "_law_word_here"]) (sc := defScope s__law_rise) (by decide +kernel)) (fun _ _ _ _ _ => pg_name (i := 3) sc_rise.nd rfl (.inl rfl)) (fun _ _ _ _ _ => pts_nil)
          (fun _ _ _ _ _ => pe_tup (pa_cons (pe_call GR hr1 (by rfl) gR kR bR .nil pass0 (pa_cons (pv 3) pa_nil)) (pa_cons (pv 3) pa_nil)))) pa_nil)))
          (pg_tup rfl (pgs_cons (pg_name (i := 2) sc_rise.nd rfl (.inl rfl)) (pgs_cons (pg_name (i := 3) sc_rise.nd rfl (.inl rfl)) pgs_nil)))
        (pss_one (ps_if (pt_cmpR (op_neD hr.units) (pe_slice sl_list (pv 1) (po_some (pe_un un_neg pe_int)) po_none) (pe_lst (pa_cons (pv 3) pa_nil)) (nomark _))
          (pss_one (ps_expr (pe_bm PySem.F.plainAttrs_list PySem.F.slot_list_append PySem.F.type_list_append mt_append (pv 1) (pa_cons (pv 3) pa_nil)))) pss_nil)))
      (pss_one (ps_ret (pv 1)))), ?_⟩
    refine ⟨(by show 0 ≤ sizeLine; decide), fun F nF => ?_⟩
    have sF : Same H (upd H F (.lst [])) := same_upd nF
    refine ⟨_, rfl, a, rfl, ⟨_, sF.seq hS⟩, fun D nD => ?_⟩
    have nD0 : H D = none := sF.free nD
    have nFD : F ≠ D := ne_of_none upd_same nD
    refine lc_list (K := K) (a := a) (xs := ws.map V.str) (fun i H2 => ∃ bs : List Mrk, bs.map (·.w) = ws.take i ∧ Fx D (upd H F (.lst [])) H2 ∧ H2 D = some (.lst (bs.map Mrk.v)) ∧ ∀ b ∈ bs, MrkOff D H2 b)
      ⟨[], by rw [List.take_zero]; rfl, Fx.of (same_upd nD), upd_same, fun b hb => by cases hb⟩ (fun i H2 _ ⟨bs, _, f, _⟩ => ?_) ?_ ?_
    · exact (f.toSame nD).seq (sF.seq hS)
    · rintro i v H2 hi ⟨bs, hb, f2, hD, hm⟩
      obtain ⟨x, hx, rfl⟩ : ∃ x, ws[i]? = some x ∧ v = V.str x := by
        rw [List.getElem?_map] at hi
        cases e : ws[i]? with
        | none =>
          rw [e] at hi
          cases hi
        | some x =>
          rw [e] at hi
          exact ⟨x, rfl, (Option.some.inj hi).symm⟩
      have hxw := hw x (List.mem_of_getElem? hx)
      refine ⟨rfl, yes_if ?_⟩
      refine ⟨_, rfl, x, rfl, hxw.1, hxw.2, fun r H3 nr s3 ⟨q2, nq2, r1, r2⟩ => ⟨_, rfl, (by show 2 ≤ sizeLine; decide), fun t nt => ?_⟩⟩
      have hD3 : H3 D = some (.lst (bs.map Mrk.v)) := s3 _ _ hD
      have ntD : t ≠ D := (ne_of_none hD3 nt).symm
      have nrD : r ≠ D := (ne_of_none hD nr).symm
      have nqD : q2 ≠ D := (ne_of_none hD nq2).symm
      have s34 : Same H3 (upd H3 t (.tup [.ref r, .str x])) := same_upd nt
      have hil : i < ws.length := (List.getElem?_eq_some_iff.mp hx).1
      have hbl : bs.length = i := by
        have := congrArg List.length hb
        rw [List.length_map, List.length_take] at this
        omega
      refine ⟨_, s34 _ _ hD3, ?_, bs ++ [⟨x, t, hxw.1⟩], ?_, ?_, ?_, ?_⟩
      · rw [List.length_map, hbl]
        exact lineLt_of (by omega)
      · rw [List.map_append, hb, List.take_add_one, hx]
        rfl
      · exact (f2.same (s3.trans s34)).upd
      · rw [upd_same, List.map_append]
        rfl
      · intro b hbm
        rcases List.mem_append.mp hbm with hbm | hbm
        · exact (hm b hbm).fx ((Fx.of (s3.trans s34)).upd)
        · rw [List.mem_singleton] at hbm
          subst hbm
          exact ⟨r, q2, ntD, nrD, nqD, by rw [upd_ne ntD, upd_same], by rw [upd_ne nrD]; exact s34 _ _ r1, by rw [upd_ne nqD]; exact s34 _ _ r2⟩
    · rintro H2 ⟨bs, hb, f2, hD, hm⟩
      rw [List.length_map, List.take_length] at hb
      have hbl : bs.length = ws.length := by
        have := congrArg List.length hb
        rw [List.length_map] at this
        exact this
      have hF2 : H2 F = some (.lst []) := f2 _ _ upd_same nFD
      have s02 : Same H H2 := fun b o e => f2 _ _ (sF _ _ e) (ne_of_none e nD0)
      refine ⟨D, bs, rfl, SqL.of hD, fun b hbm => (hm b hbm).at.dp, PySem.W.AllAlike.of mk_alike, PySem.W.Sortable.tuples (fun b => ⟨_, _, rfl⟩), fun b _ => mk_depth b, fun p np => ?_⟩
      rw [le_marked]
      have hsl := sort_w Mrk.w bs
      have hperm := List.mergeSort_perm bs (fun a b => !wlt b.w a.w)
      generalize hsl0 : bs.mergeSort (fun a b => !wlt b.w a.w) = sl at hsl hperm
      have hlen : sl.length = ws.length := hperm.length_eq.trans hbl
      have s2p : Same H2 (upd H2 p (.lst (sl.map Mrk.v))) := same_upd np
      have npF : F ≠ p := ne_of_none hF2 np
      generalize hH3 : upd H2 p (.lst (sl.map Mrk.v)) = H3 at s2p
      have hp3 : H3 p = some (.lst (sl.map Mrk.v)) := by rw [← hH3, upd_same]
      have hF3 := s2p _ _ hF2
      have hm3 : ∀ b ∈ sl, MrkAt H3 b := fun b hbm => (hm b (hperm.mem_iff.mp hbm)).at.same s2p
      refine ⟨p, rfl, ⟨_, SqL.of hp3⟩, for_list (K := K) (a := p) (xs := sl.map Mrk.v) (fun i σ H4 => ∃ (y2 y3 : Option V) (L : List Str), σ = [some (.ref a), some (.ref F), y2, y3] ∧ Fx F H3 H4 ∧ H4 F = some (.lst (L.map V.str)) ∧ Rises L ∧ (∀ s, s ∈ L ↔ s ∈ (sl.take i).map Mrk.w) ∧ L.length ≤ i)
        ⟨none, none, [], rfl, .refl, hF3, .nil, fun s => by rw [List.take_zero]; exact Iff.rfl, Nat.le_refl _⟩ (fun i σ H4 _ ⟨_, _, _, _, f4, _⟩ => SqL.of (f4 _ _ hp3 npF.symm)) ?_ ?_⟩
      · rintro i v σ H4 hi ⟨y2, y3, L, rfl, f4, hF4, hR, hmem, hLl⟩
        obtain ⟨b, hbi, rfl⟩ : ∃ b, sl[i]? = some b ∧ v = Mrk.v b := by
          rw [List.getElem?_map] at hi
          cases e : sl[i]? with
          | none =>
            rw [e] at hi
            cases hi
          | some b =>
            rw [e] at hi
            exact ⟨b, rfl, (Option.some.inj hi).symm⟩
        have hbs := List.mem_of_getElem? hbi
        have hil : i < sl.length := (List.getElem?_eq_some_iff.mp hbi).1
        obtain ⟨r, hbt, _⟩ := hm3 b hbs
        have ht4 : H4 b.t = some (.tup [.ref r, .str b.w]) := f4 _ _ hbt (ne_of hbt hF3 (by intro z; cases z))
        have hLw : ∀ x ∈ L, Wd x := fun x hx => by
          obtain ⟨c, _, rfl⟩ := List.mem_map.mp ((hmem x).mp hx)
          exact c.hw
        refine ⟨b.t, _, rfl, SqT.of ht4, rfl, _, _, rfl, _, _, rfl, rfl, ?_⟩
        refine ⟨_, rfl, 1, rfl, _, rfl, F, _, rfl, SqL.of hF4, fun p1 np1 => ⟨_, rfl, (by show 1 ≤ sizeLine; decide), fun p2 np2 => ?_⟩⟩
        rw [cut_last, last_map] at np2 ⊢
        have s45 := (same_upd (o := HO.lst (L.getLast?.toList.map V.str)) np1).trans (same_upd (o := HO.lst [V.str b.w]) np2)
        have n12 : p1 ≠ p2 := ne_of_none upd_same np2
        generalize hH5 : upd (upd H4 p1 (.lst (L.getLast?.toList.map V.str))) p2 (.lst [V.str b.w]) = H5 at s45
        have h51 : H5 p1 = some (.lst (L.getLast?.toList.map V.str)) := by rw [← hH5, upd_ne n12, upd_same]
        have h52 : H5 p2 = some (.lst ([b.w].map V.str)) := by rw [← hH5, upd_same]; rfl
        have f5 := f4.same s45
        have hF5 := s45 _ _ hF4
        have hsub : ∀ x ∈ L.getLast?.toList, Wd x := fun x hx => hLw x (List.mem_of_mem_getLast? (by simpa using hx))
        refine ⟨dWs L.getLast?.toList, dWs [b.w], .lst (SqL.of h51) (dp_ws _), .lst (SqL.of h52) (dp_ws _), ws_shaped hsub, ws_shaped (fun x hx => by rw [List.mem_singleton] at hx; rw [hx]; exact b.hw), _, rfl, ?_⟩
        rw [dws_eqv]
        have htk : (sl.take (i + 1)).map Mrk.w = (sl.take i).map Mrk.w ++ [b.w] := by
          rw [List.take_add_one, hbi, List.map_append]
          rfl
        by_cases e : L.getLast?.toList = [b.w]
        · rw [decide_eq_true e]
          refine iteF ⟨_, _, L, rfl, f5, hF5, hR, fun s => ?_, by omega⟩
          rw [htk, List.mem_append, List.mem_singleton, hmem]
          constructor
          · exact .inl
          · rintro (z | z)
            · exact z
            · rw [z, ← hmem]
              refine List.mem_of_mem_getLast? ?_
              cases h : L.getLast? with
              | none => rw [h] at e; cases e
              | some y =>
                rw [h] at e
                have e2 : y = b.w := (List.cons.inj e).1
                rw [e2]
                rfl
        · rw [decide_eq_false e]
          refine iteT ⟨_, rfl, .inl ⟨rfl, _, SqL.of hF5⟩, _, rfl, F, _, _, rfl, rfl, hF5, ?_, _, _, L ++ [b.w], rfl, f5.upd, ?_, ?_, fun s => ?_, ?_⟩
          · rw [List.length_map]
            exact lineLt_of (by omega)
          · rw [upd_same, List.map_append]
            rfl
          · refine rises_more hR b.hw hLw (fun x hx => ?_) fun z => e (by rw [z]; rfl)
            obtain ⟨c, hc, rfl⟩ := List.mem_map.mp ((hmem x).mp hx)
            have hs2 := hsl
            rw [← List.take_append_drop i sl, List.drop_eq_getElem_cons hil] at hs2
            have hb2 : sl[i] = b := by
              rw [List.getElem?_eq_getElem hil] at hbi
              exact Option.some.inj hbi
            rw [hb2] at hs2
            exact (List.pairwise_append.mp hs2).2.2 c hc b (List.mem_cons_self ..)
          · rw [htk, List.mem_append, List.mem_append, hmem]
          · rw [List.length_append, List.length_singleton]
            omega
      · rintro σ H4 ⟨y2, y3, L, rfl, f4, hF4, hR, hmem, hLl⟩
        rw [List.length_map] at hLl hmem
        refine ⟨_, rfl, q F H4 L nF (fun c o e => ?_) hF4 hR (fun s => ?_) (by omega)⟩
        · exact f4 _ _ (s2p _ _ (s02 _ _ e)) (ne_of_none e nF)
        · rw [hmem, List.take_length, ← hb]
          exact (hperm.map Mrk.w).mem_iff
end
end Sf
namespace Sf
open PySem PySem.Spec PyProof.Rows L2 TL
section
variable {P : Program} {w : World} {K : PySem.W.Frag} {mg : Str → Option Value} {base : Heap}
theorem cut_pre {x : Str} {i : Nat} (h : i ≤ x.length) : tl (cutS x none (some (i : Int))) = (tl x).take i := by
  rw [tl_cut, HT.sIx_nat, HT.sIx_none, List.drop_zero, Nat.sub_zero, Nat.min_eq_left h]
/-! ### _law_spots -/
def spLSpots : Sp := fun vs H Q _ => ∃ x : Str, vs = [.str x] ∧ Wd x ∧ x.length ≤ 10000 ∧
  ∀ (p : Addr) (H' : Hp) (L : List Str), H p = none → Same H H' → H' p = some (.lst (L.map V.str)) → Rises L → (∀ s, s ∈ L ↔ spotP x s) → L.length ≤ x.length + 1 → Q (.ref p) H'
abbrev HasLSpots (P : Program) (w : World) (K : PySem.W.Frag) (mg : Str → Option Value) (base : Heap) : Prop := Has P w K mg base 3 "_law_spots" ["_law_word_here"] spLSpots
theorem sc_lspots : FnScope ["_law_word_here", "_law_at"] ["_law_word_here"] (defScope s__law_spots) := ⟨rfl, rfl, rfl, by decide +kernel, rfl, by decide +kernel, by decide +kernel⟩
theorem has_lspots (F : FnAt K mg "_law_spots" s__law_spots ["_law_word_here"]) (B : Blt mg) (hR : HasRise P w K mg base) (hS : HasShort P w K mg base) : HasLSpots P w K mg base := F.has fun F => by
  obtain ⟨fR, fdR, gR, kR, bR, GR⟩ := hR
  obtain ⟨fS, fdS, gS, kS, bS, GS⟩ := hS
  refine F.ok sc_lspots (fun vs H Q E h => ?_) (fun cdv A outer s H vs Q E hr h => ?_)
  · obtain ⟨x, rfl, _⟩ := h
    rfl
  · obtain ⟨x, rfl, hx, hl, q⟩ := h
    have hzl : x.length = (tl x).length := len_tl x
    refine ⟨_, pss_one (ps_ret (pe_call GR hr (by rfl) gR kR bR .nil pass0 (pa_cons (pe_lc (own := [("_law_at", 1)]) (g := gName 1) (tt := tYes) (by rfl) sc_lspots.nd
      (pi_range1 rfl B.range (pa_cons (pe_op op_add (pe_callB call_len_str (by rfl) B.len PySem.boot_len (pa_cons (pv 0) pa_nil)) pe_int) pa_nil))
      (blkOk_by (own := [("_law_at", 1)]) (N := ["_law_word_here", "_law_at"]) (sc := defScope s__law_spots) (by decide +kernel)) (fun _ _ _ _ _ => pg_name (i := 1) sc_lspots.nd rfl (.inl rfl)) (fun _ _ _ _ _ => pts_nil)
      (fun _ _ _ _ _ => pe_call GS hr (by rfl) gS kS bS .nil pass0 (pa_cons (pe_slice sl_str (pv 0) po_none (po_some (pv 1))) pa_nil))) pa_nil))), ?_⟩
    refine ⟨_, rfl, x, rfl, line_of (by omega), _, _, rfl, rfl, _, rfl, by omega, by omega, fun D nD => ?_⟩
    have en : (((x.length : Nat) : Int) + 1).toNat = x.length + 1 := by omega
    rw [en]
    refine lc_range (lo := 0) (n := x.length + 1) (fun i H2 => Fx D H H2 ∧ H2 D = some (.lst (((List.range i).map fun j => mkS (shortL ((tl x).take j))).map V.str))) ⟨Fx.of (same_upd nD), upd_same⟩ ?_ ?_
    · rintro i H2 hi ⟨f2, hD⟩
      refine ⟨rfl, yes_if ?_⟩
      rw [Int.zero_add]
      have e1 := cut_pre (x := x) (i := i) (by omega)
      have e2 := cutS_length x none (some (i : Int))
      refine ⟨_, rfl, _, rfl, _, rfl, x, rfl, line_of (by omega), _, rfl, Wd.cut hx, by omega, fun H3 s3 => ⟨_, s3 _ _ hD, ?_, (f2.same s3).upd, ?_⟩⟩
      · rw [List.length_map, List.length_map, List.length_range]
        exact lineLt_of (by omega)
      · rw [upd_same, List.range_succ, List.map_append, List.map_append]
        unfold shortT
        rw [e1]
        rfl
    · rintro H2 ⟨f2, hD⟩
      have s2 := f2.toSame nD
      refine ⟨D, (List.range (x.length + 1)).map fun j => mkS (shortL ((tl x).take j)), rfl, SqL.of hD, fun y hy => ?_, ?_, fun p H' L np s3 hp hR hm hL => ?_⟩
      · obtain ⟨j, hj, rfl⟩ := List.mem_map.mp hy
        refine ⟨shortL_sg fun d hd => hx d (List.mem_of_mem_take hd), ?_⟩
        rw [mkS_len]
        have := shortL_len ((tl x).take j)
        rw [List.length_take] at this
        omega
      · rw [List.length_map, List.length_range]
        omega
      · refine q p H' L (s2.free np) (s2.trans s3) hp hR (fun s => ?_) ?_
        · rw [hm, List.mem_map]
          constructor
          · rintro ⟨j, hj, rfl⟩
            rw [List.mem_range] at hj
            exact ⟨j, by omega, rfl⟩
          · rintro ⟨j, hj, rfl⟩
            exact ⟨j, List.mem_range.mpr (by omega), rfl⟩
        · rw [List.length_map, List.length_range] at hL
          exact hL
end
/-! ### spots -/
section
variable {P : Program} {w : World} {K : PySem.W.Frag} {mg : Str → Option Value} {base : Heap} {C : Addr}
def rkT (x : Str) : PyData := .tuple [.int (x.length : Int), .str (rankS x)]
theorem rkT_alike (x y : Str) : PySem.W.alike (rkT x) (rkT y) = true := by simp [rkT, PySem.W.alike, PySem.W.alikeAll]
def spSpots (C : Addr) : Sp := fun vs H Q _ => ∃ (a : Addr) (S : Str → Prop) (e : Str) (A : Nat), vs = [.ref a] ∧ Trk C H a S e A ∧ A ≤ 100000 ∧
  ∀ (p : Addr) (H' : Hp) (L : List Str), H p = none → Same H H' → H' p = some (.lst (L.map V.str)) → Rises L → (∀ s, s ∈ L ↔ S s) → L.length ≤ A → Q (.ref p) H'
theorem sc_spots : FnScope ["self"] ["self"] (defScope s_Track_spots) := ⟨rfl, rfl, rfl, by decide +kernel, rfl, by decide +kernel, by decide +kernel⟩
theorem has_spots (F : MAt K C "spots" "Track.spots" s_Track_spots ["self"]) (T : TC K mg C) (B : Blt mg) (hR : HasRank P w K mg base) : HasM P w K mg base C 4 "spots" ["self"] (spSpots C) := F.has fun F => by
  obtain ⟨fR, fdR, gR, kR, bR, GR⟩ := hR
  refine F.ok sc_spots (fun vs H Q E h => ?_) (fun cdv A outer s H vs Q E hr h => ?_)
  · obtain ⟨a, S, e, A, rfl, _⟩ := h
    rfl
  · obtain ⟨a, S, e, A1, rfl, ⟨dx, d, ks, ha, hd, hS⟩, hA, q⟩ := h
    refine ⟨_, pss_one (ps_ret (pe_callBK (call_sortedDK rfl rkT GR bR (by exact hr)) (by rfl) B.sorted boot_sorted (pa_cons (pe_fld (pv 0) rfl) pa_nil) (pk_cons (pe_glob (v := .ref fR) (by rfl) gR rfl) pk_nil))), ?_⟩
    refine ⟨_, rfl, a, C, dx, _, _, rfl, ha, T.cl, T.nP, tf_passed _ _, ?_⟩
    refine ⟨d, dOf ks, ks, rfl, rfl, .inl hd, ?_, PySem.W.AllAlike.of rkT_alike, PySem.W.Sortable.tuples (fun b => ⟨_, _, rfl⟩), fun x _ => by simp [rkT, PyData.depth, PyData.depthAll], fun x hx H1 Q1 h1 => ?_, fun p H' np s1 hp => ?_⟩
    · unfold dOf
      rw [List.map_map]
      rfl
    · have hxS := (hS.mem x).mp hx
      refine ⟨x, rfl, (hS.rd x hxS).1, Nat.le_trans (hS.ln x hxS) (by omega), fun p H2 np s2 hp => h1 _ _ s2 fun H3 s3 => .tup (SqT.of (s3 _ _ hp)) (.cons (.int _) (.cons (.str _) .nil))⟩
    · have e0 : PySem.W.dataLe false rkT = fun a b => !wlt b a := le_rank
      rw [e0] at hp
      have hperm := List.mergeSort_perm ks (fun a b => !wlt b a)
      refine q p H' _ np s1 hp (rises_of (sort_w (fun x : Str => x) ks) (hperm.nodup_iff.mpr hS.nd) fun x hx => ?_) (fun s => ?_) ?_
      · exact (hS.rd x ((hS.mem x).mp (hperm.mem_iff.mp hx))).1
      · rw [hperm.mem_iff]
        exact hS.mem s
      · rw [hperm.length_eq]
        exact hS.many
end
end Sf
namespace Sf
open PySem PySem.Spec PyProof.Rows L2 TL
theorem eqv_list {H : Hp} {n : Nat} {p q : Addr} {xs : List V} (hp : H p = some (.lst xs)) (hq : H q = some (.lst xs)) (hl : xs.length ≤ 100000) (hf : ∀ x ∈ xs, flat4 x = true) : Eqv H (n + 1) (.ref p) (.ref q) :=
  .inr ⟨p, q, xs, xs, rfl, rfl, .inl ⟨hp, hq⟩, rfl, hl, fun i x y hx hy => by
    have e : x = y := Option.some.inj (hx.symm.trans hy)
    subst e
    exact .flat (hf x (List.mem_of_getElem? hx))⟩
theorem eqv_two {H : Hp} {n : Nat} {p q : Addr} {a b c d : V} (hp : H p = some (.lst [a, b])) (hq : H q = some (.lst [c, d])) (h1 : Eqv H n a c) (h2 : Eqv H n b d) : Eqv H (n + 1) (.ref p) (.ref q) :=
  .inr ⟨p, q, [a, b], [c, d], rfl, rfl, .inl ⟨hp, hq⟩, rfl, by show 2 ≤ 100000; decide, fun i x y hx hy => by
    match i with
    | 0 =>
      cases hx
      cases hy
      exact h1
    | 1 =>
      cases hx
      cases hy
      exact h2
    | i + 2 => cases hx⟩
theorem eqv_ws {H : Hp} {n : Nat} {p q : Addr} {L : List Str} (hp : H p = some (.lst (L.map V.str))) (hq : H q = some (.lst (L.map V.str))) (hl : L.length ≤ 100000) : Eqv H (n + 1) (.ref p) (.ref q) :=
  eqv_list hp hq (by rw [List.length_map]; exact hl) fun x hx => by
    obtain ⟨s, _, rfl⟩ := List.mem_map.mp hx
    rfl
end Sf
namespace Sf
open PySem PySem.Spec PyProof.Rows L2 TL
/-! ### tracks of words put behind one another and undone -/
theorem glu_shortL {u v : List Nat} (hu : Sg u) (hv : Sg v) : gluT (mkS (shortL u)) (mkS (shortL v)) = mkS (shortL (u ++ v)) := by
  refine eq_mkS ?_
  rw [glu_short (short_rdc hu) (short_rdc hv), tl_mkS, tl_mkS]
  have n0 : Sg ([] : List Nat) := fun _ z => by cases z
  have r0 : RedS ([] : List Nat) := True.intro
  have e1 := runS_short r0 n0 _ u rfl hu
  unfold shortL at e1 ⊢
  rw [runS_app, runS_app, e1]
  have e2 := runS_short (runS_red (w := u) r0) (runS_sg n0 hu) _ v rfl hv
  unfold shortL at e2
  rw [e2]
theorem glu_shortT {x y : Str} (hx : Wd x) (hy : Wd y) : gluT (shortT x) (shortT y) = shortT (x ++ y) := by
  unfold shortT
  rw [glu_shortL hx hy, tl_append]
theorem short_undo {u : List Nat} (hu : Sg u) : shortL (u ++ backL u) = [] := by
  unfold shortL
  rw [runS_app, run_back (s := []) True.intro (fun _ z => by cases z) hu]
  rfl
theorem back_shortL {u : List Nat} (hu : Sg u) : backT (mkS (shortL u)) = mkS (shortL (backL u)) := by
  have ha := short_rdc hu
  have hb := short_rdc (backL_sg hu)
  have e : gluT (mkS (shortL u)) (mkS (shortL (backL u))) = Str.ofString "" := by
    rw [glu_shortL hu (backL_sg hu), short_undo hu]
    decide +kernel
  have e2 := glu_cancel ha hb
  rw [e, glu_nil] at e2
  exact e2
theorem back_shortT {x : Str} (hx : Wd x) : backT (shortT x) = shortT (backT x) := by
  unfold shortT
  rw [back_shortL hx]
  rfl
section
def joinP (S T : Str → Prop) (e : Str) : Str → Prop := fun s => S s ∨ ∃ t, T t ∧ s = gluT e t
def backP (S : Str → Prop) (e : Str) : Str → Prop := fun s => ∃ t, S t ∧ s = gluT (backT e) t
theorem spot_join {x y : Str} (hx : Wd x) (hy : Wd y) : ∀ s, joinP (spotP x) (spotP y) (shortT x) s ↔ spotP (x ++ y) s := fun s => by
  have hsx : ∀ j, Sg ((tl x).take j) := fun j c hc => hx c (List.mem_of_mem_take hc)
  have hsy : ∀ j, Sg ((tl y).take j) := fun j c hc => hy c (List.mem_of_mem_take hc)
  unfold joinP spotP
  rw [tl_append, List.length_append]
  constructor
  · rintro (⟨j, hj, rfl⟩ | ⟨t, ⟨j, hj, rfl⟩, rfl⟩)
    · exact ⟨j, by omega, by rw [List.take_append_of_le_length hj]⟩
    · refine ⟨(tl x).length + j, by omega, ?_⟩
      unfold shortT
      rw [glu_shortL hx (hsy j), List.take_append, List.take_of_length_le (l := tl x) (by omega), Nat.add_sub_cancel_left]
  · rintro ⟨i, hi, rfl⟩
    by_cases h : i ≤ (tl x).length
    · exact .inl ⟨i, h, by rw [List.take_append_of_le_length h]⟩
    · refine .inr ⟨_, ⟨i - (tl x).length, by omega, rfl⟩, ?_⟩
      unfold shortT
      rw [glu_shortL hx (hsy _), List.take_append, List.take_of_length_le (l := tl x) (by omega)]
theorem short_mid {u v : List Nat} (hu : Sg u) (hv : Sg v) : shortL (u ++ backL v ++ v) = shortL u := by
  have n0 : Sg ([] : List Nat) := fun _ z => by cases z
  unfold shortL
  rw [runS_app, runS_app]
  have h := run_back (w := backL v) (runS_red (w := u) (s := []) True.intro) (runS_sg n0 hu) (backL_sg hv)
  rw [backL_back hv] at h
  rw [h]
theorem spot_back {x : Str} (hx : Wd x) : ∀ s, backP (spotP x) (shortT x) s ↔ spotP (backT x) s := fun s => by
  have key : ∀ j, j ≤ (tl x).length → gluT (backT (shortT x)) (mkS (shortL ((tl x).take j))) = mkS (shortL ((tl (backT x)).take ((tl x).length - j))) := fun j hj => by
    have ht : Sg ((tl x).take j) := fun c hc => hx c (List.mem_of_mem_take hc)
    have hd : Sg ((tl x).drop j) := fun c hc => hx c (List.mem_of_mem_drop hc)
    have e1 : backL (tl x) = backL ((tl x).drop j) ++ backL ((tl x).take j) := by
      rw [← backL_app, List.take_append_drop]
    have e2 : (tl (backT x)).take ((tl x).length - j) = backL ((tl x).drop j) := by
      show (backL (tl x)).take _ = _
      rw [e1]
      refine List.take_left' ?_
      unfold backL
      rw [List.length_reverse, List.length_map, List.length_drop]
    rw [e2]
    unfold shortT
    rw [back_shortL hx, glu_shortL (backL_sg hx) ht, e1, short_mid (backL_sg hd) ht]
  have el : (tl (backT x)).length = (tl x).length := by
    show (backL (tl x)).length = _
    unfold backL
    rw [List.length_reverse, List.length_map]
  constructor
  · rintro ⟨t, ⟨j, hj, rfl⟩, rfl⟩
    exact ⟨(tl x).length - j, by omega, key j hj⟩
  · rintro ⟨i, hi, rfl⟩
    rw [el] at hi
    refine ⟨_, ⟨(tl x).length - i, by omega, rfl⟩, ?_⟩
    rw [key _ (by omega)]
    congr 4
    omega
end
end Sf
namespace Sf
open PySem PySem.Spec PyProof.Rows L2 TL
/-! ### == of tracks and of anything; in a list of tracks -/
section
variable {A : Around} {s : Shared}
theorem hits_dOf {ms : List Str} {vb : List (Key × Value)} (rb : KV (dOf ms) vb) : ∀ {ks : List Str} {va : List (Key × Value)}, KV (dOf ks) va → PySem.W.KeqHits A s vb va (ks.all fun s => decide (s ∈ ms))
  | [], va, ra => by
    have ra' : Paired _ [] va := ra
    cases ra'
    exact .nil
  | x :: ks, va, ra => by
    have ra' : Paired _ ((Sum.inr x, V.bl true) :: dOf ks) va := ra
    cases ra' with
    | @cons _ q _ qs h t =>
      obtain ⟨h1, h2⟩ := h
      obtain ⟨key, v⟩ := q
      have h1' : (Sum.inr x : Key) = key := h1
      subst h1'
      have ih := hits_dOf rb (show KV (dOf ks) qs from t)
      rw [List.all_cons]
      have rr := rb.val (Sum.inr x)
      by_cases hm : x ∈ ms
      · rw [val_dOf hm] at rr
        obtain ⟨y, hy, ry⟩ := rr.some_of
        rw [decide_eq_true hm]
        have e1 : v = Value.bool true := h2
        have e2 : y = Value.bool true := ry
        rw [e2] at hy
        rw [e1]
        exact .hit hy (SeqAt.EqAt.same _) ih
      · rw [val_dOf_none hm] at rr
        rw [decide_eq_false hm, Bool.false_and]
        exact .miss rr.none_of
end
section
variable {X : Cx}
theorem op_eqDS (hu : X.A.units < cLine) : OpR X (compareOp .Eq) (fun x y H Q => ∃ (a b : Addr) (ks ms : List Str), x = .ref a ∧ y = .ref b ∧ H a = some (.dK (dOf ks)) ∧ H b = some (.dK (dOf ms)) ∧ Q (.bl (ks.length == ms.length && ks.all fun s => decide (s ∈ ms))) H) := by
  intro pins s σ H x y v u Q I rx ry h
  obtain ⟨a, b, ks, ms, rfl, rfl, ea, eb, q⟩ := h
  obtain rfl : v = Value.ref a := rx
  obtain rfl : u = Value.ref b := ry
  obtain ⟨_, ya, va, ra, da⟩ := (show ObjOk X.prog X.w H s.heap a (.dK (dOf ks)) from I.hok a _ ea)
  obtain ⟨_, yb, vb, rb, db⟩ := (show ObjOk X.prog X.w H s.heap b (.dK (dOf ms)) from I.hok b _ eb)
  have l1 := ra.length
  have l2 := rb.length
  rw [dOf_len] at l1 l2
  exact PySem.W.keq_eq (knd := mixKind X.prog X.w) (r := ks.all fun s => decide (s ∈ ms)) ya yb da db hu (fun _ => hits_dOf rb ra) (fin_bl I q (by rw [l1, l2]))
end
theorem eq_sets {ks ms : List Str} (hk : ks.Nodup) (hm : ms.Nodup) : ((ks.length == ms.length && ks.all fun s => decide (s ∈ ms)) = true) ↔ ∀ s, s ∈ ks ↔ s ∈ ms := by
  rw [Bool.and_eq_true, beq_iff_eq, List.all_eq_true]
  constructor
  · rintro ⟨hl, h⟩ s
    have h1 : ∀ s ∈ ks, s ∈ ms := fun s hs => of_decide_eq_true (h s hs)
    constructor
    · exact h1 s
    · intro hs
      by_cases hc : s ∈ ks
      · exact hc
      · have h2 := nodup_le (ks := s :: ks) (ms := ms) (List.nodup_cons.mpr ⟨hc, hk⟩) fun t ht => by
          rcases List.mem_cons.mp ht with rfl | ht
          · exact hs
          · exact h1 t ht
        rw [List.length_cons] at h2
        omega
  · intro h
    exact ⟨nodup_len hk hm h, fun s hs => decide_eq_true ((h s).mp hs)⟩
section
variable {P : Program} {w : World} {K : PySem.W.Frag} {mg : Str → Option Value} {base : Heap} {C : Addr}
/-- what == of a track answers: with a track, with another thing -/
def spEqF (K : PySem.W.Frag) (C : Addr) : Sp := fun vs H Q _ => ∃ (a : Addr) (y : V) (S : Str → Prop) (e : Str) (A : Nat), vs = [.ref a, y] ∧ Trk C H a S e A ∧
  ((∃ (b : Addr) (S' : Str → Prop) (f : Str) (B : Nat), y = .ref b ∧ Trk C H b S' f B ∧ ∀ t : Bool, (t = true ↔ (∀ s, S s ↔ S' s) ∧ e = f) → Q (.bl t) H) ∨
    ∃ t : Value, TyX K H y t ∧ PySem.W.kitOne K t (.ref C) = some false ∧ Q (.bl false) H)
theorem sc_eqF : FnScope ["self", "other"] ["self", "other"] (defScope s_Track___eq__) := ⟨rfl, rfl, rfl, by decide +kernel, rfl, by decide +kernel, by decide +kernel⟩
theorem has_eqF (F : MAt K C "__eq__" "Track.__eq__" s_Track___eq__ ["self", "other"]) (T : TC K mg C) (B : Blt mg) : HasM P w K mg base C 1 "__eq__" ["self", "other"] (spEqF K C) := F.has fun F => by
  refine F.ok sc_eqF (fun vs H Q E h => ?_) (fun cdv A outer s H vs Q E hr h => ?_)
  · obtain ⟨a, y, S, e, A, rfl, _⟩ := h
    rfl
  · obtain ⟨a, y, S, e, A1, rfl, ⟨dx, d, ks, ha, hd, hS⟩, h⟩ := h
    refine ⟨_, pss_one (ps_ret (pe_and (pe_callB call_isi (by rfl) B.isinstance (by decide +kernel) (pa_cons (pv 1) (pa_cons (pe_glob (v := .ref C) (by rfl) T.mgC rfl) pa_nil)))
      (pe_and (pe_cmpR (op_eqDS hr.units0) (pe_fld (pv 0) rfl) (pe_fld (pv 1) rfl) (nomark _)) (pe_one (pe_cmpR op_eq (pe_fld (pv 0) rfl) (pe_fld (pv 1) rfl) (nomark _)))))), ?_⟩
    rcases h with ⟨b, S', f, B1, rfl, ⟨dy, d2, ms, hb, hd2, hS2⟩, q⟩ | ⟨t, ty, kf, q⟩
    · have hes := eq_sets hS.nd hS2.nd
      have hSS : (∀ s, s ∈ ks ↔ s ∈ ms) ↔ ∀ s, S s ↔ S' s := by
        constructor
        · intro h s
          rw [← hS.mem, ← hS2.mem]
          exact h s
        · intro h s
          rw [hS.mem, hS2.mem]
          exact h s
      rw [hSS] at hes
      refine ⟨_, rfl, _, _, _, _, true, rfl, .own C, .base (.ins hb T.cl T.ha T.hn T.htk T.hm), kit_self, true, rfl, iteT ?_⟩
      refine ⟨_, rfl, a, C, dx, _, _, rfl, ha, T.cl, T.nP, tf_passed _ _, _, rfl, b, C, dy, _, _, rfl, hb, T.cl, T.nP, tf_passed _ _, d, d2, _, _, rfl, rfl, hd, hd2, _, rfl, ite2 (fun h1 => ?_) (fun h1 => ?_)⟩
      · refine ⟨_, rfl, a, C, dx, _, _, rfl, ha, T.cl, T.nL, tf_last _ _, _, rfl, b, C, dy, _, _, rfl, hb, T.cl, T.nL, tf_last _ _, rfl, ?_⟩
        refine q _ ?_
        rw [decide_eq_true_eq]
        constructor
        · intro h2
          exact ⟨hes.mp h1, V.str.inj h2⟩
        · intro h2
          rw [h2.2]
      · refine q _ ?_
        constructor
        · intro h2
          cases h2
        · intro h2
          exact absurd (hes.mpr h2.1) h1
    · refine ⟨_, rfl, _, _, _, _, false, rfl, .own C, ty, kf, false, rfl, iteF q⟩
/-- within -/
def spWithinF (C : Addr) : Sp := fun vs H Q _ => ∃ (a b : Addr) (S S' : Str → Prop) (e f : Str) (A B : Nat), vs = [.ref a, .ref b] ∧ Trk C H a S e A ∧ Trk C H b S' f B ∧ B ≤ 50000 ∧ ∀ (t : Bool) (H' : Hp), Same H H' → (t = true ↔ e = f ∧ ∀ s, S' s → S s) → Q (.bl t) H'
end
section
open PySem.SeqAt
open AutoSeq1 (wpAny_loadPart')
open MeetsSeq MeetsSeq2 MeetsSeq3 SeqRoads2
variable {prog : Program} {w : World} {A : Around} {R : Result → Shared → Prop}
abbrev FinR (prog : Program) (w : World) (A : Around) (R : Result → Shared → Prop) : PySem.Fin → Shared → Prop := fun fin s' => match fin with
  | .done f => R (.ok f) s'
  | .again c' => c'.quiet = true ∧ codeAny (model prog w) A c' R s'
theorem loop_hit {l a : Addr} {items : Array Value} {n i : Nat} {s : Shared} (hl : s.heap.get? l = some { cls := .type "list", data := .seq items n }) (hi : items[((i : Nat) : Int).toNat]? = some (.ref a)) (h : R (.ok (.ret (.bool true))) s) :
    wpAny (model prog w) A.in1 (Builtin.«list.__contains__.loop» ⟨[.ref l, .ref a, rawInt i], []⟩) (FinR prog w A R) (fun e s' => R (.error e) s') s := by
  obtain ⟨hp, g, d, tk, os⟩ := s
  wp_walk using wpAny_loadPart' hl
  rw [hi]
  refine wpAny_bind (EqAt.same (.ref a) prog w _ _ ?_)
  wp_walk
  exact h
theorem loop_two {l a b : Addr} {items : Array Value} {n i : Nat} {s : Shared} (hl : s.heap.get? l = some { cls := .type "list", data := .seq items n }) (h0 : items[((i : Nat) : Int).toNat]? = some (.ref b)) (h1 : items[((i + 1 : Nat) : Int).toNat]? = some (.ref a))
    (he : wpAny (model prog w) A.in1 (eqBool (.ref b) (.ref a)) (fun _ s' => (∃ n', s'.heap.get? l = some { cls := .type "list", data := .seq items n' }) ∧ R (.ok (.ret (.bool true))) s') (fun e s' => R (.error e) s') s) :
    wpAny (model prog w) A.in1 (Builtin.«list.__contains__.loop» ⟨[.ref l, .ref a, rawInt i], []⟩) (FinR prog w A R) (fun e s' => R (.error e) s') s := by
  obtain ⟨hp, g, d, tk, os⟩ := s
  wp_walk using wpAny_loadPart' hl
  rw [h0]
  refine wpAny_bind (wpAny_mono he (fun r s2 h2 => ?_) fun _ _ x => x)
  obtain ⟨⟨n2, hl2⟩, h2⟩ := h2
  have hc : ((i : Int) + 1) = ((i + 1 : Nat) : Int) := by omega
  cases r with
  | true =>
    obtain ⟨hp2, g2, d2, tk2, os2⟩ := s2
    wp_walk
    exact h2
  | false =>
    have hrec := loop_hit (prog := prog) (w := w) (A := A) (R := R) (i := i + 1) hl2 h1 h2
    obtain ⟨hp2, g2, d2, tk2, os2⟩ := s2
    wp_walk
    rw [hc]
    exact ⟨plainId_quiet plain_contains_loop _, codeAny_builtin entry_contains_loop (by
      rw [Around.under_plainId plain_contains_loop _]
      exact hrec)⟩
theorem has_two {l a b : Addr} {items : Array Value} {n : Nat} (h0 : items[((0 : Nat) : Int).toNat]? = some (.ref b)) (h1 : items[((0 + 1 : Nat) : Int).toNat]? = some (.ref a)) : MeetsIn prog w (Builtin.«list.__contains__» ⟨[.ref l, .ref a], []⟩) (fun A R s => s.heap.get? l = some { cls := .type "list", data := .seq items n } ∧
    wpAny (model prog w) A.in1 (eqBool (.ref b) (.ref a)) (fun _ s' => (∃ n', s'.heap.get? l = some { cls := .type "list", data := .seq items n' }) ∧ R (.ok (.ret (.bool true))) s') (fun e s' => R (.error e) s') s) := by
  intro A R s h
  obtain ⟨hl, he⟩ := h
  have hrec := loop_two (prog := prog) (w := w) (A := A) (R := R) hl h0 h1 he
  obtain ⟨hp, g, d, tk, os⟩ := s
  wp_walk using wpAny_loadPart' hl
  exact ⟨plainId_quiet plain_contains_loop _, codeAny_builtin entry_contains_loop (by
    rw [Around.under_plainId plain_contains_loop _]
    exact hrec)⟩
end
section
variable {X : Cx} {k : Nat} {f C : Addr} {fd : FuncData} {ps : List Str} {sp : Sp}
/-- a == y, a of the class at C, y of another kind -/
theorem op_eqOther (F : FnOk X.prog X.w X.K X.mg X.base CX0 k f fd ps sp) (hs : PySem.W.findIn X.K (.ref C) "__eq__" = some (some (.ref f))) (hf : PySem.W.isFn X.K (.ref f) = true) (hb : Binds X.K fd ps []) (hr : Room k X.A) :
    OpR X (compareOp .Eq) (fun x y H Q => ∃ a dx fs t, x = .ref a ∧ H a = some (.ins C dx fs) ∧ TyX X.K H y t ∧ PySem.W.notFirst X.K C t = true ∧ sp [.ref a, y] H (fun v H' => ∃ t, v = .bl t ∧ Q (.bl t) H') E0) := by
  intro pins s σ H x y v u Q I rx ry h
  obtain ⟨a, dx, fs, t, rfl, ha, ty, nf, h⟩ := h
  cases rx
  obtain ⟨mA, J, _⟩ := ins_get I.hok ha
  obtain ⟨od, J, _⟩ := J.look
  obtain ⟨m, hF⟩ := I.fr
  obtain ⟨Pk, kx, pk, _⟩ := kit_of I ry ty
  refine PySem.W.cmp_K (op := .Eq) (tb := t) hr.units0 hF I.ok.mod.kin J (kx.ty _ _ I.kIn pk) nf hs hf ?_
  refine wpAny_mono (run_fnA (Er := X.xe) F hr I.env0 hb I (show Vals [V.ref a, y] [Value.ref a, u] from .cons rfl (.cons ry .nil)) h) (fun v s' hv => ?_) fun _ _ z => z
  obtain ⟨z, H', I', rz, t, rfl, q⟩ := hv
  cases rz
  exact ⟨.bl t, H', I', rfl, q⟩
/-- a in [b, a], both of the class at C -/
theorem op_inTwo (F : FnOk X.prog X.w X.K X.mg X.base CX0 k f fd ps sp) (hs : PySem.W.findIn X.K (.ref C) "__eq__" = some (some (.ref f))) (hf : PySem.W.isFn X.K (.ref f) = true) (hb : Binds X.K fd ps []) (hr : Room (k + 2) X.A) :
    OpR X (compareOp .In) (fun x y H Q => ∃ a b l dx dy fs gs, x = .ref a ∧ y = .ref l ∧ H l = some (.lst [.ref b, .ref a]) ∧ H a = some (.ins C dx fs) ∧ H b = some (.ins C dy gs) ∧ sp [.ref b, .ref a] H (fun v H' => H' = H ∧ ∃ t, v = .bl t) E0 ∧ Q (.bl true) H) := by
  intro pins s σ H x y v u Q I rx ry h
  obtain ⟨a, b, l, dx, dy, fs, gs, rfl, rfl, hl, ha, hb', h, q⟩ := h
  cases rx
  cases ry
  obtain ⟨z, its, n, rv, el⟩ := I.hok l _ hl
  obtain ⟨u1, u2, rfl, r1, r2⟩ := rv.two
  cases r1
  cases r2
  have hT : s.TypeIs (.ref l) "list" := ⟨_, el, rfl⟩
  show wpAny (model X.prog X.w) X.A (do let t ← contains (.ref l) (.ref a); pure (Value.bool t)) (EP X pins σ Q) X.xe s
  refine wpAny_bind (wpAny_contains_slot hT PySem.F.slot_list_contains (wpAny_mono (call_meetsIn PySem.F.slot_list_contains hT PySem.F.entry_list_contains (PySem.F.args_list_contains_2 _ _) (has_two (b := b) (n := n) (items := [Value.ref b, Value.ref a].toArray) rfl rfl) (Q := fun v s' => v = .bool true ∧ Inv X pins σ H s') ⟨el, ?_⟩) (fun v s' hv => ?_) fun _ _ e => e))
  · by_cases hab : b = a
    · subst hab
      exact SeqAt.EqAt.same (.ref b) X.prog X.w _ _ ⟨⟨_, el⟩, rfl, I⟩
    · refine GQ.eqBool_refG hab ?_
      obtain ⟨mA, J, _⟩ := ins_get I.hok hb'
      obtain ⟨mB, J', _⟩ := ins_get I.hok ha
      obtain ⟨od, J, _⟩ := J.look
      obtain ⟨od', J', _⟩ := J'.look
      obtain ⟨m, hF⟩ := I.fr
      refine PySem.W.cmp_K (op := .Eq) (tb := .ref C) hr.in1.units0 hF I.ok.mod.kin J J'.type (by simp [PySem.W.notFirst]) hs hf ?_
      refine wpAny_mono (run_fnA (Er := X.xe) F (hr.in1.mono (by omega)) I.env0.in1 hb I (show Vals [V.ref b, V.ref a] [Value.ref b, Value.ref a] from .cons rfl (.cons rfl .nil)) h) (fun v s' hv => ?_) fun _ _ z => z
      obtain ⟨z, H', I', rz, rfl, t, rfl⟩ := hv
      cases rz
      obtain ⟨z2, its2, n2, rv2, el2⟩ := I'.hok l _ hl
      obtain ⟨u3, u4, rfl, r3, r4⟩ := rv2.two
      cases r3
      cases r4
      exact ⟨t, rfl, ⟨n2, el2⟩, rfl, I'⟩
  · obtain ⟨rfl, I'⟩ := hv
    exact wpAny_truthy_bool (wpAny_pure ⟨.bl true, H, I', rfl, q⟩)
end
end Sf
namespace Sf
open PySem PySem.Spec PyProof.Rows L2 TL
/-! ### plain words -/
/-- a beginning of a word -/
def pre (s : Str) (j : Nat) : Str := mkS ((tl s).take j)
def cutL (s : Str) : Str := mkS (tl s).dropLast
theorem pre_all (s : Str) {j : Nat} (h : (tl s).length ≤ j) : pre s j = s := by
  unfold pre
  rw [List.take_of_length_le h, mkS_tl]
theorem pre_pre (s : Str) (i j : Nat) : pre (pre s i) j = pre s (min j i) := by
  unfold pre
  rw [tl_mkS, List.take_take]
theorem cutL_pre (s : Str) : cutL s = pre s ((tl s).length - 1) := by
  unfold cutL pre
  rw [List.dropLast_eq_take]
theorem short_pre : ∀ (w : List Nat) (i : Nat), i ≤ w.length → ∀ j, ∃ k, k ≤ i ∧ (shortL (w.take i)).take j = shortL (w.take k) := by
  intro w i
  induction i with
  | zero =>
    intro _ j
    refine ⟨0, Nat.le_refl _, ?_⟩
    rw [List.take_zero]
    show List.take j [] = []
    rw [List.take_nil]
  | succ i ih =>
    intro hi j
    have ih := ih (by omega)
    have e : w.take (i + 1) = w.take i ++ [w[i]] := by
      rw [List.take_add_one, List.getElem?_eq_getElem (by omega)]
      rfl
    have whole : ∃ k, k ≤ i + 1 ∧ shortL (w.take (i + 1)) = shortL (w.take k) := ⟨i + 1, Nat.le_refl _, rfl⟩
    rcases List.eq_nil_or_concat (shortL (w.take i)) with hn | ⟨r, z, hz⟩
    · have e2 : shortL (w.take (i + 1)) = [w[i]] := by
        rw [e, shortL_snoc, hn]
        rfl
      cases j with
      | zero =>
        obtain ⟨k, hk, h⟩ := ih 0
        exact ⟨k, by omega, by rw [List.take_zero, ← h, List.take_zero]⟩
      | succ j =>
        refine ⟨i + 1, Nat.le_refl _, ?_⟩
        rw [e2]
        simp
    · rw [List.concat_eq_append] at hz
      by_cases hf : z = flipC w[i]
      · have e2 : shortL (w.take (i + 1)) = r := by
          rw [e, shortL_snoc, hz, push_last, if_pos hf]
        obtain ⟨k, hk, h⟩ := ih (min j r.length)
        refine ⟨k, by omega, ?_⟩
        rw [e2, ← h, hz, List.take_append_of_le_length (Nat.min_le_right _ _), List.take_eq_take_min]
      · have e2 : shortL (w.take (i + 1)) = shortL (w.take i) ++ [w[i]] := by
          rw [e, shortL_snoc, hz, push_last, if_neg hf]
        by_cases hj : j ≤ (shortL (w.take i)).length
        · obtain ⟨k, hk, h⟩ := ih j
          refine ⟨k, by omega, ?_⟩
          rw [e2, List.take_append_of_le_length hj, h]
        · refine ⟨i + 1, Nat.le_refl _, ?_⟩
          refine List.take_of_length_le ?_
          rw [e2, List.length_append, List.length_singleton]
          omega
/-- each beginning of a spot is a spot -/
theorem spot_pre {x s : Str} (h : spotP x s) (j : Nat) : spotP x (pre s j) := by
  obtain ⟨i, hi, rfl⟩ := h
  obtain ⟨k, hk, e⟩ := short_pre (tl x) i hi j
  refine ⟨k, by omega, ?_⟩
  unfold pre
  rw [tl_mkS, e]
def Closed (L : List Str) : Prop := ∀ s ∈ L, ∀ j, pre s j ∈ L
abbrev nil : Str := Str.ofString ""
def tips (L : List Str) : List Str := L.filter fun s => decide (s ≠ nil) && decide (s ∉ L.map cutL)
def tips2 (L : List Str) : List Str := L.filter fun s => decide (s ≠ nil) && decide ((L.filter fun t => decide (pre t s.length = s)).length = 1)
theorem nil_of {s : Str} (h : (tl s).length = 0) : s = nil := ext_tl (by rw [tl_empty]; exact List.eq_nil_of_length_eq_zero h)
theorem pos_of {s : Str} (h : s ≠ nil) : 0 < (tl s).length := by
  rcases Nat.eq_zero_or_pos (tl s).length with h1 | h1
  · exact absurd (nil_of h1) h
  · exact h1
theorem cut_len {t s : Str} (h : cutL t = s) (hs : s ≠ nil) : (tl t).length = (tl s).length + 1 := by
  have e : (tl s).length = (tl t).length - 1 := by
    rw [← h]
    unfold cutL
    rw [tl_mkS, List.length_dropLast]
  have := pos_of hs
  omega
theorem tips_eq {L : List Str} (hc : Closed L) (hn : L.Nodup) : tips L = tips2 L := by
  unfold tips tips2
  refine List.filter_congr fun s hs => ?_
  by_cases h0 : s = nil
  · rw [decide_eq_false (fun z => z h0), Bool.false_and, Bool.false_and]
  · rw [decide_eq_true h0, Bool.true_and, Bool.true_and]
    have hself : s ∈ L.filter fun t => decide (pre t s.length = s) := List.mem_filter.mpr ⟨hs, decide_eq_true (pre_all s (by rw [len_tl]; exact Nat.le_refl _))⟩
    rw [Bool.eq_iff_iff, decide_eq_true_eq, decide_eq_true_eq]
    constructor
    · intro h
      have all : ∀ t ∈ L.filter fun t => decide (pre t s.length = s), t = s := fun t ht => by
        obtain ⟨hL, hp⟩ := List.mem_filter.mp ht
        have hp := of_decide_eq_true hp
        rw [len_tl] at hp
        by_cases hle : (tl t).length ≤ (tl s).length
        · rw [pre_all t hle] at hp
          exact hp
        · refine absurd (List.mem_map.mpr ⟨pre t ((tl s).length + 1), hc t hL _, ?_⟩) h
          rw [cutL_pre, pre_pre]
          have e : min ((tl (pre t ((tl s).length + 1))).length - 1) ((tl s).length + 1) = (tl s).length := by
            unfold pre
            rw [tl_mkS, List.length_take]
            omega
          rw [e]
          exact hp
      have hn2 : (L.filter fun t => decide (pre t s.length = s)).Nodup := hn.filter _
      match hF : L.filter (fun t => decide (pre t s.length = s)) with
      | [] => rw [hF] at hself; cases hself
      | [_] => rfl
      | a :: b :: r =>
        rw [hF] at all hn2
        have ea := all a (List.mem_cons_self ..)
        have eb := all b (List.mem_cons_of_mem _ (List.mem_cons_self ..))
        rw [ea, eb] at hn2
        exact absurd (List.mem_cons_self ..) (List.nodup_cons.mp hn2).1
    · intro h hm
      obtain ⟨t, ht, e⟩ := List.mem_map.mp hm
      have hl := cut_len e h0
      have ht2 : t ∈ L.filter fun t => decide (pre t s.length = s) := List.mem_filter.mpr ⟨ht, decide_eq_true (by
        rw [len_tl, ← e, cutL_pre]
        congr 1
        unfold pre
        rw [tl_mkS, List.length_take]
        omega)⟩
      match hF : L.filter (fun t => decide (pre t s.length = s)), h with
      | [z], _ =>
        rw [hF, List.mem_singleton] at hself ht2
        rw [ht2, ← hself] at hl
        omega
/-- the signs of a row of round ways -/
def rowL (ts : List Str) : List Nat := (ts.map fun s => tl s ++ backL (tl s)).flatten
def plainT (L : List Str) (e : Str) : Str := mkS (rowL (tips L) ++ tl e)
theorem red_pre : ∀ {a b : List Nat}, RedS (a ++ b).reverse → RedS a.reverse := fun {a b} h => by
  rw [List.reverse_append] at h
  exact h.suffix
theorem short_self {l : List Nat} (h : RedS l.reverse) : shortL l = l := by
  unfold shortL
  rw [run_of_red (s := []) (by rw [List.append_nil]; exact h), List.append_nil, List.reverse_reverse]
theorem spot_rdc {t : Str} (h : Rdc t) (s : Str) : spotP t s ↔ ∃ j, s = pre t j := by
  have key : ∀ j, shortL ((tl t).take j) = (tl t).take j := fun j => short_self (red_pre (b := (tl t).drop j) (by rw [List.take_append_drop]; exact h.2))
  constructor
  · rintro ⟨j, _, rfl⟩
    exact ⟨j, by rw [key]; rfl⟩
  · rintro ⟨j, rfl⟩
    refine ⟨min j (tl t).length, Nat.min_le_right _ _, ?_⟩
    rw [key]
    unfold pre
    rw [← List.take_eq_take_min]
theorem short_rdc_self {t : Str} (h : Rdc t) : shortT t = t := by
  unfold shortT
  rw [short_self h.2, mkS_tl]
theorem spot_round {t : Str} (h : Wd t) (s : Str) : spotP (t ++ backT t) s ↔ spotP t s := by
  have hr : Rdc (shortT t) := short_rdc h
  have hsp : ∀ r, spotP t r → Rdc r := fun r ⟨j, _, e⟩ => by
    rw [e]
    exact short_rdc fun c hc => h c (List.mem_of_mem_take hc)
  rw [← spot_join h (backT_wd h)]
  constructor
  · rintro (z | ⟨r, hr2, rfl⟩)
    · exact z
    · obtain ⟨t', ht', rfl⟩ := (spot_back h r).mpr hr2
      rw [glu_cancel2 hr (hsp t' ht')]
      exact ht'
  · exact .inl
theorem short_round {t : Str} (h : Wd t) : shortT (t ++ backT t) = nil := by
  unfold shortT
  rw [tl_append]
  show mkS (shortL (tl t ++ backL (tl t))) = nil
  rw [short_undo h]
  decide +kernel
theorem row_spots {e : Str} (he : Rdc e) : ∀ {ts : List Str}, (∀ t ∈ ts, Rdc t) → Wd (mkS (rowL ts ++ tl e)) ∧ shortT (mkS (rowL ts ++ tl e)) = e ∧ ∀ s, spotP (mkS (rowL ts ++ tl e)) s ↔ (∃ t ∈ ts, spotP t s) ∨ spotP e s
  | [], _ => by
    have e1 : mkS (rowL [] ++ tl e) = e := by
      show mkS ([] ++ tl e) = e
      rw [List.nil_append, mkS_tl]
    rw [e1]
    refine ⟨he.1, short_rdc_self he, fun s => ?_⟩
    constructor
    · exact .inr
    · rintro (⟨t, ht, _⟩ | h)
      · cases ht
      · exact h
  | t :: ts, h => by
    obtain ⟨h1, h2, h3⟩ := row_spots he fun u hu => h u (List.mem_cons_of_mem _ hu)
    have ht := h t (List.mem_cons_self ..)
    have hw : Wd (t ++ backT t) := ht.1.app (backT_wd ht.1)
    have e1 : mkS (rowL (t :: ts) ++ tl e) = (t ++ backT t) ++ mkS (rowL ts ++ tl e) := by
      refine ext_tl ?_
      rw [tl_append, tl_append, tl_mkS, tl_mkS]
      show ((tl t ++ backL (tl t)) ++ rowL ts) ++ tl e = (tl t ++ backL (tl t)) ++ (rowL ts ++ tl e)
      rw [List.append_assoc]
    rw [e1]
    refine ⟨hw.app h1, ?_, fun s => ?_⟩
    · rw [← glu_shortT hw h1, short_round ht.1, h2, nil_glu he]
    · rw [← spot_join hw h1]
      unfold joinP
      rw [short_round ht.1, spot_round ht.1]
      have hrd : ∀ r, spotP (mkS (rowL ts ++ tl e)) r → Rdc r := fun r ⟨j, _, e⟩ => by
        rw [e]
        exact short_rdc fun c hc => h1 c (List.mem_of_mem_take hc)
      constructor
      · rintro (z | ⟨r, hr, rfl⟩)
        · exact .inl ⟨t, List.mem_cons_self .., z⟩
        · rw [nil_glu (hrd r hr)]
          rcases (h3 r).mp hr with ⟨u, hu, z⟩ | z
          · exact .inl ⟨u, List.mem_cons_of_mem _ hu, z⟩
          · exact .inr z
      · rintro (⟨u, hu, z⟩ | z)
        · rcases List.mem_cons.mp hu with rfl | hu
          · exact .inl z
          · have hr := (h3 s).mpr (.inl ⟨u, hu, z⟩)
            exact .inr ⟨s, hr, (nil_glu (hrd s hr)).symm⟩
        · have hr := (h3 s).mpr (.inr z)
          exact .inr ⟨s, hr, (nil_glu (hrd s hr)).symm⟩
/-- each spot begins a tip -/
theorem to_tip {L : List Str} {n : Nat} (hl : ∀ s ∈ L, (tl s).length ≤ n) : ∀ (m : Nat) (s : Str), n - (tl s).length ≤ m → s ∈ L → s ≠ nil → ∃ t ∈ tips L, ∃ j, s = pre t j := by
  intro m
  induction m with
  | zero =>
    intro s hm hs h0
    have := hl s hs
    by_cases hc : s ∈ L.map cutL
    · obtain ⟨t, ht, e⟩ := List.mem_map.mp hc
      have h1 := cut_len e h0
      have h2 := hl t ht
      omega
    · refine ⟨s, List.mem_filter.mpr ⟨hs, by rw [decide_eq_true h0, decide_eq_true hc]; rfl⟩, (tl s).length, (pre_all s (Nat.le_refl _)).symm⟩
  | succ m ih =>
    intro s hm hs h0
    by_cases hc : s ∈ L.map cutL
    · obtain ⟨t, ht, e⟩ := List.mem_map.mp hc
      have h1 := cut_len e h0
      have h2 := hl t ht
      obtain ⟨u, hu, j, ej⟩ := ih t (by omega) ht (fun z => by rw [z, tl_empty] at h1; cases h1)
      refine ⟨u, hu, min ((tl t).length - 1) j, ?_⟩
      rw [← e, cutL_pre, ← pre_pre, ← ej]
    · refine ⟨s, List.mem_filter.mpr ⟨hs, by rw [decide_eq_true h0, decide_eq_true hc]; rfl⟩, (tl s).length, (pre_all s (Nat.le_refl _)).symm⟩
/-- the plain word has the same track -/
theorem plain_track {x : Str} {L : List Str} (hx : Wd x) (hm : ∀ s, s ∈ L ↔ spotP x s) : Wd (plainT L (shortT x)) ∧ shortT (plainT L (shortT x)) = shortT x ∧ ∀ s, spotP (plainT L (shortT x)) s ↔ spotP x s := by
  have hrd : ∀ r, spotP x r → Rdc r := fun r ⟨j, _, e⟩ => by
    rw [e]
    exact short_rdc fun c hc => hx c (List.mem_of_mem_take hc)
  have hend : spotP x (shortT x) := ⟨(tl x).length, Nat.le_refl _, by rw [List.take_length]; rfl⟩
  obtain ⟨h1, h2, h3⟩ := row_spots (short_rdc hx) (ts := tips L) fun t ht => hrd t ((hm t).mp (List.mem_filter.mp ht).1)
  refine ⟨h1, h2, fun s => ?_⟩
  show spotP (mkS (rowL (tips L) ++ tl (shortT x))) s ↔ _
  rw [show shortT x = mkS (shortL (tl x)) from rfl, h3]
  constructor
  · rintro (⟨t, ht, z⟩ | z)
    · have hL := (hm t).mp (List.mem_filter.mp ht).1
      obtain ⟨j, rfl⟩ := (spot_rdc (hrd t hL) s).mp z
      exact spot_pre hL j
    · obtain ⟨j, rfl⟩ := (spot_rdc (short_rdc hx) s).mp z
      exact spot_pre hend j
  · intro hs
    by_cases h0 : s = nil
    · refine .inr ((spot_rdc (short_rdc hx) s).mpr ⟨0, ?_⟩)
      rw [h0]
      unfold pre
      rw [List.take_zero]
      decide +kernel
    · have hb : ∀ r ∈ L, (tl r).length ≤ (tl x).length := fun r hr => by
        obtain ⟨j, hj, rfl⟩ := (hm r).mp hr
        rw [tl_mkS]
        have := shortL_len ((tl x).take j)
        rw [List.length_take] at this
        omega
      obtain ⟨t, ht, j, e⟩ := to_tip hb _ s (Nat.le_refl _) ((hm s).mpr hs) h0
      have hL := (hm t).mp (List.mem_filter.mp ht).1
      exact .inl ⟨t, ht, (spot_rdc (hrd t hL) s).mpr ⟨j, e⟩⟩
end Sf
namespace Sf
open PySem PySem.Spec PyProof.Rows L2 TL
section
variable {X : Cx} {k : Nat} {f C : Addr} {fd : FuncData} {ps : List Str} {sp : Sp}
/-! ### str(a), repr(a) of an own class -/
theorem call_strOwn (F : FnOk X.prog X.w X.K X.mg X.base CX0 k f fd ps sp) (hs : PySem.W.findIn X.K (.ref C) "__str__" = some (some (.ref f))) (hf : PySem.W.isFn X.K (.ref f) = true) (hb : Binds X.K fd ps []) (hr : Room (k + 2) X.A) :
    CallR X (.type "str") (fun xs H Q => ∃ a dx fs, xs = [.ref a] ∧ H a = some (.ins C dx fs) ∧ sp [.ref a] H (fun v H' => ∃ y : Str, v = .str y ∧ Q (.str y) H') E0) := by
  intro pins s σ H xs us Q I r h
  obtain ⟨a, dx, fs, rfl, ha, h⟩ := h
  obtain ⟨u1, rfl, r1⟩ := vals1 r
  cases r1
  obtain ⟨mA, J, _⟩ := ins_get I.hok ha
  obtain ⟨od, J, _⟩ := J.look
  refine PySem.W.kso_call hr.in1.in1.units0 I.kIn J hs hf ?_
  refine wpAny_mono (run_fnA F hr.in1.in1 I.env0.in1.in1 hb I (show Vals [V.ref a] [Value.ref a] from .cons rfl .nil) h) (fun v s' hv => ?_) fun _ _ z => z
  obtain ⟨z, H', I', rz, y, rfl, q⟩ := hv
  obtain ⟨t, rfl⟩ := rz
  exact ⟨.str y, H', I', ⟨t, rfl⟩, q⟩
theorem call_reprOwn (F : FnOk X.prog X.w X.K X.mg X.base CX0 k f fd ps sp) (hs : PySem.W.findIn X.K (.ref C) "__repr__" = some (some (.ref f))) (hf : PySem.W.isFn X.K (.ref f) = true) (hb : Binds X.K fd ps []) (hr : Room (k + 1) X.A) :
    CallR X (.builtin "repr") (fun xs H Q => ∃ a dx fs, xs = [.ref a] ∧ H a = some (.ins C dx fs) ∧ sp [.ref a] H (fun v H' => ∃ y : Str, v = .str y ∧ Q (.str y) H') E0) := by
  intro pins s σ H xs us Q I r h
  obtain ⟨a, dx, fs, rfl, ha, h⟩ := h
  obtain ⟨u1, rfl, r1⟩ := vals1 r
  cases r1
  obtain ⟨mA, J, _⟩ := ins_get I.hok ha
  obtain ⟨od, J, _⟩ := J.look
  obtain ⟨m, hF⟩ := I.fr
  refine PySem.W.repr_K hr.in1.units0 hF I.ok.mod.kin J hs hf ?_
  refine wpAny_mono (run_fnA F hr.in1 I.env0.in1 hb I (show Vals [V.ref a] [Value.ref a] from .cons rfl .nil) h) (fun v s' hv => ?_) fun _ _ z => z
  obtain ⟨z, H', I', rz, y, rfl, q⟩ := hv
  obtain ⟨t, rfl⟩ := rz
  exact ⟨.str y, H', I', ⟨t, rfl⟩, q⟩
end
theorem cut_but {s : Str} : cutS s none (some (-1)) = cutL s := by
  refine ext_tl ?_
  rw [tl_cut]
  unfold cutL
  rw [tl_mkS, HT.sIx_none, List.drop_zero, List.dropLast_eq_take, Nat.sub_zero]
  unfold HT.sIx
  dsimp only
  rw [if_pos (by decide), len_tl]
  congr 1
  omega
theorem cut_pre2 {s : Str} {n : Nat} : cutS s none (some (n : Int)) = pre s n := by
  refine ext_tl ?_
  rw [tl_cut, HT.sIx_none, HT.sIx_nat, List.drop_zero, Nat.sub_zero, len_tl]
  unfold pre
  rw [tl_mkS, ← List.take_eq_take_min]
theorem row_len {ts : List Str} {n : Nat} (h : ∀ t ∈ ts, t.length ≤ n) : (rowL ts).length ≤ ts.length * (2 * n) := by
  unfold rowL
  induction ts with
  | nil => simp
  | cons t ts ih =>
    have h1 := h t (List.mem_cons_self ..)
    have h2 := ih fun u hu => h u (List.mem_cons_of_mem _ hu)
    rw [List.map_cons, List.flatten_cons, List.length_append, List.length_append, List.length_cons, Nat.succ_mul]
    have e : (backL (tl t)).length = (tl t).length := by
      unfold backL
      rw [List.length_reverse, List.length_map]
    rw [e, ← len_tl]
    omega
theorem row_sum (ts : List Str) : ((ts.map fun t => t ++ backT t).map (·.length)).sum = (rowL ts).length := by
  unfold rowL
  induction ts with
  | nil => rfl
  | cons t ts ih =>
    rw [List.map_cons, List.map_cons, List.sum_cons, ih, List.map_cons, List.flatten_cons, List.length_append, len_app, backT_len, List.length_append]
    have e : (backL (tl t)).length = (tl t).length := by
      unfold backL
      rw [List.length_reverse, List.length_map]
    rw [e, ← len_tl]
theorem row_join (ts : List Str) : Txt.join (Str.ofString "") (ts.map fun t => t ++ backT t) = mkS (rowL ts) := by
  rw [join_tl, List.map_map]
  unfold rowL
  congr 2
  refine List.map_congr_left fun t _ => ?_
  show tl (t ++ backT t) = _
  rw [tl_append]
  rfl
section
variable {P : Program} {w : World} {K : PySem.W.Frag} {mg : Str → Option Value} {base : Heap} {C : Addr}
/-! ### plain -/
def spPlain (C : Addr) : Sp := fun vs H Q _ => ∃ (a : Addr) (S : Str → Prop) (e : Str) (A : Nat), vs = [.ref a] ∧ Trk C H a S e A ∧ A ≤ 500 ∧
  ∀ (L : List Str) (H' : Hp), Same H H' → Rises L → (∀ s, s ∈ L ↔ S s) → L.length ≤ A → (plainT L e).length ≤ 2000000 → Q (.str (plainT L e)) H'
theorem sc_plain : FnScope ["self", "begun", "spot", "tips"] ["self"] (defScope s_Track_plain) := ⟨rfl, rfl, rfl, by decide +kernel, rfl, by decide +kernel, by decide +kernel⟩
theorem has_plain (F : MAt K C "plain" "Track.plain" s_Track_plain ["self"]) (T : TC K mg C) (hO : HasM P w K mg base C 4 "spots" ["self"] (spSpots C)) (hU : HasTurned P w K mg base) : HasM P w K mg base C 5 "plain" ["self"] (spPlain C) := F.has fun F => by
  obtain ⟨fO, fdO, mO, bO, GO⟩ := hO
  obtain ⟨fU, fdU, gU, kU, bU, GU⟩ := hU
  refine F.ok sc_plain (fun vs H Q E h => ?_) (fun cdv A outer s H vs Q E hr h => ?_)
  · obtain ⟨a, S, e, A, rfl, _⟩ := h
    rfl
  · obtain ⟨a, S, e, A1, rfl, t0, hA, q⟩ := h
    obtain ⟨dx, d, ks, ha, hd, hS⟩ := id t0
    have hr1 : Room 1 _ := hr.mono (by decide)
    refine ⟨_, pss_cons (ps_set (i := 1) sc_plain.nd rfl (.inr rfl) (pe_lock (pe_dc (own := [("spot", 2)]) (g := gName 2) (tt := tYes) (by rfl) sc_plain.nd (pi_keys (pe_fld (pv 0) rfl))
        (blkOk_by (own := [("spot", 2)]) (N := ["self", "begun", "spot", "tips"]) (sc := defScope s_Track_plain) (by decide +kernel)) (fun _ _ _ _ _ => pg_name (i := 2) sc_plain.nd rfl (.inl rfl)) (fun _ _ _ _ _ => pts_nil)
        (fun _ _ _ _ _ => pe_slice sl_str (pv 2) po_none (po_some (pe_un un_neg pe_int))) (fun _ _ _ _ _ => pe_bl))))
      (pss_cons (ps_setLc (i := 3) (own := [("spot", 2)]) (g := gName 2) (by rfl) sc_plain.nd rfl rfl (sw_true rfl rfl rfl (by decide +kernel)) (pi_list (pe_meth0 (pv 0) T.cl mO GO hr bO .nil pass0))
        (blkOk_by (own := [("spot", 2)]) (N := ["self", "begun", "spot", "tips"]) (sc := defScope s_Track_plain) (by decide +kernel)) (fun _ _ _ _ _ => pg_name (i := 2) sc_plain.nd rfl (.inl rfl))
        (fun _ _ _ _ _ => pts_one (PW.pt (pw_and (pt_cmpR op_ne (pv 2) pe_str (nomark _)) (pw_and1 (pt_cmp (pc_dnotin (hu_of hr) (pv 2) (pv 1)))))))
        (fun _ _ _ _ _ => pv 2))
      (pss_one (ps_ret (pe_op op_add_str (pe_join pe_str (pe_lc (own := [("spot", 2)]) (g := gName 2) (tt := tYes) (by rfl) sc_plain.nd (pi_list (pv 3))
        (blkOk_by (own := [("spot", 2)]) (N := ["self", "begun", "spot", "tips"]) (sc := defScope s_Track_plain) (by decide +kernel)) (fun _ _ _ _ _ => pg_name (i := 2) sc_plain.nd rfl (.inl rfl)) (fun _ _ _ _ _ => pts_nil)
        (fun _ _ _ _ _ => pe_op op_add_str (pv 2) (pe_call GU hr1 (by rfl) gU kU bU .nil pass0 (pa_cons (pv 2) pa_nil))))) (pe_fld (pv 0) rfl))))), ?_⟩
    have hk := hS.many
    have nad : a ≠ d := ne_of ha hd (by intro q; cases q)
    refine ⟨d, _, hd, True.intro, fun od => ⟨_, rfl, a, C, dx, _, _, rfl, by rw [upd_ne nad]; exact ha, T.cl, T.nP, tf_passed _ _, d, od, rfl, .inl ⟨dOf ks, upd_same, fun D nD => ?_⟩⟩⟩
    have ndD : D ≠ d := fun z => by
      rw [z, upd_same] at nD
      cases nD
    have nD0 : H D = none := by
      rw [upd_ne ndD] at nD
      exact nD
    refine dc_gen (n := ks.length) (fun i H2 => ∃ bg : List Str, (∀ a o, H a = some o → a ≠ d → H2 a = some o) ∧ H2 d = some (.frz od (.dK (dOf ks))) ∧ H2 D = some (.dK (dOf bg)) ∧ (∀ s, s ∈ bg ↔ s ∈ (ks.take i).map cutL) ∧ bg.length ≤ i)
      ⟨[], fun a o h1 h2 => ?_, ?_, upd_same, fun s => by rw [List.take_zero]; exact Iff.rfl, Nat.le_refl _⟩ ?_ ?_ ?_ ?_
    · rw [upd_ne (ne_of_none h1 nD0), upd_ne h2]
      exact h1
    · rw [upd_ne ndD.symm, upd_same]
    · rintro i H2 hi ⟨bg, f2, h2, h3, _⟩
      exact ⟨h2, by rw [dOf_len]; exact hi⟩
    · rintro H2 ⟨bg, f2, h2, h3, _⟩
      exact ⟨h2, by rw [dOf_len]; exact Nat.le_refl _⟩
    · rintro i v H2 H3 hi ⟨bg, f2, h2, h3, hbg, hbl⟩ ⟨rfl, k, v', hk, rfl⟩
      have hks : ks[i]? = some ks[i] := List.getElem?_eq_getElem hi
      have ek : k = Sum.inr ks[i] := by
        unfold dOf at hk
        rw [List.getElem?_map, hks] at hk
        exact (Prod.mk.inj (Option.some.inj hk)).1.symm
      subst ek
      have hsl := hS.ln _ ((hS.mem _).mp (List.getElem_mem hi))
      refine ⟨rfl, yes_if ?_⟩
      refine ⟨_, rfl, 1, rfl, _, rfl, ks[i], rfl, line_of (by omega), ?_⟩
      rw [show cutS ks[i] none (some (-1)) = cutL ks[i] from cut_but]
      refine ⟨_, Sum.inr (cutL ks[i]), rfl, h3, ?_, addS bg (cutL ks[i]), fun a o h1 hne => ?_, ?_, ?_, fun s => ?_, ?_⟩
      · rw [dOf_len]
        exact lineLt_of (by omega)
      · rw [upd_ne (ne_of_none h1 nD0)]
        exact f2 a o h1 hne
      · rw [upd_ne ndD.symm]
        exact h2
      · rw [upd_same, put_dOf]
      · rw [addS_mem, hbg, List.take_add_one, hks, List.map_append, List.mem_append]
        exact or_congr Iff.rfl (by simp)
      · have := addS_len bg (cutL ks[i])
        omega
    · rintro H2 ⟨bg, f2, h2, h3, hbg, hbl⟩
      refine ⟨h2, ?_⟩
      rw [List.take_length] at hbg
      have s1 : Same H (upd H2 d (.dK (dOf ks))) := fun c o h1 => by
        by_cases had : c = d
        · rw [had, upd_same, ← hd, ← had]
          exact h1
        · rw [upd_ne had]
          exact f2 c o h1 had
      have hD1 : (upd H2 d (.dK (dOf ks))) D = some (.dK (dOf bg)) := by
        rw [upd_ne ndD]
        exact h3
      generalize upd H2 d (.dK (dOf ks)) = H3 at s1 hD1
      obtain ⟨dx3, d3, ks3, ha3, _⟩ := id (t0.same s1)
      refine ⟨_, rfl, a, dx3, _, rfl, ha3, tf_no _ _ (by decide +kernel) (by decide +kernel), a, S, e, A1, rfl, t0.same s1, by omega, fun p H4 L np s4 hp hR hm hL => ?_⟩
      have hbL : ∀ s, s ∈ bg ↔ s ∈ L.map cutL := fun s => by
        rw [hbg, List.mem_map, List.mem_map]
        constructor
        · rintro ⟨r, hr, z⟩
          exact ⟨r, (hm r).mpr ((hS.mem r).mp hr), z⟩
        · rintro ⟨r, hr, z⟩
          exact ⟨r, (hS.mem r).mpr ((hm r).mp hr), z⟩
      have hD4 := s4 _ _ hD1
      refine ⟨p, rfl, ⟨_, SqL.of hp⟩, fun D2 n2 => ?_⟩
      refine lc_list (K := K) (a := p) (xs := L.map V.str) (fun i H5 => Same H4 H5 ∧ H5 D2 = some (.lst (((L.take i).filter fun s => decide (s ≠ nil) && decide (s ∉ L.map cutL)).map V.str))) ⟨same_upd n2, upd_same⟩ (fun i H5 _ h => SqL.of (h.1 _ _ hp)) ?_ ?_
      · rintro i v H5 hi ⟨s5, hD2⟩
        obtain ⟨z, hz, rfl⟩ : ∃ z, L[i]? = some z ∧ v = V.str z := by
          rw [List.getElem?_map] at hi
          cases e : L[i]? with
          | none =>
            rw [e] at hi
            cases hi
          | some z =>
            rw [e] at hi
            exact ⟨z, rfl, (Option.some.inj hi).symm⟩
        have htk : ((L.take (i + 1)).filter fun s => decide (s ≠ nil) && decide (s ∉ L.map cutL)) = ((L.take i).filter fun s => decide (s ≠ nil) && decide (s ∉ L.map cutL)) ++ if (decide (z ≠ nil) && decide (z ∉ L.map cutL)) = true then [z] else [] := by
          rw [List.take_add_one, hz, List.filter_append]
          congr 1
          show List.filter _ [z] = _
          rw [List.filter_cons, List.filter_nil]
        have skip : ¬ (decide (z ≠ nil) && decide (z ∉ L.map cutL)) = true → Same H4 H5 ∧ H5 D2 = some (.lst (((L.take (i + 1)).filter fun s => decide (s ≠ nil) && decide (s ∉ L.map cutL)).map V.str)) := fun h => by
          rw [htk, if_neg h, List.append_nil]
          exact ⟨s5, hD2⟩
        refine ⟨rfl, _, rfl, rfl, _, rfl, ite2 (fun h0 => ?_) (fun h0 => ?_)⟩
        · have hz0 : z ≠ nil := fun q => by
            rw [q] at h0
            simp at h0
          refine ⟨_, rfl, _, rfl, D, _, rfl, .inl ⟨dOf bg, Sum.inr z, .inl (s5 _ _ hD4), rfl, rfl⟩, _, rfl, ?_⟩
          by_cases hin : z ∈ bg
          · rw [val_dOf hin]
            refine iteF (skip fun h => ?_)
            rw [Bool.and_eq_true] at h
            exact of_decide_eq_true h.2 ((hbL z).mp hin)
          · rw [val_dOf_none hin]
            have hy : (decide (z ≠ nil) && decide (z ∉ L.map cutL)) = true := by
              have hq : z ∉ L.map cutL := fun q => hin ((hbL z).mpr q)
              rw [decide_eq_true hz0, decide_eq_true hq]
              rfl
            refine iteT ⟨_, rfl, _, hD2, ?_, fun c o e => ?_, ?_⟩
            · rw [List.length_map]
              refine lineLt_of (Nat.le_trans (List.length_filter_le _ _) ?_)
              rw [List.length_take]
              omega
            · rw [upd_ne (ne_of_none e n2)]
              exact s5 _ _ e
            · rw [upd_same, htk, if_pos hy, List.map_append]
              rfl
        · refine iteF (skip fun h => ?_)
          rw [Bool.and_eq_true] at h
          refine h0 ?_
          have hz0 := of_decide_eq_true h.1
          have : ¬ V.str z = V.str (Str.ofString "") := fun q => hz0 (V.str.inj q)
          simpa using this
      · rintro H5 ⟨s5, hD2⟩
        rw [List.length_map, List.take_length] at hD2
        have hD2 : H5 D2 = some (.lst ((tips L).map V.str)) := hD2
        have htl : ∀ t ∈ tips L, Wd t ∧ t.length ≤ 500 := fun t ht => by
          have := (hm t).mp (List.mem_filter.mp ht).1
          exact ⟨(hS.rd t this).1, Nat.le_trans (hS.ln t this) hA⟩
        have hcnt : (tips L).length ≤ 500 := Nat.le_trans (List.length_filter_le _ _) (by omega)
        refine ⟨⟨_, rfl⟩, _, rfl, D2, rfl, ⟨_, SqL.of hD2⟩, fun D3 n3 => ?_⟩
        refine lc_list (K := K) (a := D2) (xs := (tips L).map V.str) (fun i H6 => Same H5 H6 ∧ H6 D3 = some (.lst ((((tips L).take i).map fun t => t ++ backT t).map V.str))) ⟨same_upd n3, upd_same⟩ (fun i H6 _ h => SqL.of (h.1 _ _ hD2)) ?_ ?_
        · rintro i v H6 hi ⟨s6, hD3⟩
          obtain ⟨z, hz, rfl⟩ : ∃ z, (tips L)[i]? = some z ∧ v = V.str z := by
            rw [List.getElem?_map] at hi
            cases e : (tips L)[i]? with
            | none =>
              rw [e] at hi
              cases hi
            | some z =>
              rw [e] at hi
              exact ⟨z, rfl, (Option.some.inj hi).symm⟩
          obtain ⟨hz1, hz2⟩ := htl z (List.mem_of_getElem? hz)
          have hbz := backT_len z
          refine ⟨rfl, yes_if ?_⟩
          refine ⟨_, rfl, _, rfl, z, rfl, hz1, by omega, _, _, rfl, rfl, line_of (by omega), _, hD3, ?_, fun c o e => ?_, ?_⟩
          · rw [List.length_map, List.length_map, List.length_take]
            exact lineLt_of (by omega)
          · rw [upd_ne (ne_of_none e n3)]
            exact s6 _ _ e
          · rw [upd_same, List.take_add_one, hz, List.map_append, List.map_append]
            rfl
        · rintro H6 ⟨s6, hD3⟩
          rw [List.length_map, List.take_length] at hD3
          have hrl := row_len fun t ht => (htl t ht).2
          have hrl2 : (rowL (tips L)).length ≤ 500000 := Nat.le_trans hrl (Nat.le_trans (Nat.mul_le_mul_right _ hcnt) (by decide))
          refine ⟨_, D3, (tips L).map fun t => t ++ backT t, rfl, rfl, .inl (SqL.of hD3), ?_, ?_⟩
          · rw [row_sum, len_empty]
            omega
          rw [row_join]
          have s06 := ((s1.trans s4).trans s5).trans s6
          have le := hS.le
          refine ⟨_, rfl, a, C, dx, _, _, rfl, s06 _ _ ha, T.cl, T.nL, tf_last _ _, _, _, rfl, rfl, ?_, ?_⟩
          · rw [mkS_len]
            exact Nat.le_trans (by omega : _ ≤ 1000000) (by decide)
          · have ep : mkS (rowL (tips L)) ++ e = plainT L e := ext_tl (by rw [tl_append]; rfl)
            rw [ep]
            refine q L H6 s06 hR hm hL ?_
            rw [← ep, len_app, mkS_len]
            omega
/-! ### __str__, __repr__ -/
theorem sc_str : FnScope ["self"] ["self"] (defScope s_Track___str__) := ⟨rfl, rfl, rfl, by decide +kernel, rfl, by decide +kernel, by decide +kernel⟩
theorem has_str (F : MAt K C "__str__" "Track.__str__" s_Track___str__ ["self"]) (T : TC K mg C) (B : Blt mg) (hO : HasM P w K mg base C 5 "plain" ["self"] (spPlain C)) : HasM P w K mg base C 6 "__str__" ["self"] (spPlain C) := F.has fun F => by
  obtain ⟨fO, fdO, mO, bO, GO⟩ := hO
  refine F.ok sc_str (fun vs H Q E h => ?_) (fun cdv A outer s H vs Q E hr h => ?_)
  · obtain ⟨a, S, e, A, rfl, _⟩ := h
    rfl
  · obtain ⟨a, S, e, A1, rfl, t0, hA, q⟩ := h
    obtain ⟨dx, d, ks, ha, hd, hS⟩ := id t0
    exact ⟨_, pss_one (ps_ret (pe_callTy SkE.call_str_str (by rfl) B.str (by decide +kernel) (pa_cons (pe_meth0 (pv 0) T.cl mO GO hr bO .nil pass0) pa_nil))), _, rfl, a, dx, _, rfl, ha, tf_no _ _ (by decide +kernel) (by decide +kernel), a, S, e, A1, rfl, t0, hA, fun L H' s1 hR hm hL hz => ⟨_, rfl, q L H' s1 hR hm hL hz⟩⟩
end
end Sf
namespace Sf
open PySem PySem.Spec PyProof.Rows L2 TL
section
variable {X : Cx}
/-! ### name = {k: v for ..} on one line, the name a local -/
theorem ps_setDc {i : Nat} {y : Str} {py : Pos} {kx vx tg iter : Expr} {ifs : List Expr} {scope : Scope} {own : List (Str × Nat)} {pos spos : Pos} {wi : TI} {g : TG} {tt : TT} {tk tv : TE} (hc : X.calm = true) (hN : X.N.Nodup) (hy : X.N[i]? = some y) (hyl : X.env.scope.names.lookup y = some .local)
    (hsw : swapsWith (.DictComp kx vx [⟨tg, iter, ifs, 0⟩] scope pos) (some (.Name y py)) spos.line X.env = pure true) (hi : PI X tg iter wi) (ok : BlkOk X.N X.env.scope scope own)
    (hg : ∀ (s : Shared) (H : Hp) (C : Addr) (cl : List (Str × Addr)) (fp : List Addr), PG (X.blk s H scope (compEnvC scope cl C X.env) fp) tg g) (ht : ∀ (s : Shared) (H : Hp) (C : Addr) (cl : List (Str × Addr)) (fp : List Addr), PTs (X.blk s H scope (compEnvC scope cl C X.env) fp) ifs tt)
    (hk : ∀ (s : Shared) (H : Hp) (C : Addr) (cl : List (Str × Addr)) (fp : List Addr), PE (X.blk s H scope (compEnvC scope cl C X.env) fp) kx tk)
    (he : ∀ (s : Shared) (H : Hp) (C : Addr) (cl : List (Str × Addr)) (fp : List Addr), PE (X.blk s H scope (compEnvC scope cl C X.env) fp) vx tv) (hs : ∀ x, foldedSetIterable iter X.env x = pure x := by intro _; rfl) :
    PS X (.Assign [.Name y py] (.DictComp kx vx [⟨tg, iter, ifs, 0⟩] scope pos) spos) (tAsg (tDc wi g tt tk tv (own.map (·.2))) (gName i)) := by
  refine ⟨fun pins s σ H D I h => ?_⟩
  rw [exec_Assign_Name_used _ _ _ _ hsw]
  refine wpAny_bind (wpAny_standAt (wpAny_bind ?_))
  show wpAny _ X.A (do let _ ← comprehension (.DictComp kx vx [⟨tg, iter, ifs, 0⟩] scope pos) scope X.env (firstIterPos [⟨tg, iter, ifs, 0⟩] pos) newDict false (eval iter X.env) (some (assign (.Name y py) X.env))) _ _ s
  have h : tDc wi g tt tk tv (own.map (·.2)) σ H (fun x H1 => gName i x σ H1 D.nx) := h
  refine wpAny_bind (thn (dc_core (Qf := fun _ s' => SP X pins D .next s') hc hN I hi ok hg ht hk he hs h fun L C s' m H' I' q hn f => ?_) fun _ s' hq => wpAny_pure (wpAny_pure hq))
  show wpAny _ _ (assign (.Name y py) X.env (.ref L)) _ _ _
  refine wpAny_assign_Name (store_ok2 (v := V.ref L) I' hN hy (.inl hyl) rfl (fun s2 I2 ⟨a, sb, ha⟩ => ?_) (.inr hyl))
  obtain ⟨f0, f1, f2, f3, f4, f5⟩ := f
  have haC : C ≠ a := by
    rcases ha with z | z
    · rw [z]; exact f1
    · exact fun e => f4 y a z e.symm
  refine ⟨m, hn.sameBut sb haC, fun h3 sb3 => ?_⟩
  exact ⟨_, H', I2.turned (t' := s2.toks) (fun b o hb e => (sb3.2 b hb).trans e) f0 f1 f3 f4 f5, q⟩
theorem swD_true {kx vx : Expr} {gs : List Comprehension} {scope : Scope} {pos py : Pos} {y : Str} {l : Nat} {env : Env} (hk : env.scope.kind = .function) (hy : env.scope.names.lookup y = some .local) (hl : (py.line == pos.line) = true)
    (ha : (scope.names.any fun (n, k) => n == y && (k == .local || k == .cell)) = false) : swapsWith (.DictComp kx vx gs scope pos) (some (.Name y py)) l env = pure true := by
  have ky : env.kindOf y = some .local := hy
  have hb : env.blockKind = .function := by unfold Env.blockKind; rw [hk]; rfl
  unfold swapsWith
  simp only [hb, ky, ha, Expr.pos, hl]
  rfl
end
end Sf
namespace Sf
open PySem PySem.Spec PyProof.Rows L2 TL
/-! ### the readings, step by step -/
theorem pe_gS {X : Cx} {x z : Str} {t : Tok} {pos : Pos} (hg : Gl X x) (hm : X.mg x = some (.str z t)) (hd : (x == ("__debug__" : Str)) = false := by decide) : PE X (.Name x pos) (tC (.str z)) := pe_glob (v := .str z) hg hm ⟨t, rfl⟩ hd
theorem pe_gI {X : Cx} {x : Str} {z : Int} {t : Tok} {pos : Pos} (hg : Gl X x) (hm : X.mg x = some (.int z t)) (hd : (x == ("__debug__" : Str)) = false := by decide) : PE X (.Name x pos) (tC (.int z)) := pe_glob (v := .int z) hg hm ⟨t, rfl⟩ hd
/-- a new object at p -/
structure Nw (p : Addr) (H H1 : Hp) : Prop where
  nn : H p = none
  off : ∀ a, a ≠ p → H1 a = H a
/-- all but what stands at p is as it was -/
def Of (p : Addr) (H H1 : Hp) : Prop := ∀ a, a ≠ p → H1 a = H a
theorem Nw.at {p a : Addr} {H H1 : Hp} {o : HO} (n : Nw p H H1) (h : H a = some o) : H1 a = some o := by
  rw [n.off a (ne_of_none h n.nn)]
  exact h
theorem Nw.same {p : Addr} {H H1 : Hp} (n : Nw p H H1) : Same H H1 := fun _ _ h => n.at h
theorem Nw.ne {p a : Addr} {H H1 : Hp} {o : HO} (n : Nw p H H1) (h : H a = some o) : a ≠ p := ne_of_none h n.nn
theorem _root_.L2.Same.at {a : Addr} {H H1 : Hp} {o : HO} (n : Same H H1) (h : H a = some o) : H1 a = some o := n _ _ h
theorem Of.at {p a : Addr} {H H1 : Hp} {o : HO} (n : Of p H H1) (ne : a ≠ p) (h : H a = some o) : H1 a = some o := by
  rw [n a ne]
  exact h
theorem Fx.at {b a : Addr} {H H1 : Hp} {o : HO} (n : Fx b H H1) (ne : a ≠ b) (h : H a = some o) : H1 a = some o := n _ _ h ne
theorem Nw.mk' {p : Addr} {H : Hp} {o : HO} (h : H p = none) : Nw p H (upd H p o) := ⟨h, fun _ n => upd_ne n⟩
theorem _root_.L2.Same.off {p : Addr} {H H1 H2 : Hp} (s : Same H H1) (o : Of p H1 H2) (n : H p = none) : Same H H2 := fun a u h => o.at (ne_of_none h n) (s _ _ h)
theorem _root_.L2.Same.nw {p : Addr} {H H1 H2 : Hp} (s : Same H H1) (o : Nw p H1 H2) : Same H H2 := s.trans o.same
theorem Of.mk' {p : Addr} {H : Hp} {o : HO} : Of p H (upd H p o) := fun _ n => upd_ne n
theorem Bag.nw {H H1 : Hp} {b l p : Addr} (h : Bag H b l) (n : Nw p H H1) : Bag H1 b l := h.same n.same
theorem Bag.off {H H1 : Hp} {b l p : Addr} (h : Bag H b l) (n1 : p ≠ b) (n2 : p ≠ l) (o : Of p H H1) : Bag H1 b l := by
  obtain ⟨ns, k, z, r, h⟩ := h
  exact ⟨ns, k, z, r, o.at n1.symm h.hb, o.at n2.symm h.hl, h.k0, h.z0, h.r0, h.r1⟩
theorem Fx.nw {b p : Addr} {H H1 H2 : Hp} (f : Fx b H H1) (n : Nw p H1 H2) : Fx b H H2 := f.same n.same
theorem Fx.off {b p : Addr} {H H1 H2 : Hp} (f : Fx b H H1) (o : Of p H1 H2) (n : H p = none) : Fx b H H2 := fun a u e hb => o.at (ne_of_none e n) (f a u e hb)
section
variable {σ : L2.St} {H : Hp} {Q : VK} {D : Ends} {K : PySem.W.Frag}
theorem w_var {i : Nat} {v : V} (h : σ[i]? = some (some v)) (q : Q v H) : tVar i σ H Q := ⟨v, h, q⟩
theorem w_c {v : V} (q : Q v H) : tC v σ H Q := q
theorem w_op {r : R2} {ta tb : TE} (q : ta σ H fun x H1 => tb σ H1 fun y H2 => r x y H2 Q) : tOp r ta tb σ H Q := q
theorem w_un {r : V → Hp → VK → Prop} {ta : TE} (q : ta σ H fun x H1 => r x H1 Q) : tUn r ta σ H Q := q
theorem w_i0 {g : Int → Int → V} {i j : Int} (q : Q (g i j) H) : rI0 g (.int i) (.int j) H Q := ⟨i, j, rfl, rfl, q⟩
theorem w_i {C : Int → Int → Prop} {g : Int → Int → V} {i j : Int} (c : C i j) (q : Q (g i j) H) : rI C g (.int i) (.int j) H Q := ⟨i, j, rfl, rfl, c, q⟩
theorem w_u {g : Int → V} {i : Int} (q : Q (g i) H) : rU g (.int i) H Q := ⟨i, rfl, q⟩
theorem dec_int (i j : Int) : decide (V.int i = V.int j) = decide (i = j) := by
  by_cases h : i = j
  · subst h; simp
  · rw [decide_eq_false h, decide_eq_false (fun e => h (V.int.inj e))]
theorem dec_str (i j : Str) : decide (V.str i = V.str j) = decide (i = j) := by
  by_cases h : i = j
  · subst h; simp
  · rw [decide_eq_false h, decide_eq_false (fun e => h (V.str.inj e))]
theorem dec_bl (i j : Bool) : decide (V.bl i = V.bl j) = decide (i = j) := by
  by_cases h : i = j
  · subst h; simp
  · rw [decide_eq_false h, decide_eq_false (fun e => h (V.bl.inj e))]
theorem w_eqI {i j : Int} (q : Q (.bl (decide (i = j))) H) : rEq (.int i) (.int j) H Q := ⟨rfl, by rw [dec_int]; exact q⟩
theorem w_neI {i j : Int} (q : Q (.bl (!decide (i = j))) H) : rNe (.int i) (.int j) H Q := ⟨rfl, by rw [dec_int]; exact q⟩
theorem w_eqS {i j : Str} (q : Q (.bl (decide (i = j))) H) : rEq (.str i) (.str j) H Q := ⟨rfl, by rw [dec_str]; exact q⟩
theorem w_neS {i j : Str} (q : Q (.bl (!decide (i = j))) H) : rNe (.str i) (.str j) H Q := ⟨rfl, by rw [dec_str]; exact q⟩
theorem w_eqB {i j : Bool} (q : Q (.bl (decide (i = j))) H) : rEq (.bl i) (.bl j) H Q := ⟨rfl, by rw [dec_bl]; exact q⟩
theorem w_neB {i j : Bool} (q : Q (.bl (!decide (i = j))) H) : rNe (.bl i) (.bl j) H Q := ⟨rfl, by rw [dec_bl]; exact q⟩
/-! texts -/
def rAddStr : R2 := fun x y H Q => ∃ i j, x = .str i ∧ y = .str j ∧ i.length + j.length ≤ sizeLine ∧ Q (.str (i ++ j)) H
theorem op_addS {X : Cx} : OpR X (binaryOp .Add) rAddStr := op_add_str
theorem w_addS {i j : Str} (h : i.length + j.length ≤ sizeLine) (q : Q (.str (i ++ j)) H) : rAddStr (.str i) (.str j) H Q := ⟨i, j, rfl, rfl, h, q⟩
def rInSign : R2 := fun x y H Q => ∃ (c : Nat) (z : Str), x = .str ⟨#[c]⟩ ∧ y = .str z ∧ Q (.bl (decide (c ∈ z.cps.toList))) H
theorem op_inSg {X : Cx} : OpR X (compareOp .In) rInSign := op_in_sign
theorem w_inSg {c : Nat} {z : Str} (q : Q (.bl (decide (c ∈ z.cps.toList))) H) : rInSign (.str (one c)) (.str z) H Q := ⟨c, z, rfl, rfl, q⟩
def rNotInSign : R2 := fun x y H Q => ∃ (c : Nat) (z : Str), x = .str ⟨#[c]⟩ ∧ y = .str z ∧ Q (.bl (!decide (c ∈ z.cps.toList))) H
theorem op_notInSg {X : Cx} : OpR X (compareOp .NotIn) rNotInSign := op_notIn_sign
theorem w_notInSg {c : Nat} {z : Str} (q : Q (.bl (!decide (c ∈ z.cps.toList))) H) : rNotInSign (.str (one c)) (.str z) H Q := ⟨c, z, rfl, rfl, q⟩
def rIsNone : R2 := fun x y H Q => y = .non ∧ Q (.bl (decide (x = .non))) H
theorem op_isNn {X : Cx} : OpR X (compareOp .Is) rIsNone := op_isN
theorem w_isN {x : V} (q : Q (.bl (decide (x = .non))) H) : rIsNone x .non H Q := ⟨rfl, q⟩
theorem w_isNI {i : Int} (q : Q (.bl false) H) : rIsNone (.int i) .non H Q := ⟨rfl, by rw [decide_eq_false (fun z => nomatch z)]; exact q⟩
theorem w_isNN (q : Q (.bl true) H) : rIsNone .non .non H Q := ⟨rfl, by rw [decide_eq_true rfl]; exact q⟩
def rNotNone : R2 := fun x y H Q => y = .non ∧ Q (.bl (!decide (x = .non))) H
theorem op_notNn {X : Cx} : OpR X (compareOp .IsNot) rNotNone := op_notN
theorem w_notN {x : V} (q : Q (.bl (!decide (x = .non))) H) : rNotNone x .non H Q := ⟨rfl, q⟩
theorem w_notNI {i : Int} (q : Q (.bl true) H) : rNotNone (.int i) .non H Q := ⟨rfl, by rw [decide_eq_false (fun z => nomatch z)]; exact q⟩
theorem w_notNN (q : Q (.bl false) H) : rNotNone .non .non H Q := ⟨rfl, by rw [decide_eq_true rfl]; exact q⟩
theorem w_slS {z : Str} {lo hi : Option Int} (h : z.length ≤ sizeLine) (q : Q (.str (cutS z lo hi)) H) : rSlS (.str z) lo hi H Q := ⟨z, rfl, h, q⟩
theorem w_sl {r : V → Option Int → Option Int → Hp → VK → Prop} {te : TE} {tl th : TO} (q : te σ H fun x H1 => tl σ H1 fun l H2 => th σ H2 fun u H3 => r x l u H3 Q) : tSl r te tl th σ H Q := q
theorem w_nopart {Q : Option Int → Hp → Prop} (q : Q none H) : tNoPart σ H Q := q
def kPart (Q : Option Int → Hp → Prop) : VK := fun x H1 => ∃ i, x = .int i ∧ Q (some i) H1
theorem w_part {t : TE} {Q : Option Int → Hp → Prop} (q : t σ H (kPart Q)) : tPart t σ H Q := q
theorem w_kpart {i : Int} {Q : Option Int → Hp → Prop} (q : Q (some i) H) : kPart Q (.int i) H := ⟨i, rfl, q⟩
theorem w_ixS {z : Str} {i : Int} {c : Nat} (hl : z.length ≤ sizeLine) (h : atI z.cps.toList i = some c) (q : Q (.str (one c)) H) : rIxS (.str z) (.int i) H Q := ⟨z, i, c, rfl, rfl, hl, h, q⟩
theorem w_ixL {p : Addr} {xs : List V} {i : Int} {v : V} (h : H p = some (.lst xs)) (e : atI xs i = some v) (q : Q v H) : rIxL K (.ref p) (.int i) H Q := ⟨p, xs, i, v, rfl, rfl, SqL.of h, e, q⟩
theorem w_ixT {p : Addr} {xs : List V} {i : Int} {v : V} (h : H p = some (.tup xs)) (e : atI xs i = some v) (q : Q v H) : rIxT K (.ref p) (.int i) H Q := ⟨p, xs, i, v, rfl, rfl, SqT.of h, e, q⟩
/-! truth -/
def kB (Q : Bool → Hp → Prop) : VK := fun x H' => ∃ k, x = .bl k ∧ Q k H'
theorem w_test {t : TE} {Q : Bool → Hp → Prop} (q : t σ H (kB Q)) : tTest t σ H Q := q
theorem w_tB {t : TE} {Q : Bool → Hp → Prop} (q : t σ H (kB Q)) : tB t σ H Q := q
theorem w_kB {c : Bool} {Q : Bool → Hp → Prop} (q : Q c H) : kB Q (.bl c) H := ⟨c, rfl, q⟩
def kAnd (u : TT) (σ : L2.St) (Q : Bool → Hp → Prop) : Bool → Hp → Prop := fun c H1 => if c = true then u σ H1 Q else Q false H1
theorem w_and {t u : TT} {Q : Bool → Hp → Prop} (q : t σ H (kAnd u σ Q)) : tAnd t u σ H Q := q
theorem w_andT {u : TT} {Q : Bool → Hp → Prop} (q : u σ H Q) : kAnd u σ Q true H := iteT q
theorem w_andF {u : TT} {Q : Bool → Hp → Prop} (q : Q false H) : kAnd u σ Q false H := iteF q
theorem w_and2 {p : Prop} [Decidable p] {u : TT} {Q : Bool → Hp → Prop} (h1 : p → u σ H Q) (h2 : ¬ p → Q false H) : kAnd u σ Q (decide p) H :=
  ite2 (fun e => h1 (of_decide_eq_true e)) fun e => h2 fun z => e (decide_eq_true z)
theorem w_andN2 {p : Prop} [Decidable p] {u : TT} {Q : Bool → Hp → Prop} (h1 : ¬ p → u σ H Q) (h2 : p → Q false H) : kAnd u σ Q (!decide p) H := by
  by_cases h : p
  · rw [decide_eq_true h]; exact iteF (h2 h)
  · rw [decide_eq_false h]; exact iteT (h1 h)
theorem w_andB {b : Bool} {u : TT} {Q : Bool → Hp → Prop} (h1 : b = true → u σ H Q) (h2 : b = false → Q false H) : kAnd u σ Q b H := by
  cases b with
  | true => exact iteT (h1 rfl)
  | false => exact iteF (h2 rfl)
def kOr (u : TT) (σ : L2.St) (Q : Bool → Hp → Prop) : Bool → Hp → Prop := fun c H1 => if c = true then Q true H1 else u σ H1 Q
theorem w_or {t u : TT} {Q : Bool → Hp → Prop} (q : t σ H (kOr u σ Q)) : tOr t u σ H Q := q
theorem w_orT {u : TT} {Q : Bool → Hp → Prop} (q : Q true H) : kOr u σ Q true H := iteT q
theorem w_orF {u : TT} {Q : Bool → Hp → Prop} (q : u σ H Q) : kOr u σ Q false H := iteF q
theorem w_or2 {p : Prop} [Decidable p] {u : TT} {Q : Bool → Hp → Prop} (h1 : p → Q true H) (h2 : ¬ p → u σ H Q) : kOr u σ Q (decide p) H :=
  ite2 (fun e => h1 (of_decide_eq_true e)) fun e => h2 fun z => e (decide_eq_true z)
theorem w_orN2 {p : Prop} [Decidable p] {u : TT} {Q : Bool → Hp → Prop} (h1 : ¬ p → Q true H) (h2 : p → u σ H Q) : kOr u σ Q (!decide p) H := by
  by_cases h : p
  · rw [decide_eq_true h]; exact iteF (h2 h)
  · rw [decide_eq_false h]; exact iteT (h1 h)
theorem w_orB {b : Bool} {u : TT} {Q : Bool → Hp → Prop} (h1 : b = true → Q true H) (h2 : b = false → u σ H Q) : kOr u σ Q b H := by
  cases b with
  | true => exact iteT (h1 rfl)
  | false => exact iteF (h2 rfl)
def kNot (Q : Bool → Hp → Prop) : Bool → Hp → Prop := fun c H1 => Q (!c) H1
theorem w_not {t : TT} {Q : Bool → Hp → Prop} (q : t σ H (kNot Q)) : tNot t σ H Q := q
theorem w_kNot {c : Bool} {Q : Bool → Hp → Prop} (q : Q (!c) H) : kNot Q c H := q
theorem w_kNotT {Q : Bool → Hp → Prop} (q : Q false H) : kNot Q true H := q
theorem w_kNotF {Q : Bool → Hp → Prop} (q : Q true H) : kNot Q false H := q
theorem w_kNotN {p : Prop} [Decidable p] {Q : Bool → Hp → Prop} (q : Q (decide p) H) : kNot Q (!decide p) H := by
  show Q (!!decide p) H
  rw [Bool.not_not]
  exact q
/-! truth as values -/
def kAndV (tb : TE) (σ : L2.St) (Q : VK) : VK := fun x H1 => ∃ c, x = .bl c ∧ if c = true then tb σ H1 Q else Q (.bl false) H1
theorem w_andV {ta tb : TE} (q : ta σ H (kAndV tb σ Q)) : tAndV ta tb σ H Q := q
theorem w_andVT {tb : TE} (q : tb σ H Q) : kAndV tb σ Q (.bl true) H := ⟨true, rfl, iteT q⟩
theorem w_andVF {tb : TE} (q : Q (.bl false) H) : kAndV tb σ Q (.bl false) H := ⟨false, rfl, iteF q⟩
theorem w_andV2 {p : Prop} [Decidable p] {tb : TE} (h1 : p → tb σ H Q) (h2 : ¬ p → Q (.bl false) H) : kAndV tb σ Q (.bl (decide p)) H :=
  ⟨_, rfl, ite2 (fun e => h1 (of_decide_eq_true e)) fun e => h2 fun z => e (decide_eq_true z)⟩
theorem w_andVB {b : Bool} {tb : TE} (h1 : b = true → tb σ H Q) (h2 : b = false → Q (.bl false) H) : kAndV tb σ Q (.bl b) H := by
  cases b with
  | true => exact w_andVT (h1 rfl)
  | false => exact w_andVF (h2 rfl)
def kOrV (tb : TE) (σ : L2.St) (Q : VK) : VK := fun x H1 => ∃ c, x = .bl c ∧ if c = true then Q (.bl true) H1 else tb σ H1 Q
theorem w_orV {ta tb : TE} (q : ta σ H (kOrV tb σ Q)) : tOrV ta tb σ H Q := q
theorem w_orVB {b : Bool} {tb : TE} (h1 : b = true → Q (.bl true) H) (h2 : b = false → tb σ H Q) : kOrV tb σ Q (.bl b) H := by
  cases b with
  | true => exact ⟨true, rfl, iteT (h1 rfl)⟩
  | false => exact ⟨false, rfl, iteF (h2 rfl)⟩
def kNotV (Q : VK) : VK := fun x H1 => ∃ c, x = .bl c ∧ Q (.bl (!c)) H1
theorem w_notV {ta : TE} (q : ta σ H (kNotV Q)) : tNotV ta σ H Q := q
theorem w_kNotV {c : Bool} (q : Q (.bl (!c)) H) : kNotV Q (.bl c) H := ⟨c, rfl, q⟩
theorem w_kNotVF (q : Q (.bl true) H) : kNotV Q (.bl false) H := ⟨false, rfl, q⟩
theorem w_kNotVT (q : Q (.bl false) H) : kNotV Q (.bl true) H := ⟨true, rfl, q⟩
def kIfE (ta tb : TE) (σ : L2.St) (Q : VK) : Bool → Hp → Prop := fun c H1 => if c = true then ta σ H1 Q else tb σ H1 Q
theorem w_ifE {t : TT} {ta tb : TE} (q : t σ H (kIfE ta tb σ Q)) : tIf t ta tb σ H Q := q
theorem w_ifET {ta tb : TE} (q : ta σ H Q) : kIfE ta tb σ Q true H := iteT q
theorem w_ifEF {ta tb : TE} (q : tb σ H Q) : kIfE ta tb σ Q false H := iteF q
theorem w_ifE2 {p : Prop} [Decidable p] {ta tb : TE} (h1 : p → ta σ H Q) (h2 : ¬ p → tb σ H Q) : kIfE ta tb σ Q (decide p) H :=
  ite2 (fun e => h1 (of_decide_eq_true e)) fun e => h2 fun z => e (decide_eq_true z)
theorem w_ifEN2 {p : Prop} [Decidable p] {ta tb : TE} (h1 : ¬ p → ta σ H Q) (h2 : p → tb σ H Q) : kIfE ta tb σ Q (!decide p) H := by
  by_cases h : p
  · rw [decide_eq_true h]; exact iteF (h2 h)
  · rw [decide_eq_false h]; exact iteT (h1 h)
theorem w_ifEB {b : Bool} {ta tb : TE} (h1 : b = true → ta σ H Q) (h2 : b = false → tb σ H Q) : kIfE ta tb σ Q b H := by
  cases b with
  | true => exact iteT (h1 rfl)
  | false => exact iteF (h2 rfl)
def kChain (r' : R2) (tc : TE) (y : V) (σ : L2.St) (Q : VK) : VK := fun z H3 => ∃ k, z = .bl k ∧ (if k = true then tc σ H3 fun w' H4 => r' y w' H4 Q else Q (.bl false) H3)
theorem w_chain {r r' : R2} {ta tb tc : TE} (q : ta σ H fun x H1 => tb σ H1 fun y H2 => r x y H2 (kChain r' tc y σ Q)) : tChain r r' ta tb tc σ H Q := q
theorem w_chain2 {p : Prop} [Decidable p] {r' : R2} {tc : TE} {y : V} (h1 : p → tc σ H fun w' H4 => r' y w' H4 Q) (h2 : ¬ p → Q (.bl false) H) : kChain r' tc y σ Q (.bl (decide p)) H :=
  ⟨_, rfl, ite2 (fun e => h1 (of_decide_eq_true e)) fun e => h2 fun z => e (decide_eq_true z)⟩
/-! arguments, displays -/
theorem w_nil {Q : List V → Hp → Prop} (q : Q [] H) : tNil σ H Q := q
theorem w_cons {ta : TE} {tr : TA} {Q : List V → Hp → Prop} (q : ta σ H fun x H1 => tr σ H1 fun xs H2 => Q (x :: xs) H2) : tCons ta tr σ H Q := q
def kNewL (Q : VK) : List V → Hp → Prop := fun xs H1 => xs.length ≤ sizeLine ∧ ∀ p, H1 p = none → Q (.ref p) (upd H1 p (.lst xs))
def kNewT (Q : VK) : List V → Hp → Prop := fun xs H1 => xs.length ≤ sizeLine ∧ ∀ p, H1 p = none → Q (.ref p) (upd H1 p (.tup xs))
theorem w_lst {t : TA} (q : t σ H (kNewL Q)) : tLst t σ H Q := q
theorem w_tup {t : TA} (q : t σ H (kNewT Q)) : tTup t σ H Q := q
theorem w_newL {xs : List V} (hl : xs.length ≤ sizeLine) (k : ∀ p H1, H1 p = some (.lst xs) → Nw p H H1 → Q (.ref p) H1) : kNewL Q xs H := ⟨hl, fun _ n => k _ _ upd_same (.mk' n)⟩
theorem w_newT {xs : List V} (hl : xs.length ≤ sizeLine) (k : ∀ p H1, H1 p = some (.tup xs) → Nw p H H1 → Q (.ref p) H1) : kNewT Q xs H := ⟨hl, fun _ n => k _ _ upd_same (.mk' n)⟩
theorem w_slL {p : Addr} {xs : List V} {lo hi : Option Int} (h : H p = some (.lst xs)) (k : ∀ q H1, H1 q = some (.lst (cutV xs lo hi)) → Nw q H H1 → Q (.ref q) H1) : rSlL K (.ref p) lo hi H Q :=
  ⟨p, xs, rfl, SqL.of h, fun _ n => k _ _ upd_same (.mk' n)⟩
theorem w_cat {l b : Addr} {xs zs : List V} (h1 : H l = some (.lst xs)) (h2 : H b = some (.lst zs)) (hl : xs.length + zs.length ≤ sizeLine) (k : ∀ q H1, H1 q = some (.lst (xs ++ zs)) → Nw q H H1 → Q (.ref q) H1) : rCat (.ref l) (.ref b) H Q :=
  ⟨l, b, xs, zs, rfl, rfl, h1, h2, hl, fun _ n => k _ _ upd_same (.mk' n)⟩
/-! calls -/
theorem w_cb {r : List V → Hp → VK → Prop} {t : TA} (q : t σ H fun vs H1 => r vs H1 Q) : tCB r t σ H Q := q
theorem w_call {sp : Sp} {dvs : List V} {E : XK} {t : TA} (q : t σ H fun vs H1 => sp (vs ++ dvs) H1 Q E) : tCall sp dvs E t σ H Q := q
def kMeth (C : Addr) (m : Str) (sp : Sp) (dvs : List V) (E : XK) (t : TA) (σ : L2.St) (Q : VK) : VK := fun x H1 => ∃ a dx fs, x = .ref a ∧ H1 a = some (.ins C dx fs) ∧ fs.lookup m = none ∧ t σ H1 fun vs H2 => sp (x :: (vs ++ dvs)) H2 Q E
theorem w_meth {C : Addr} {m : Str} {sp : Sp} {dvs : List V} {E : XK} {ta : TE} {t : TA} (q : ta σ H (kMeth C m sp dvs E t σ Q)) : tMeth C m sp dvs E ta t σ H Q := q
theorem w_kMeth {C a dx : Addr} {fs : List (Str × V)} {m : Str} {sp : Sp} {dvs : List V} {E : XK} {t : TA} (h : H a = some (.ins C dx fs)) (hm : fs.lookup m = none) (q : t σ H fun vs H2 => sp (.ref a :: (vs ++ dvs)) H2 Q E) : kMeth C m sp dvs E t σ Q (.ref a) H := ⟨a, dx, fs, rfl, h, hm, q⟩
def kMake (C : Addr) (sp : Sp) (dvs : List V) (E : XK) (Q : VK) : List V → Hp → Prop := fun vs H1 => ∀ x dx, H1 x = none → H1 dx = none → dx ≠ x →
  sp (.ref x :: (vs ++ dvs)) (upd (upd H1 dx (.own x)) x (.ins C dx [])) (fun v H2 => v = .non ∧ Q (.ref x) H2) E
theorem w_make {C : Addr} {sp : Sp} {dvs : List V} {E : XK} {t : TA} (q : t σ H (kMake C sp dvs E Q)) : tMake C sp dvs E t σ H Q := q
def kFld (K : PySem.W.Frag) (f : Str) (Q : VK) : VK := fun x H1 => ∃ a C dx fs v, x = .ref a ∧ H1 a = some (.ins C dx fs) ∧ Cls K C ∧ NoAttr K C f ∧ fs.lookup f = some v ∧ Q v H1
theorem w_fld {ta : TE} {f : Str} (q : ta σ H (kFld K f Q)) : tFld K ta f σ H Q := q
theorem w_kFld {a C dx : Addr} {fs : List (Str × V)} {f : Str} {v : V} (h : H a = some (.ins C dx fs)) (c : Cls K C) (n : NoAttr K C f) (e : fs.lookup f = some v) (q : Q v H) : kFld K f Q (.ref a) H := ⟨a, C, dx, fs, v, rfl, h, c, n, e, q⟩
def rLenSeq (K : PySem.W.Frag) : List V → Hp → VK → Prop := fun xs H Q => ∃ p ys, xs = [.ref p] ∧ (SqL K H p ys ∨ SqT K H p ys) ∧ Q (.int ys.length) H
theorem call_lenQ {X : Cx} : CallR X (.builtin "len") (rLenSeq X.K) := call_len_seq
theorem w_lenL {p : Addr} {ys : List V} (h : H p = some (.lst ys)) (q : Q (.int ys.length) H) : rLenSeq K [.ref p] H Q := ⟨p, ys, rfl, .inl (SqL.of h), q⟩
theorem w_lenT {p : Addr} {ys : List V} (h : H p = some (.tup ys)) (q : Q (.int ys.length) H) : rLenSeq K [.ref p] H Q := ⟨p, ys, rfl, .inr (SqT.of h), q⟩
def rLenStr : List V → Hp → VK → Prop := fun xs H Q => ∃ z, xs = [.str z] ∧ z.length ≤ sizeLine ∧ Q (.int z.length) H
theorem call_lenS {X : Cx} : CallR X (.builtin "len") rLenStr := call_len_str
theorem w_lenS {z : Str} (h : z.length ≤ sizeLine) (q : Q (.int z.length) H) : rLenStr [.str z] H Q := ⟨z, rfl, h, q⟩
def rLenDct : List V → Hp → VK → Prop := fun xs H Q => ∃ a kvs, xs = [V.ref a] ∧ H a = some (.dK kvs) ∧ Q (.int kvs.length) H
theorem call_lenDc {X : Cx} : CallR X (.builtin "len") rLenDct := call_lenD
theorem w_lenD {p : Addr} {kvs : List (Key × V)} (h : H p = some (.dK kvs)) (q : Q (.int kvs.length) H) : rLenDct [.ref p] H Q := ⟨p, kvs, rfl, h, q⟩
def rMin2 : List V → Hp → VK → Prop := fun xs H Q => ∃ i j, xs = [.int i, .int j] ∧ Q (.int (if j < i then j else i)) H
theorem call_min2N {X : Cx} (hc : X.calm = true) : CallR X (.builtin "min") rMin2 := call_min2 hc
theorem w_min2 {i j : Int} (q : Q (.int (if j < i then j else i)) H) : rMin2 [.int i, .int j] H Q := ⟨i, j, rfl, q⟩
def rMax2 : List V → Hp → VK → Prop := fun xs H Q => ∃ i j, xs = [.int i, .int j] ∧ Q (.int (if j > i then j else i)) H
theorem call_max2N {X : Cx} (hc : X.calm = true) : CallR X (.builtin "max") rMax2 := call_max2 hc
theorem w_max2 {i j : Int} (q : Q (.int (if j > i then j else i)) H) : rMax2 [.int i, .int j] H Q := ⟨i, j, rfl, q⟩
def rListOf (K : PySem.W.Frag) : List V → Hp → VK → Prop := fun xs H Q => ∃ p ys, xs = [.ref p] ∧ (SqL K H p ys ∨ SqT K H p ys) ∧ ∀ l, H l = none → Q (.ref l) (upd H l (.lst ys))
theorem call_listO {X : Cx} : CallR X (.type "list") (rListOf X.K) := call_list_of
theorem w_listL {p : Addr} {ys : List V} (h : H p = some (.lst ys)) (k : ∀ l H1, H1 l = some (.lst ys) → Nw l H H1 → Q (.ref l) H1) : rListOf K [.ref p] H Q := ⟨p, ys, rfl, .inl (SqL.of h), fun _ n => k _ _ upd_same (.mk' n)⟩
theorem w_listT {p : Addr} {ys : List V} (h : H p = some (.tup ys)) (k : ∀ l H1, H1 l = some (.lst ys) → Nw l H H1 → Q (.ref l) H1) : rListOf K [.ref p] H Q := ⟨p, ys, rfl, .inr (SqT.of h), fun _ n => k _ _ upd_same (.mk' n)⟩
def rTupOf (K : PySem.W.Frag) : List V → Hp → VK → Prop := fun xs H Q => ∃ p ys, xs = [.ref p] ∧ ((SqL K H p ys ∧ ∀ l, H l = none → Q (.ref l) (upd H l (.tup ys))) ∨ (SqT K H p ys ∧ Q (.ref p) H))
theorem call_tupO {X : Cx} : CallR X (.type "tuple") (rTupOf X.K) := call_tuple_of
theorem w_tupL {p : Addr} {ys : List V} (h : H p = some (.lst ys)) (k : ∀ l H1, H1 l = some (.tup ys) → Nw l H H1 → Q (.ref l) H1) : rTupOf K [.ref p] H Q := ⟨p, ys, rfl, .inl ⟨SqL.of h, fun _ n => k _ _ upd_same (.mk' n)⟩⟩
theorem w_all {p : Addr} {bs : List Bool} (h : H p = some (.lst (bs.map V.bl))) (q : Q (.bl (bs.all id)) H) : rAll K [.ref p] H Q := ⟨p, bs, rfl, SqL.of h, q⟩
theorem w_any {p : Addr} {bs : List Bool} (h : H p = some (.lst (bs.map V.bl))) (q : Q (.bl (bs.any id)) H) : rAny K [.ref p] H Q := ⟨p, bs, rfl, SqL.of h, q⟩
theorem w_isi_int_int {i : Int} (q : Q (.bl true) H) : rIsi K [(.int i), .ty "int"] H Q := ⟨_, _, _, _, true, rfl, .ty "int", .base (.int i), kit_ty (by decide +kernel), q⟩
theorem w_isi_int_bool {i : Int} (q : Q (.bl false) H) : rIsi K [(.int i), .ty "bool"] H Q := ⟨_, _, _, _, false, rfl, .ty "bool", .base (.int i), kit_ty (by decide +kernel), q⟩
theorem w_isi_int_str {i : Int} (q : Q (.bl false) H) : rIsi K [(.int i), .ty "str"] H Q := ⟨_, _, _, _, false, rfl, .ty "str", .base (.int i), kit_ty (by decide +kernel), q⟩
theorem w_isi_str_int {i : Str} (q : Q (.bl false) H) : rIsi K [(.str i), .ty "int"] H Q := ⟨_, _, _, _, false, rfl, .ty "int", .base (.str i), kit_ty (by decide +kernel), q⟩
theorem w_isi_str_bool {i : Str} (q : Q (.bl false) H) : rIsi K [(.str i), .ty "bool"] H Q := ⟨_, _, _, _, false, rfl, .ty "bool", .base (.str i), kit_ty (by decide +kernel), q⟩
theorem w_isi_str_str {i : Str} (q : Q (.bl true) H) : rIsi K [(.str i), .ty "str"] H Q := ⟨_, _, _, _, true, rfl, .ty "str", .base (.str i), kit_ty (by decide +kernel), q⟩
theorem w_isi_bool_int {i : Bool} (q : Q (.bl true) H) : rIsi K [(.bl i), .ty "int"] H Q := ⟨_, _, _, _, true, rfl, .ty "int", .base (.bl i), kit_ty (by decide +kernel), q⟩
theorem w_isi_bool_bool {i : Bool} (q : Q (.bl true) H) : rIsi K [(.bl i), .ty "bool"] H Q := ⟨_, _, _, _, true, rfl, .ty "bool", .base (.bl i), kit_ty (by decide +kernel), q⟩
theorem w_isi_bool_str {i : Bool} (q : Q (.bl false) H) : rIsi K [(.bl i), .ty "str"] H Q := ⟨_, _, _, _, false, rfl, .ty "str", .base (.bl i), kit_ty (by decide +kernel), q⟩
theorem w_isi_NoneType_int  (q : Q (.bl false) H) : rIsi K [.non, .ty "int"] H Q := ⟨_, _, _, _, false, rfl, .ty "int", .base .non, kit_ty (by decide +kernel), q⟩
theorem w_isi_NoneType_str  (q : Q (.bl false) H) : rIsi K [.non, .ty "str"] H Q := ⟨_, _, _, _, false, rfl, .ty "str", .base .non, kit_ty (by decide +kernel), q⟩
theorem w_isi_NoneType_bool  (q : Q (.bl false) H) : rIsi K [.non, .ty "bool"] H Q := ⟨_, _, _, _, false, rfl, .ty "bool", .base .non, kit_ty (by decide +kernel), q⟩
/-! methods of lists, texts -/
def kBM (K : PySem.W.Frag) (T : String) (r : V → List V → Hp → VK → Prop) (t : TA) (σ : L2.St) (Q : VK) : VK := fun x H1 => tyV K T x H1 ∧ t σ H1 fun xs H2 => r x xs H2 Q
theorem w_bm {T : String} {r : V → List V → Hp → VK → Prop} {to : TE} {t : TA} (q : to σ H (kBM K T r t σ Q)) : tBM K T r to t σ H Q := q
theorem w_bm0 {T : String} {r : V → List V → Hp → VK → Prop} {to : TE} (q : to σ H (kBM K T r tNil σ Q)) : tBM0 K T r to σ H Q := q
theorem w_kbmL {p : Addr} {xs : List V} {r : V → List V → Hp → VK → Prop} {t : TA} (h : H p = some (.lst xs)) (q : t σ H fun xs H2 => r (.ref p) xs H2 Q) : kBM K "list" r t σ Q (.ref p) H := ⟨.inl ⟨rfl, _, SqL.of h⟩, q⟩
theorem w_append {p : Addr} {xs : List V} {v : V} (h : H p = some (.lst xs)) (hl : xs.length < sizeLine) (k : ∀ H1, H1 p = some (.lst (xs ++ [v])) → Of p H H1 → Q .non H1) : rAppend (.ref p) [v] H Q := ⟨p, xs, v, rfl, rfl, h, hl, k _ upd_same .mk'⟩
theorem perm_erase {α : Type} : ∀ (l : List α) (i : Nat) (h : i < l.length), l.Perm (l[i] :: l.eraseIdx i)
  | x :: r, 0, _ => by exact .refl _
  | x :: r, i + 1, h => by
    have ih := perm_erase r i (by simpa using h)
    exact (ih.cons x).trans (.swap _ _ _)
theorem w_popV {p : Addr} {xs : List V} {i : Int} (h : H p = some (.lst xs)) (h0 : 0 ≤ i) (h1 : i < xs.length) (hz : xs.length ≤ 100000) (k : ∀ x ys H1, xs.Perm (x :: ys) → H1 p = some (.lst ys) → Of p H H1 → Q x H1) : rPopAt (.ref p) [.int i] H Q := by
  have hi : i.toNat < xs.length := by omega
  refine ⟨p, xs, i, i.toNat, xs[i.toNat], rfl, rfl, h, by omega, by omega, ?_, List.getElem?_eq_getElem hi, k _ (xs.eraseIdx i.toNat) _ (perm_erase xs _ hi) upd_same .mk'⟩
  unfold seqIndex?
  simp only [if_neg (show ¬ i < 0 by omega), Bool.and_eq_true, decide_eq_true_eq]
  rw [if_pos ⟨h0, h1⟩]
theorem erase_map {α β : Type} (f : α → β) : ∀ (l : List α) (i : Nat), (l.map f).eraseIdx i = (l.eraseIdx i).map f
  | [], _ => rfl
  | x :: r, 0 => rfl
  | x :: r, i + 1 => by
    show f x :: (r.map f).eraseIdx i = f x :: (r.eraseIdx i).map f
    rw [erase_map f r i]
theorem w_popI {p : Addr} {ns : List Int} {i : Int} (h : H p = some (.lst (ns.map V.int))) (h0 : 0 ≤ i) (h1 : i < ns.length) (hz : ns.length ≤ 100000) (k : ∀ x ms H1, ns.Perm (x :: ms) → H1 p = some (.lst (ms.map V.int)) → Of p H H1 → Q (.int x) H1) : rPopAt (.ref p) [.int i] H Q := by
  have hi : i.toNat < ns.length := by omega
  have e : (ns.map V.int)[i.toNat]? = some (.int ns[i.toNat]) := by rw [List.getElem?_map, List.getElem?_eq_getElem hi]; rfl
  refine ⟨p, _, i, i.toNat, .int ns[i.toNat], rfl, rfl, h, by omega, by omega, ?_, e, k _ (ns.eraseIdx i.toNat) _ (perm_erase ns _ hi) ?_ .mk'⟩
  · unfold seqIndex?
    simp only [if_neg (show ¬ i < 0 by omega), Bool.and_eq_true, decide_eq_true_eq, List.length_map]
    rw [if_pos ⟨h0, h1⟩]
  · rw [upd_same, erase_map]
theorem w_clear {p : Addr} {xs : List V} (h : H p = some (.lst xs)) (k : ∀ H1, H1 p = some (.lst []) → Of p H H1 → Q .non H1) : rClear (.ref p) [] H Q := ⟨p, xs, rfl, rfl, h, k _ upd_same .mk'⟩
def kM0 (r : V → List V → Hp → VK → Prop) (Q : VK) : VK := fun x H1 => (∃ a, x = .str a) ∧ r x [] H1 Q
theorem w_m0 {r : V → List V → Hp → VK → Prop} {to : TE} (q : to σ H (kM0 r Q)) : tM0 r to σ H Q := q
theorem w_kM0 {r : V → List V → Hp → VK → Prop} {x : Str} (q : r (.str x) [] H Q) : kM0 r Q (.str x) H := ⟨⟨x, rfl⟩, q⟩
def kM1 (r : V → List V → Hp → VK → Prop) (te : TE) (σ : L2.St) (Q : VK) : VK := fun x H1 => (∃ a, x = .str a) ∧ te σ H1 fun y H2 => r x [y] H2 Q
theorem w_m1 {r : V → List V → Hp → VK → Prop} {to te : TE} (q : to σ H (kM1 r te σ Q)) : tM1 r to te σ H Q := q
theorem w_kM1 {r : V → List V → Hp → VK → Prop} {te : TE} {x : Str} (q : te σ H fun y H2 => r (.str x) [y] H2 Q) : kM1 r te σ Q (.str x) H := ⟨⟨x, rfl⟩, q⟩
/-! methods of texts, by name -/
def rUpper : V → List V → Hp → VK → Prop := fun x xs H Q => ∃ a, x = .str a ∧ xs = [] ∧ a.length ≤ 5592405 ∧ Q (.str (Txt.upper a)) H
theorem mt_upN {X : Cx} : MtR X "str.upper" rUpper := mt_upper
theorem w_upper {a : Str} (h : a.length ≤ 5592405) (q : Q (.str (Txt.upper a)) H) : rUpper (.str a) [] H Q := ⟨a, rfl, rfl, h, q⟩
theorem w_up1 {c : Nat} (h : 97 ≤ c ∧ c ≤ 104) (q : Q (.str (one (c - 32))) H) : rUpper (.str (one c)) [] H Q := ⟨_, rfl, rfl, by rw [len_one]; decide, by rw [upper_one h]; exact q⟩
def rLower : V → List V → Hp → VK → Prop := fun x xs H Q => ∃ a, x = .str a ∧ xs = [] ∧ a.length ≤ 5592405 ∧ Q (.str (Txt.lower a)) H
theorem mt_loN {X : Cx} : MtR X "str.lower" rLower := mt_lower
theorem w_lower {a : Str} (h : a.length ≤ 5592405) (q : Q (.str (Txt.lower a)) H) : rLower (.str a) [] H Q := ⟨a, rfl, rfl, h, q⟩
theorem w_lo1 {c : Nat} (h : 65 ≤ c ∧ c ≤ 72) (q : Q (.str (one (c + 32))) H) : rLower (.str (one c)) [] H Q := ⟨_, rfl, rfl, by rw [len_one]; decide, by rw [lower_one h]; exact q⟩
def rSwap : V → List V → Hp → VK → Prop := fun x xs H Q => ∃ a, x = .str a ∧ xs = [] ∧ a.length ≤ 5592405 ∧ Q (.str (Txt.swapcase a)) H
theorem pe_swapN {X : Cx} {o : Expr} {to : TE} {apos pos : Pos} (ho : PE X o to) (hbase : attributeBase o "swapcase" X.env (eval o X.env) = eval o X.env := by rfl) (hline : (apos.endLine == pos.line) = true := by rfl) : PE X (.Call (.Attribute o "swapcase" apos) [] [] pos) (tM0 rSwap to) := pe_swapcase ho hbase hline
theorem w_swap {a : Str} (hw : Wd a) (h : a.length ≤ 5592405) (q : Q (.str (flipS a)) H) : rSwap (.str a) [] H Q := ⟨a, rfl, rfl, h, by rw [swap_wd hw]; exact q⟩
theorem w_swap1 {c : Nat} (hc : sgn c = true) (q : Q (.str (one (flipC c))) H) : rSwap (.str (one c)) [] H Q := w_swap (wd_one hc) (by rw [len_one]; decide) q
theorem w_revS {te : TE} (q : te σ H fun x H1 => ∃ z, x = .str z ∧ z.length ≤ sizeLine ∧ Q (.str (revS z)) H1) : tRevS te σ H Q := q
def rJoin (K : PySem.W.Frag) : V → List V → Hp → VK → Prop := fun x xs H Q => ∃ a p, ∃ ys : List Str, x = .str a ∧ xs = [.ref p] ∧ (SqL K H p (ys.map V.str) ∨ SqT K H p (ys.map V.str)) ∧ (ys.map (·.length)).sum + ys.length * a.length ≤ 16777216 ∧ Q (.str (Txt.join a ys)) H
theorem mt_joinN {X : Cx} : MtR X "str.join" (rJoin X.K) := mt_join
theorem w_join {a : Str} {p : Addr} {ys : List Str} (h : H p = some (.lst (ys.map V.str))) (hl : (ys.map (·.length)).sum + ys.length * a.length ≤ 16777216) (q : Q (.str (Txt.join a ys)) H) : rJoin K (.str a) [.ref p] H Q := ⟨a, p, ys, rfl, rfl, .inl (SqL.of h), hl, q⟩
def rStarts : V → List V → Hp → VK → Prop := fun x xs H Q => ∃ a b, x = .str a ∧ xs = [.str b] ∧ Q (.bl (Txt.startswith a b)) H
theorem mt_startN {X : Cx} : MtR X "str.startswith" rStarts := mt_startswith
theorem w_starts {a b : Str} (q : Q (.bl (Txt.startswith a b)) H) : rStarts (.str a) [.str b] H Q := ⟨a, b, rfl, rfl, q⟩
def rEnds : V → List V → Hp → VK → Prop := fun x xs H Q => ∃ a b, x = .str a ∧ xs = [.str b] ∧ Q (.bl (Txt.endswith a b)) H
theorem mt_endN {X : Cx} : MtR X "str.endswith" rEnds := mt_endswith
theorem w_ends {a b : Str} (q : Q (.bl (Txt.endswith a b)) H) : rEnds (.str a) [.str b] H Q := ⟨a, b, rfl, rfl, q⟩
def rMulStr : R2 := fun x y H Q => ∃ (a : Str) (n : Int), x = .str a ∧ y = .int n ∧ 0 ≤ n ∧ n ≤ 1000 ∧ a.length ≤ 1000 ∧ Q (.str (Txt.mul a n)) H
theorem op_mulS {X : Cx} : OpR X (binaryOp .Mult) rMulStr := op_mul_str
theorem w_mulS {a : Str} {n : Int} (h0 : 0 ≤ n) (h1 : n ≤ 1000) (h2 : a.length ≤ 1000) (q : Q (.str (Txt.mul a n)) H) : rMulStr (.str a) (.int n) H Q := ⟨a, n, rfl, rfl, h0, h1, h2, q⟩
/-! dicts -/
def kDGet (x y : V) (Q : VK) : Hp → Prop := fun H2 => ∃ a v, x = .ref a ∧ DGet H2 a y (some v) ∧ Q v H2
theorem w_dget {td ty : TE} (q : td σ H fun x H1 => ty σ H1 fun y H2 => kDGet x y Q H2) : tDGet td ty σ H Q := q
theorem w_kDGetI {a : Addr} {kvs : List (Key × V)} {i : Int} {v : V} (h : H a = some (.dK kvs)) (e : valV kvs (Sum.inl i) = some v) (q : Q v H) : kDGet (.ref a) (.int i) Q H := ⟨a, v, rfl, by rw [← e]; exact DGet.k (k := Sum.inl i) h, q⟩
theorem w_kDGetS {a : Addr} {kvs : List (Key × V)} {i : Str} {v : V} (h : H a = some (.dK kvs)) (e : valV kvs (Sum.inr i) = some v) (q : Q v H) : kDGet (.ref a) (.str i) Q H := ⟨a, v, rfl, by rw [← e]; exact DGet.k (k := Sum.inr i) h, q⟩
def kDIn (y x : V) (Q : VK) : Hp → Prop := fun H2 => ∃ a o, x = .ref a ∧ DGet H2 a y o ∧ Q (.bl o.isSome) H2
theorem w_din {ty td : TE} (q : ty σ H fun y H1 => td σ H1 fun x H2 => kDIn y x Q H2) : tDIn ty td σ H Q := q
theorem w_kDInI {a : Addr} {kvs : List (Key × V)} {i : Int} (h : H a = some (.dK kvs)) (q : Q (.bl (valV kvs (Sum.inl i)).isSome) H) : kDIn (.int i) (.ref a) Q H := ⟨a, _, rfl, DGet.k (k := Sum.inl i) h, q⟩
theorem w_kDInS {a : Addr} {kvs : List (Key × V)} {i : Str} (h : H a = some (.dK kvs)) (q : Q (.bl (valV kvs (Sum.inr i)).isSome) H) : kDIn (.str i) (.ref a) Q H := ⟨a, _, rfl, DGet.k (k := Sum.inr i) h, q⟩
def kDNotIn (y x : V) (Q : VK) : Hp → Prop := fun H2 => ∃ a o, x = .ref a ∧ DGet H2 a y o ∧ Q (.bl (!o.isSome)) H2
theorem w_dnotin {ty td : TE} (q : ty σ H fun y H1 => td σ H1 fun x H2 => kDNotIn y x Q H2) : tDNotIn ty td σ H Q := q
theorem w_kDNotInI {a : Addr} {kvs : List (Key × V)} {i : Int} (h : H a = some (.dK kvs)) (q : Q (.bl (!(valV kvs (Sum.inl i)).isSome)) H) : kDNotIn (.int i) (.ref a) Q H := ⟨a, _, rfl, DGet.k (k := Sum.inl i) h, q⟩
theorem w_kDNotInS {a : Addr} {kvs : List (Key × V)} {i : Str} (h : H a = some (.dK kvs)) (q : Q (.bl (!(valV kvs (Sum.inr i)).isSome)) H) : kDNotIn (.str i) (.ref a) Q H := ⟨a, _, rfl, DGet.k (k := Sum.inr i) h, q⟩
def kDGet1 (ty : TE) (σ : L2.St) (Q : VK) : VK := fun x H1 => ∃ a, x = .ref a ∧ IsD H1 a ∧ ty σ H1 fun y H2 => ∃ o, DGet H2 a y o ∧ Q (o.getD .non) H2
def kDGet1b (a : Addr) (Q : VK) : VK := fun y H2 => ∃ o, DGet H2 a y o ∧ Q (o.getD .non) H2
theorem w_dget1 {td ty : TE} (q : td σ H (kDGet1 ty σ Q)) : tDGet1 td ty σ H Q := q
theorem w_kDGet1 {a : Addr} {kvs : List (Key × V)} {ty : TE} (h : H a = some (.dK kvs)) (q : ty σ H (kDGet1b a Q)) : kDGet1 ty σ Q (.ref a) H := ⟨a, rfl, .inl ⟨kvs, .of h⟩, q⟩
theorem w_kDGet1I {a : Addr} {kvs : List (Key × V)} {i : Int} (h : H a = some (.dK kvs)) (q : Q ((valV kvs (Sum.inl i)).getD .non) H) : kDGet1b a Q (.int i) H := ⟨_, DGet.k (k := Sum.inl i) h, q⟩
theorem w_kDGet1S {a : Addr} {kvs : List (Key × V)} {i : Str} (h : H a = some (.dK kvs)) (q : Q ((valV kvs (Sum.inr i)).getD .non) H) : kDGet1b a Q (.str i) H := ⟨_, DGet.k (k := Sum.inr i) h, q⟩
theorem w_dnewK (k : ∀ p H1, H1 p = some (.dK []) → Nw p H H1 → Q (.ref p) H1) : tDNewK σ H Q := fun _ n => k _ _ upd_same (.mk' n)
def kDPut (n : L2.St → Hp → Prop) (σ : L2.St) (x y v : V) : Hp → Prop := fun H3 => ∃ a H4, x = .ref a ∧ DPut H3 a y v H4 ∧ n σ H4
theorem w_sdput {td ty tv : TE} {n : L2.St → Hp → Prop} {rt : VK} {bk ct : L2.St → Hp → Prop} (q : tv σ H fun v H1 => td σ H1 fun x H2 => ty σ H2 fun y H3 => kDPut n σ x y v H3) : sDPut td ty tv ⟨n, rt, bk, ct⟩ σ H := q
theorem w_kDPutI {a : Addr} {kvs : List (Key × V)} {i : Int} {v : V} {n : L2.St → Hp → Prop} (h : H a = some (.dK kvs)) (hl : kvs.length < sizeLine) (k : ∀ H1, H1 a = some (.dK (putK kvs (Sum.inl i) v)) → Of a H H1 → n σ H1) : kDPut n σ (.ref a) (.int i) v H := ⟨a, _, rfl, DPut.k (k := Sum.inl i) h hl, k _ upd_same .mk'⟩
theorem w_kDPutS {a : Addr} {kvs : List (Key × V)} {i : Str} {v : V} {n : L2.St → Hp → Prop} (h : H a = some (.dK kvs)) (hl : kvs.length < sizeLine) (k : ∀ H1, H1 a = some (.dK (putK kvs (Sum.inr i) v)) → Of a H H1 → n σ H1) : kDPut n σ (.ref a) (.str i) v H := ⟨a, _, rfl, DPut.k (k := Sum.inr i) h hl, k _ upd_same .mk'⟩
/-! a dict made by a comprehension -/
def kDc (g : TG) (tt : TT) (tk tv : TE) (vs : List Nat) (σ : L2.St) (Q : VK) : It → Hp → Prop := fun J H1 => ∀ D, H1 D = none → ∃ W : Nat → Nat → Hp → Prop, (∃ m, W 0 m (upd H1 D (.dK []))) ∧ ∀ i m H, W i m H →
  (J.stop i H ∧ Q (.ref D) H) ∨ (J.go i H ∧ ∃ Nx : Hp → Prop, (∀ H', Nx H' → ∃ m', m' < m ∧ W (i + 1) m' H') ∧ ∀ x H', J.yld i H x H' → g x (wipe σ vs) H' fun σ2 H2 => wipe σ2 vs = wipe σ vs ∧ tt σ2 H2 fun b H3 =>
    if b = true then tk σ2 H3 fun y H4 => tv σ2 H4 fun z H5 => ∃ kvs k, y = kV k ∧ H5 D = some (.dK kvs) ∧ kvs.length < sizeLine ∧ Nx (upd H5 D (.dK (putK kvs k z))) else Nx H3)
theorem w_dc {wi : TI} {g : TG} {tt : TT} {tk tv : TE} {vs : List Nat} (q : wi σ H (kDc g tt tk tv vs σ Q)) : tDc wi g tt tk tv vs σ H Q := q
def kItD (D : Addr) (N : Hp → Prop) (y z : V) : Hp → Prop := fun H5 => ∃ kvs k, y = kV k ∧ H5 D = some (.dK kvs) ∧ kvs.length < sizeLine ∧ N (upd H5 D (.dK (putK kvs k z)))
theorem w_kItDS {p : Addr} {N : Hp → Prop} {kvs : List (Key × V)} {y : Str} {z : V} (h : H p = some (.dK kvs)) (hl : kvs.length < sizeLine) (k : ∀ H5, H5 p = some (.dK (putK kvs (Sum.inr y) z)) → Of p H H5 → N H5) : kItD p N (.str y) z H := ⟨kvs, Sum.inr y, rfl, h, hl, k _ upd_same .mk'⟩
theorem w_kItDI {p : Addr} {N : Hp → Prop} {kvs : List (Key × V)} {y : Int} {z : V} (h : H p = some (.dK kvs)) (hl : kvs.length < sizeLine) (k : ∀ H5, H5 p = some (.dK (putK kvs (Sum.inl y) z)) → Of p H H5 → N H5) : kItD p N (.int y) z H := ⟨kvs, Sum.inl y, rfl, h, hl, k _ upd_same .mk'⟩
def kTstD (tk tv : TE) (σ : L2.St) (D : Addr) (N : Hp → Prop) : Bool → Hp → Prop := fun b H3 => if b = true then tk σ H3 fun y H4 => tv σ H4 fun z H5 => kItD D N y z H5 else N H3
theorem w_tstDT {tk tv : TE} {p : Addr} {N : Hp → Prop} (q : tk σ H fun y H4 => tv σ H4 fun z H5 => kItD p N y z H5) : kTstD tk tv σ p N true H := iteT q
theorem w_tstDB {b : Bool} {tk tv : TE} {p : Addr} {N : Hp → Prop} (h1 : b = true → tk σ H fun y H4 => tv σ H4 fun z H5 => kItD p N y z H5) (h2 : b = false → N H) : kTstD tk tv σ p N b H := by
  cases b with
  | true => exact iteT (h1 rfl)
  | false => exact iteF (h2 rfl)
def kEachD (tt : TT) (tk tv : TE) (vs : List Nat) (σ : L2.St) (D : Addr) (N : Hp → Prop) : L2.St → Hp → Prop := fun σ2 H2 => wipe σ2 vs = wipe σ vs ∧ tt σ2 H2 (kTstD tk tv σ2 D N)
theorem w_eachD {tt : TT} {tk tv : TE} {vs : List Nat} {σ σ2 : L2.St} {p : Addr} {N : Hp → Prop} (e : wipe σ2 vs = wipe σ vs) (q : tt σ2 H (kTstD tk tv σ2 p N)) : kEachD tt tk tv vs σ p N σ2 H := ⟨e, q⟩
theorem w_dcG {J : It} {n : Nat} {g : TG} {tt : TT} {tk tv : TE} {vs : List Nat} (Pv : Addr → Nat → Hp → Prop) (h0 : ∀ p H1, H1 p = some (.dK []) → Nw p H H1 → Pv p 0 H1)
    (hgo : ∀ p i H, i < n → Pv p i H → J.go i H) (hst : ∀ p H, Pv p n H → J.stop n H)
    (hs : ∀ p i x H H', i < n → Pv p i H → J.yld i H x H' → g x (wipe σ vs) H' (kEachD tt tk tv vs σ p (Pv p (i + 1)))) (hd : ∀ p H, Pv p n H → Q (.ref p) H) : kDc g tt tk tv vs σ Q J H := fun p np => by
  refine ⟨fun i m H => m = n - i ∧ i ≤ n ∧ Pv p i H, ⟨n, rfl, Nat.zero_le _, h0 p _ upd_same (.mk' np)⟩, ?_⟩
  rintro i m H ⟨rfl, hi, h⟩
  by_cases hlt : i < n
  · exact .inr ⟨hgo p i H hlt h, Pv p (i + 1), fun H' p' => ⟨n - (i + 1), by omega, rfl, hlt, p'⟩, fun x H' y => hs p i x H H' hlt h y⟩
  · have e : i = n := by omega
    subst e
    exact .inl ⟨hst p H h, hd p H h⟩
theorem w_dcS {x : Str} {g : TG} {tt : TT} {tk tv : TE} {vs : List Nat} (Pv : Addr → Nat → Hp → Prop) (h0 : ∀ p H1, H1 p = some (.dK []) → Nw p H H1 → Pv p 0 H1)
    (hs : ∀ p i c H, (tl x)[i]? = some c → Pv p i H → g (.str (one c)) (wipe σ vs) H (kEachD tt tk tv vs σ p (Pv p (i + 1)))) (hd : ∀ p H, Pv p (tl x).length H → Q (.ref p) H) : kDc g tt tk tv vs σ Q (Its x) H := by
  have hz : x.cps.size = (tl x).length := len_tl x
  refine w_dcG (n := x.cps.size) Pv h0 (fun p i H hi h => hi) (fun p H h => Nat.le_refl _) ?_ (fun p H h => hd p H (by rw [← hz]; exact h))
  rintro p i v H H' hi h ⟨rfl, c, hc, rfl⟩
  exact hs p i c H' (getElem?_of_cps hc) h
/-! list(range(n)) -/
def kRg1 (Q : Int → Int → Hp → Prop) : VK := fun x H1 => ∃ n, x = .int n ∧ Q 0 n H1
theorem w_rg1 {ta : TE} {Q : Int → Int → Hp → Prop} (q : ta σ H (kRg1 Q)) : tRg1 ta σ H Q := q
theorem w_kRg1 {n : Int} {Q : Int → Int → Hp → Prop} (q : Q 0 n H) : kRg1 Q (.int n) H := ⟨n, rfl, q⟩
def kRgL (Q : VK) (a b : Int) : Hp → Prop := fun H1 => RgOk a b ∧ ∀ q, H1 q = none → Q (.ref q) (upd H1 q (.lst (rgV a b)))
theorem w_lstRg {te : L2.St → Hp → (Int → Int → Hp → Prop) → Prop} (q : te σ H fun a b H1 => kRgL Q a b H1) : tLstRg te σ H Q := q
theorem w_kRgL {a b : Int} (h : RgOk a b) (k : ∀ p H1, H1 p = some (.lst (rgV a b)) → Nw p H H1 → Q (.ref p) H1) : kRgL Q a b H := ⟨h, fun _ n => k _ _ upd_same (.mk' n)⟩
/-! statements -/
theorem w_seq {t u : TS} {n : L2.St → Hp → Prop} {rt : VK} {bk ct : L2.St → Hp → Prop} (q : t ⟨u ⟨n, rt, bk, ct⟩, rt, bk, ct⟩ σ H) : tSeq t u ⟨n, rt, bk, ct⟩ σ H := q
/-- a statement, and what holds behind it -/
theorem w_seqJ {t u : TS} {n : L2.St → Hp → Prop} {rt : VK} {bk ct : L2.St → Hp → Prop} (J : L2.St → Hp → Prop) (q : ∀ N : L2.St → Hp → Prop, (∀ σ' H', J σ' H' → N σ' H') → t ⟨N, rt, bk, ct⟩ σ H) (hr : ∀ σ' H', J σ' H' → u ⟨n, rt, bk, ct⟩ σ' H') : tSeq t u ⟨n, rt, bk, ct⟩ σ H := q _ hr
theorem w_next {n : L2.St → Hp → Prop} {rt : VK} {bk ct : L2.St → Hp → Prop} (q : n σ H) : tNext ⟨n, rt, bk, ct⟩ σ H := q
theorem w_break {n : L2.St → Hp → Prop} {rt : VK} {bk ct : L2.St → Hp → Prop} (q : bk σ H) : tBreak ⟨n, rt, bk, ct⟩ σ H := q
theorem w_cont {n : L2.St → Hp → Prop} {rt : VK} {bk ct : L2.St → Hp → Prop} (q : ct σ H) : tCont ⟨n, rt, bk, ct⟩ σ H := q
theorem w_drop {te : TE} {n : L2.St → Hp → Prop} {rt : VK} {bk ct : L2.St → Hp → Prop} (q : te σ H fun _ H1 => n σ H1) : tDrop te ⟨n, rt, bk, ct⟩ σ H := q
theorem w_ret {te : TE} {n : L2.St → Hp → Prop} {rt : VK} {bk ct : L2.St → Hp → Prop} (q : te σ H rt) : tRet te ⟨n, rt, bk, ct⟩ σ H := q
theorem w_retN {n : L2.St → Hp → Prop} {rt : VK} {bk ct : L2.St → Hp → Prop} (q : rt .non H) : tRetN ⟨n, rt, bk, ct⟩ σ H := q
def kIf (t u : TS) (D : Ends) (σ : L2.St) : Bool → Hp → Prop := fun b H1 => if b = true then t D σ H1 else u D σ H1
theorem w_if {c : TT} {t u : TS} (q : c σ H (kIf t u D σ)) : tIfS c t u D σ H := q
theorem w_ifT {t u : TS} (q : t D σ H) : kIf t u D σ true H := iteT q
theorem w_ifF {t u : TS} (q : u D σ H) : kIf t u D σ false H := iteF q
theorem w_if2 {p : Prop} [Decidable p] {t u : TS} (h1 : p → t D σ H) (h2 : ¬ p → u D σ H) : kIf t u D σ (decide p) H :=
  ite2 (fun e => h1 (of_decide_eq_true e)) fun e => h2 fun z => e (decide_eq_true z)
theorem w_ifN2 {p : Prop} [Decidable p] {t u : TS} (h1 : ¬ p → t D σ H) (h2 : p → u D σ H) : kIf t u D σ (!decide p) H := by
  by_cases h : p
  · rw [decide_eq_true h]; exact iteF (h2 h)
  · rw [decide_eq_false h]; exact iteT (h1 h)
theorem w_ifB {b : Bool} {t u : TS} (h1 : b = true → t D σ H) (h2 : b = false → u D σ H) : kIf t u D σ b H := by
  cases b with
  | true => exact iteT (h1 rfl)
  | false => exact iteF (h2 rfl)
theorem w_asg {te : TE} {g : TG} {n : L2.St → Hp → Prop} {rt : VK} {bk ct : L2.St → Hp → Prop} (q : te σ H fun x H1 => g x σ H1 n) : tAsg te g ⟨n, rt, bk, ct⟩ σ H := q
theorem w_gn {i : Nat} {v : V} {Q : L2.St → Hp → Prop} (q : Q (σ.set i (some v)) H) : gName i v σ H Q := q
def kPar (i j : Nat) (σ : L2.St) (n : L2.St → Hp → Prop) : List V → Hp → Prop := fun vs H1 => ∃ v w, vs = [v, w] ∧ n ((σ.set i (some v)).set j (some w)) H1
theorem w_par {i j : Nat} {ta : TA} {n : L2.St → Hp → Prop} {rt : VK} {bk ct : L2.St → Hp → Prop} (q : ta σ H (kPar i j σ n)) : tPar i j ta ⟨n, rt, bk, ct⟩ σ H := q
theorem w_kPar {i j : Nat} {v w : V} {n : L2.St → Hp → Prop} (q : n ((σ.set i (some v)).set j (some w)) H) : kPar i j σ n [v, w] H := ⟨v, w, rfl, q⟩
theorem w_gtup {a : Addr} {xs : List V} {n : Nat} {t : TGs} {Q : L2.St → Hp → Prop} (h : H a = some (.tup xs)) (hl : xs.length = n) (q : t xs σ H Q) : gTup K n t (.ref a) σ H Q := ⟨a, xs, rfl, SqT.of h, hl, q⟩
theorem w_gcons {t : TG} {u : TGs} {v : V} {r : List V} {Q : L2.St → Hp → Prop} (q : t v σ H fun σ' H' => u r σ' H' Q) : gCons t u (v :: r) σ H Q := ⟨v, r, rfl, q⟩
theorem w_gnil {Q : L2.St → Hp → Prop} (q : Q σ H) : gNil [] σ H Q := ⟨rfl, q⟩
theorem w_gsub {to ti : TE} {t : TSet} {v : V} {Q : L2.St → Hp → Prop} (q : to σ H fun o H1 => ti σ H1 fun i H2 => t o i v H2 fun H3 => Q σ H3) : gSub to ti t v σ H Q := q
theorem w_setL {p : Addr} {xs : List V} {k : Int} {j : Nat} {v : V} {Q : Hp → Prop} (h : H p = some (.lst xs)) (e : ixN xs.length k = some j) (q : ∀ H1, H1 p = some (.lst (xs.set j v)) → Of p H H1 → Q H1) : rSetL (.ref p) (.int k) v H Q := ⟨p, xs, k, j, rfl, rfl, h, e, q _ upd_same .mk'⟩
def kSFld (K : PySem.W.Frag) (f : Str) (y : V) (n : L2.St → Hp → Prop) (σ : L2.St) : VK := fun x H2 => ∃ a C dx fs, x = .ref a ∧ H2 a = some (.ins C dx fs) ∧ Cls K C ∧ NoAttr K C f ∧ fs.length < 1000 ∧ n σ (upd H2 a (.ins C dx (putF f y fs)))
theorem w_sfld {ta tv : TE} {f : Str} {n : L2.St → Hp → Prop} {rt : VK} {bk ct : L2.St → Hp → Prop} (q : tv σ H fun y H1 => ta σ H1 (kSFld K f y n σ)) : sFld K ta tv f ⟨n, rt, bk, ct⟩ σ H := q
theorem w_kSFld {a C dx : Addr} {fs : List (Str × V)} {f : Str} {y : V} {n : L2.St → Hp → Prop} (h : H a = some (.ins C dx fs)) (c : Cls K C) (na : NoAttr K C f) (hl : fs.length < 1000) (k : ∀ H1, H1 a = some (.ins C dx (putF f y fs)) → Of a H H1 → n σ H1) : kSFld K f y n σ (.ref a) H :=
  ⟨a, C, dx, fs, rfl, h, c, na, hl, k _ upd_same .mk'⟩
theorem w_aug {i : Nat} {x : V} {te : TE} {ti : TIp} {n : L2.St → Hp → Prop} {rt : VK} {bk ct : L2.St → Hp → Prop} (h : σ[i]? = some (some x)) (q : te σ H fun y H1 => ti x y H1 fun z H2 => n (σ.set i (some z)) H2) : tAug i te ti ⟨n, rt, bk, ct⟩ σ H := ⟨x, h, q⟩
theorem w_ipI {f : Int → Int → Int} {i j : Int} (q : Q (.int (f i j)) H) : ipI f (.int i) (.int j) H Q := ⟨i, j, rfl, rfl, q⟩
/-! loops -/
def kFor (g : TG) (tb : TS) (D : Ends) (σ : L2.St) : It → Hp → Prop := fun J H1 => ∃ W : Nat → Nat → L2.St → Hp → Prop, (∃ m, W 0 m σ H1) ∧ ∀ i m σ H, W i m σ H →
  (J.stop i H ∧ D.nx σ H) ∨ (J.go i H ∧ ∃ N : L2.St → Hp → Prop, (∀ σ' H', N σ' H' → ∃ m', m' < m ∧ W (i + 1) m' σ' H') ∧ ∀ x H', J.yld i H x H' → g x σ H' fun σ2 H2 => tb { D with nx := N, ct := N, bk := D.nx } σ2 H2)
theorem w_for {wi : TI} {g : TG} {tb : TS} (q : wi σ H (kFor g tb D σ)) : tFor wi g tb D σ H := q
def kRng1 (R : It → Hp → Prop) : List V → Hp → Prop := fun vs H1 => ∃ j : Int, vs = [.int j] ∧ -(2 ^ 62) ≤ j ∧ j < 2 ^ 62 ∧ R (Itr 0 j.toNat) H1
theorem w_rng1 {ta : TA} {R : It → Hp → Prop} (q : ta σ H (kRng1 R)) : iRng1 ta σ H R := q
theorem w_kRng1 {j : Int} {R : It → Hp → Prop} (h0 : -(2 ^ 62) ≤ j) (h1 : j < 2 ^ 62) (q : R (Itr 0 j.toNat) H) : kRng1 R [.int j] H := ⟨j, rfl, h0, h1, q⟩
def kList (K : PySem.W.Frag) (R : It → Hp → Prop) : VK := fun x H1 => ∃ a, x = .ref a ∧ (∃ xs, SqL K H1 a xs) ∧ R (Itl K a) H1
theorem w_ilist {tl : TE} {R : It → Hp → Prop} (q : tl σ H (kList K R)) : iList K tl σ H R := q
theorem w_kList {a : Addr} {xs : List V} {R : It → Hp → Prop} (h : H a = some (.lst xs)) (q : R (Itl K a) H) : kList K R (.ref a) H := ⟨a, rfl, ⟨xs, SqL.of h⟩, q⟩
def kTupI (K : PySem.W.Frag) (R : It → Hp → Prop) : VK := fun x H1 => ∃ a, x = .ref a ∧ (∃ xs, SqT K H1 a xs) ∧ R (Itt K a) H1
theorem w_itup {tl : TE} {R : It → Hp → Prop} (q : tl σ H (kTupI K R)) : iTup K tl σ H R := q
theorem w_kTupI {a : Addr} {xs : List V} {R : It → Hp → Prop} (h : H a = some (.tup xs)) (q : R (Itt K a) H) : kTupI K R (.ref a) H := ⟨a, rfl, ⟨xs, SqT.of h⟩, q⟩
def kStr (R : It → Hp → Prop) : VK := fun v H1 => ∃ x, v = .str x ∧ R (Its x) H1
theorem w_istr {te : TE} {R : It → Hp → Prop} (q : te σ H (kStr R)) : iStr te σ H R := q
theorem w_kStr {x : Str} {R : It → Hp → Prop} (q : R (Its x) H) : kStr R (.str x) H := ⟨x, rfl, q⟩
def kEnum (K : PySem.W.Frag) (R : It → Hp → Prop) : List V → Hp → Prop := fun vs H1 => ∃ a xs, vs = [.ref a] ∧ SqL K H1 a xs ∧ R (Ite K a) H1
theorem w_ienum {ta : TA} {R : It → Hp → Prop} (q : ta σ H (kEnum K R)) : iEnum K ta σ H R := q
theorem w_kEnum {a : Addr} {xs : List V} {R : It → Hp → Prop} (h : H a = some (.lst xs)) (q : R (Ite K a) H) : kEnum K R [.ref a] H := ⟨a, xs, rfl, SqL.of h, q⟩
/-- a loop: what holds ahead of turn i -/
theorem w_range {lo : Int} {n : Nat} {g : TG} {tb : TS} {nx : L2.St → Hp → Prop} {rt : VK} {bk ct : L2.St → Hp → Prop} (Pv : Nat → L2.St → Hp → Prop) (h0 : Pv 0 σ H)
    (hs : ∀ i σ H, i < n → Pv i σ H → g (.int (lo + i)) σ H fun σ2 H2 => tb ⟨Pv (i + 1), rt, nx, Pv (i + 1)⟩ σ2 H2) (hd : ∀ σ H, Pv n σ H → nx σ H) : kFor g tb ⟨nx, rt, bk, ct⟩ σ (Itr lo n) H :=
  for_range (lo := lo) (n := n) Pv h0 hs hd
theorem w_list {a : Addr} {xs : List V} {g : TG} {tb : TS} {nx : L2.St → Hp → Prop} {rt : VK} {bk ct : L2.St → Hp → Prop} (Pv : Nat → L2.St → Hp → Prop) (h0 : Pv 0 σ H) (hl : ∀ i σ H, i ≤ xs.length → Pv i σ H → H a = some (.lst xs))
    (hs : ∀ i x σ H, xs[i]? = some x → Pv i σ H → g x σ H fun σ2 H2 => tb ⟨Pv (i + 1), rt, nx, Pv (i + 1)⟩ σ2 H2) (hd : ∀ σ H, Pv xs.length σ H → nx σ H) : kFor g tb ⟨nx, rt, bk, ct⟩ σ (Itl K a) H :=
  for_list (K := K) (a := a) (xs := xs) Pv h0 (fun i σ H hi p => SqL.of (hl i σ H hi p)) hs hd
theorem w_tupF {a : Addr} {xs : List V} {g : TG} {tb : TS} {nx : L2.St → Hp → Prop} {rt : VK} {bk ct : L2.St → Hp → Prop} (Pv : Nat → L2.St → Hp → Prop) (h0 : Pv 0 σ H) (hl : ∀ i σ H, i ≤ xs.length → Pv i σ H → H a = some (.tup xs))
    (hs : ∀ i x σ H, xs[i]? = some x → Pv i σ H → g x σ H fun σ2 H2 => tb ⟨Pv (i + 1), rt, nx, Pv (i + 1)⟩ σ2 H2) (hd : ∀ σ H, Pv xs.length σ H → nx σ H) : kFor g tb ⟨nx, rt, bk, ct⟩ σ (Itt K a) H := by
  refine for_gen (n := xs.length) Pv h0 (fun i σ H hi p => ⟨xs, xs[i], SqT.of (hl i σ H (Nat.le_of_lt hi) p), List.getElem?_eq_getElem hi⟩) (fun σ H p => ⟨xs, SqT.of (hl _ σ H (Nat.le_refl _) p), Nat.le_refl _⟩) ?_ hd
  rintro i v σ H H' hi p ⟨rfl, hx⟩
  exact hs i v σ H' (hx xs (SqT.of (hl i σ H' (Nat.le_of_lt hi) p))) p
theorem w_str {x : Str} {g : TG} {tb : TS} {nx : L2.St → Hp → Prop} {rt : VK} {bk ct : L2.St → Hp → Prop} (Pv : Nat → L2.St → Hp → Prop) (h0 : Pv 0 σ H)
    (hs : ∀ i c σ H, (tl x)[i]? = some c → Pv i σ H → g (.str (one c)) σ H fun σ2 H2 => tb ⟨Pv (i + 1), rt, nx, Pv (i + 1)⟩ σ2 H2) (hd : ∀ σ H, Pv (tl x).length σ H → nx σ H) : kFor g tb ⟨nx, rt, bk, ct⟩ σ (Its x) H := by
  have hz : x.cps.size = (tl x).length := len_tl x
  refine for_gen (n := x.cps.size) Pv h0 (fun i σ H hi _ => hi) (fun σ H _ => Nat.le_refl _) ?_ (fun σ H p => hd σ H (by rw [← hz]; exact p))
  rintro i v σ H H' hi p ⟨rfl, c, hc, rfl⟩
  exact hs i c σ H' (getElem?_of_cps hc) p
theorem w_enum {a : Addr} {xs : List V} {g : TG} {tb : TS} {nx : L2.St → Hp → Prop} {rt : VK} {bk ct : L2.St → Hp → Prop} (Pv : Nat → L2.St → Hp → Prop) (h0 : Pv 0 σ H) (hl : ∀ i σ H, i ≤ xs.length → Pv i σ H → H a = some (.lst xs))
    (hs : ∀ i x t σ H H1, xs[i]? = some x → Pv i σ H → H1 t = some (.tup [.int (i : Nat), x]) → Nw t H H1 → g (.ref t) σ H1 fun σ2 H2 => tb ⟨Pv (i + 1), rt, nx, Pv (i + 1)⟩ σ2 H2) (hd : ∀ σ H, Pv xs.length σ H → nx σ H) : kFor g tb ⟨nx, rt, bk, ct⟩ σ (Ite K a) H := by
  refine for_gen (n := xs.length) Pv h0 (fun i σ H hi p => ⟨xs, xs[i], SqL.of (hl i σ H (Nat.le_of_lt hi) p), List.getElem?_eq_getElem hi⟩) (fun σ H p => ⟨xs, SqL.of (hl _ σ H (Nat.le_refl _) p), Nat.le_refl _⟩) ?_ hd
  rintro i v σ H H' hi p ⟨t, x, rfl, nt, rfl, hx⟩
  exact hs i x t σ H _ (hx xs (SqL.of (hl i σ H (Nat.le_of_lt hi) p))) p upd_same (.mk' nt)
/-! comprehensions -/
def kLc (g : TG) (tt : TT) (te : TE) (vs : List Nat) (σ : L2.St) (Q : VK) : It → Hp → Prop := fun J H1 => ∀ D, H1 D = none → ∃ W : Nat → Nat → Hp → Prop, (∃ m, W 0 m (upd H1 D (.lst []))) ∧ ∀ i m H, W i m H →
  (J.stop i H ∧ Q (.ref D) H) ∨ (J.go i H ∧ ∃ Nx : Hp → Prop, (∀ H', Nx H' → ∃ m', m' < m ∧ W (i + 1) m' H') ∧ ∀ x H', J.yld i H x H' → g x (wipe σ vs) H' fun σ2 H2 => wipe σ2 vs = wipe σ vs ∧ tt σ2 H2 fun b H3 =>
    if b = true then te σ2 H3 fun y H4 => ∃ acc, H4 D = some (.lst acc) ∧ acc.length < sizeLine ∧ Nx (upd H4 D (.lst (acc ++ [y]))) else Nx H3)
theorem w_lc {wi : TI} {g : TG} {tt : TT} {te : TE} {vs : List Nat} (q : wi σ H (kLc g tt te vs σ Q)) : tLc wi g tt te vs σ H Q := q
/-- what an item of the list does: the item, then the list -/
def kIt (D : Addr) (N : Hp → Prop) : VK := fun y H4 => ∃ acc, H4 D = some (.lst acc) ∧ acc.length < sizeLine ∧ N (upd H4 D (.lst (acc ++ [y])))
theorem w_kIt {p : Addr} {N : Hp → Prop} {acc : List V} {y : V} (h : H p = some (.lst acc)) (hl : acc.length < sizeLine) (k : ∀ H5, H5 p = some (.lst (acc ++ [y])) → Of p H H5 → N H5) : kIt p N y H := ⟨acc, h, hl, k _ upd_same .mk'⟩
def kTst (te : TE) (σ : L2.St) (D : Addr) (N : Hp → Prop) : Bool → Hp → Prop := fun b H3 => if b = true then te σ H3 (kIt D N) else N H3
theorem w_yes {Q : Bool → Hp → Prop} (q : Q true H) : tYes σ H Q := q
theorem w_tstT {te : TE} {p : Addr} {N : Hp → Prop} (q : te σ H (kIt p N)) : kTst te σ p N true H := iteT q
theorem w_tstF {te : TE} {p : Addr} {N : Hp → Prop} (q : N H) : kTst te σ p N false H := iteF q
theorem w_tst2 {c : Prop} [Decidable c] {te : TE} {p : Addr} {N : Hp → Prop} (h1 : c → te σ H (kIt p N)) (h2 : ¬ c → N H) : kTst te σ p N (decide c) H :=
  ite2 (fun e => h1 (of_decide_eq_true e)) fun e => h2 fun z => e (decide_eq_true z)
theorem w_tstB {b : Bool} {te : TE} {p : Addr} {N : Hp → Prop} (h1 : b = true → te σ H (kIt p N)) (h2 : b = false → N H) : kTst te σ p N b H := by
  cases b with
  | true => exact iteT (h1 rfl)
  | false => exact iteF (h2 rfl)
def kEach (tt : TT) (te : TE) (vs : List Nat) (σ : L2.St) (D : Addr) (N : Hp → Prop) : L2.St → Hp → Prop := fun σ2 H2 => wipe σ2 vs = wipe σ vs ∧ tt σ2 H2 (kTst te σ2 D N)
theorem w_each {tt : TT} {te : TE} {vs : List Nat} {σ σ2 : L2.St} {p : Addr} {N : Hp → Prop} (e : wipe σ2 vs = wipe σ vs) (q : tt σ2 H (kTst te σ2 p N)) : kEach tt te vs σ p N σ2 H := ⟨e, q⟩
/-- a comprehension by what holds ahead of item i; p: where the made list stands -/
theorem w_lcG {J : It} {n : Nat} {g : TG} {tt : TT} {te : TE} {vs : List Nat} (Pv : Addr → Nat → Hp → Prop) (h0 : ∀ p H1, H1 p = some (.lst []) → Nw p H H1 → Pv p 0 H1)
    (hgo : ∀ p i H, i < n → Pv p i H → J.go i H) (hst : ∀ p H, Pv p n H → J.stop n H)
    (hs : ∀ p i x H H', i < n → Pv p i H → J.yld i H x H' → g x (wipe σ vs) H' (kEach tt te vs σ p (Pv p (i + 1)))) (hd : ∀ p H, Pv p n H → Q (.ref p) H) : kLc g tt te vs σ Q J H := fun p np =>
  lc_gen (n := n) (Pv p) (h0 p _ upd_same (.mk' np)) (hgo p) (hst p) (hs p) (hd p)
theorem w_lcL {a : Addr} {xs : List V} {g : TG} {tt : TT} {te : TE} {vs : List Nat} (Pv : Addr → Nat → Hp → Prop) (h0 : ∀ p H1, H1 p = some (.lst []) → Nw p H H1 → Pv p 0 H1)
    (hl : ∀ p i H, i ≤ xs.length → Pv p i H → H a = some (.lst xs)) (hs : ∀ p i x H, xs[i]? = some x → Pv p i H → g x (wipe σ vs) H (kEach tt te vs σ p (Pv p (i + 1)))) (hd : ∀ p H, Pv p xs.length H → Q (.ref p) H) : kLc g tt te vs σ Q (Itl K a) H := by
  refine w_lcG (n := xs.length) Pv h0 (fun p i H hi h => ⟨xs, xs[i], SqL.of (hl p i H (Nat.le_of_lt hi) h), List.getElem?_eq_getElem hi⟩) (fun p H h => ⟨xs, SqL.of (hl p _ H (Nat.le_refl _) h), Nat.le_refl _⟩) ?_ hd
  rintro p i x H H' hi h ⟨rfl, hx⟩
  exact hs p i x H' (hx xs (SqL.of (hl p i H' (Nat.le_of_lt hi) h))) h
theorem w_lcR {lo : Int} {n : Nat} {g : TG} {tt : TT} {te : TE} {vs : List Nat} (Pv : Addr → Nat → Hp → Prop) (h0 : ∀ p H1, H1 p = some (.lst []) → Nw p H H1 → Pv p 0 H1)
    (hs : ∀ p i H, i < n → Pv p i H → g (.int (lo + i)) (wipe σ vs) H (kEach tt te vs σ p (Pv p (i + 1)))) (hd : ∀ p H, Pv p n H → Q (.ref p) H) : kLc g tt te vs σ Q (Itr lo n) H := by
  refine w_lcG (n := n) Pv h0 (fun p i H hi h => hi) (fun p H h => Nat.le_refl _) ?_ hd
  rintro p i x H H' hi h ⟨rfl, rfl⟩
  exact hs p i H' hi h
theorem w_lcS {x : Str} {g : TG} {tt : TT} {te : TE} {vs : List Nat} (Pv : Addr → Nat → Hp → Prop) (h0 : ∀ p H1, H1 p = some (.lst []) → Nw p H H1 → Pv p 0 H1)
    (hs : ∀ p i c H, (tl x)[i]? = some c → Pv p i H → g (.str (one c)) (wipe σ vs) H (kEach tt te vs σ p (Pv p (i + 1)))) (hd : ∀ p H, Pv p (tl x).length H → Q (.ref p) H) : kLc g tt te vs σ Q (Its x) H := by
  have hz : x.cps.size = (tl x).length := len_tl x
  refine w_lcG (n := x.cps.size) Pv h0 (fun p i H hi h => hi) (fun p H h => Nat.le_refl _) ?_ (fun p H h => hd p H (by rw [← hz]; exact h))
  rintro p i v H H' hi h ⟨rfl, c, hc, rfl⟩
  exact hs p i c H' (getElem?_of_cps hc) h
end
end Sf
namespace Sf
open PySem PySem.Spec PyProof.Rows L2 TL
section
variable {X : Cx} {σ : L2.St} {H : Hp} {Q : VK}
def rNeOwn (C : Addr) (sp : Sp) : R2 := fun x y H Q => ∃ a b dx dy fs gs, x = .ref a ∧ y = .ref b ∧ H a = some (.ins C dx fs) ∧ H b = some (.ins C dy gs) ∧ sp [.ref a, .ref b] H (fun v H' => ∃ t, v = .bl t ∧ Q (.bl (!t)) H') E0
theorem op_neN {C f : Addr} {fd : FuncData} {ps : List Str} {k : Nat} {sp : Sp} (F : FnOk X.prog X.w X.K X.mg X.base CX0 k f fd ps sp) (hs : PySem.W.findIn X.K (.ref C) "__eq__" = some (some (.ref f))) (hf : PySem.W.isFn X.K (.ref f) = true) (hb : Binds X.K fd ps []) (hn : PySem.W.findIn X.K (.ref C) "__ne__" = some (some (.builtin "object.__ne__")))
    (hm : PySem.W.mroIn X.K C (.type "object") = some true) (hr : Room (k + 1) X.A) : OpR X (compareOp .NotEq) (rNeOwn C sp) := op_neOwn F hs hf hb hn hm hr
def kNeOwn (Q : VK) : VK := fun v H' => ∃ t, v = .bl t ∧ Q (.bl (!t)) H'
theorem w_neOwn {C a b dx dy : Addr} {fs gs : List (Str × V)} {sp : Sp} (ha : H a = some (.ins C dx fs)) (hb : H b = some (.ins C dy gs)) (q : sp [.ref a, .ref b] H (kNeOwn Q) E0) : rNeOwn C sp (.ref a) (.ref b) H Q := ⟨a, b, dx, dy, fs, gs, rfl, rfl, ha, hb, q⟩
theorem w_kNeOwn {t : Bool} (q : Q (.bl (!t)) H) : kNeOwn Q (.bl t) H := ⟨t, rfl, q⟩
theorem w_kNeOwnT (q : Q (.bl false) H) : kNeOwn Q (.bl true) H := ⟨true, rfl, q⟩
theorem w_kNeOwnF (q : Q (.bl true) H) : kNeOwn Q (.bl false) H := ⟨false, rfl, q⟩
def rEqOwn (C : Addr) (sp : Sp) : R2 := fun x y H Q => ∃ a b dx dy fs gs, x = .ref a ∧ y = .ref b ∧ H a = some (.ins C dx fs) ∧ H b = some (.ins C dy gs) ∧ sp [.ref a, .ref b] H (fun v H' => ∃ t, v = .bl t ∧ Q (.bl t) H') E0
/-- a new track -/
theorem w_track {C : Addr} {x : Str} {E : XK} (hx : Wd x) (hl : x.length ≤ 60) (k : ∀ (p : Addr) (H' : Hp), Trk C H' p (spotP x) (shortT x) 61 → Same H H' → Q (.ref p) H') : kMake C (spInit C) [] E Q [.str x] H := fun p dx np ndx hne =>
  ⟨p, dx, x, rfl, upd_same, hx, hl, fun H' t k' => ⟨rfl, k p H' t (Same.made np ndx k')⟩⟩
end
end Sf
namespace Sf
open PySem PySem.Spec PyProof.Rows L2 TL
/-! ### data: lists, tuples compared -/
section
variable {K : PySem.W.Frag} {H : Hp}
theorem lay_all {α : Type} {f : α → PyData} : ∀ {l : List α}, (∀ x ∈ l, PyData.canLay0 (f x) = true) → PyData.canLayAll0 (l.map f) = true
  | [], _ => rfl
  | x :: l, h => by
    rw [List.map_cons, PyData.canLayAll0, h x List.mem_cons_self, lay_all fun y hy => h y (List.mem_cons_of_mem _ hy)]
    rfl
theorem depth_all {α : Type} {f : α → PyData} {k : Nat} : ∀ {l : List α}, (∀ x ∈ l, (f x).depth ≤ k) → PyData.depthAll (l.map f) ≤ k
  | [], _ => Nat.zero_le _
  | x :: l, h => by
    rw [List.map_cons, PyData.depthAll]
    exact Nat.max_le.mpr ⟨h x List.mem_cons_self, depth_all fun y hy => h y (List.mem_cons_of_mem _ hy)⟩
theorem dp_map {α : Type} {f : α → PyData} {vs : List V} {l : List α} (h : Paired (fun v x => Dp K H v (f x)) vs l) : DpAll K H vs (l.map f) := by
  induction h with
  | nil => exact .nil
  | cons r _ ih => exact .cons r ih
theorem shaped_list {α : Type} {f : α → PyData} {l : List α} (h1 : ∀ x ∈ l, PyData.canLay0 (f x) = true) (h2 : ∀ x ∈ l, (f x).depth ≤ 60) : SeqAt.shaped (.list (l.map f)) = true := by
  unfold SeqAt.shaped
  rw [PyData.canLay0, lay_all h1, Bool.true_and, PyData.depth]
  have := depth_all h2
  exact decide_eq_true (by omega)
theorem strOk_wd {x : Str} (h : Wd x) : PyData.canLay0 (.str x) = true := by
  rw [PyData.canLay0]
  unfold PyData.strOk
  rw [Array.all_eq_true']
  intro c hc
  have := sgn_lt (h c (Array.mem_def.mp hc))
  exact decide_eq_true (by omega)
theorem eqv_nil {ds : List PyData} : PyData.eqv (.list ds) (.list []) = ds.isEmpty := by
  cases ds <;> simp [PyData.eqv, PyData.eqvAll]
/-- l != [] -/
theorem w_neNil {Q : VK} {p q : Addr} {ds : List PyData} {vs : List V} (h : H p = some (.lst vs)) (hd : DpAll K H vs ds) (hs : SeqAt.shaped (.list ds) = true) (hq : H q = some (.lst [])) (k : Q (.bl (!ds.isEmpty)) H) : rNeD K (.ref p) (.ref q) H Q :=
  ⟨_, _, .lst (SqL.of h) hd, .lst (SqL.of hq) .nil, hs, by decide +kernel, by rw [eqv_nil]; exact k⟩
theorem dpI : ∀ l : List Int, DpAll K H (l.map V.int) (l.map .int)
  | [] => .nil
  | _ :: l => .cons (.int _) (dpI l)
theorem shapedI (l : List Int) : SeqAt.shaped (.list (l.map .int)) = true := shaped_list (fun x _ => by rw [PyData.canLay0]) (fun x _ => by rw [PyData.depth]; omega)
theorem w_neNilI {Q : VK} {p q : Addr} {ns : List Int} (h : H p = some (.lst (ns.map V.int))) (hq : H q = some (.lst [])) (k : Q (.bl (!ns.isEmpty)) H) : rNeD K (.ref p) (.ref q) H Q :=
  w_neNil h (dpI ns) (shapedI ns) hq (by rw [List.isEmpty_map]; exact k)
/-- two lists of the same data -/
theorem w_neSame {Q : VK} {x y : V} {d : PyData} (h1 : Dp K H x d) (h2 : Dp K H y d) (hs : SeqAt.shaped d = true) (k : Q (.bl false) H) : rNeD K x y H Q :=
  ⟨d, d, h1, h2, hs, hs, by rw [SeqAt.eqv_refl d (SeqAt.canLay_of_shaped hs)]; exact k⟩
theorem w_eqSame {Q : VK} {x y : V} {d : PyData} (h1 : Dp K H x d) (h2 : Dp K H y d) (hs : SeqAt.shaped d = true) (k : Q (.bl true) H) : rEqD K x y H Q :=
  ⟨d, d, h1, h2, hs, hs, by rw [SeqAt.eqv_refl d (SeqAt.canLay_of_shaped hs)]; exact k⟩
end
end Sf
namespace Sf
open PySem PySem.Spec PyProof.Rows L2 TL
theorem row_app (a b : List Str) : rowL (a ++ b) = rowL a ++ rowL b := by
  unfold rowL
  rw [List.map_append, List.flatten_append]
end Sf
set_option hygiene false
/-! heap look-ups: hp; unlike addresses: ne; steps: st, go -/
local macro_rules | `(tactic| walk_at "hp") => `(tactic| first
  | assumption
  | (refine Sf.Nw.at (by assumption) ?_; walk_at "hp")
  | (refine L2.Same.at (by assumption) ?_; walk_at "hp")
  | (refine Sf.Of.at (by assumption) ?_ ?_; (case refine_1 => walk_at "ne"); (case refine_2 => walk_at "hp"))
  | (refine Sf.Fx.at (by assumption) ?_ ?_; (case refine_1 => walk_at "ne"); (case refine_2 => walk_at "hp")))
local macro_rules | `(tactic| walk_at "ne") => `(tactic| first
  | assumption
  | exact Ne.symm (by assumption)
  | exact Sf.Nw.ne (by assumption) (by walk_at "hp")
  | exact (Sf.Nw.ne (by assumption) (by walk_at "hp")).symm)
local macro_rules | `(tactic| walk_at "sm") => `(tactic| first
  | assumption
  | exact L2.Same.refl _
  | (refine L2.Same.nw ?_ (by assumption); walk_at "sm")
  | (refine L2.Same.trans ?_ (by assumption); walk_at "sm"))
local macro_rules | `(tactic| walk_at "bg") => `(tactic| first
  | assumption
  | (refine Sf.Bag.nw ?_ (by assumption); walk_at "bg")
  | (refine Sf.Bag.same (by assumption) ?_; walk_at "bg"))
local macro_rules | `(tactic| walk_at "fx") => `(tactic| first
  | assumption
  | exact Sf.Fx.refl
  | (refine Sf.Fx.nw ?_ (by assumption); walk_at "fx")
  | (refine Sf.Fx.same ?_ (by assumption); walk_at "fx")
  | (refine Sf.Fx.trans ?_ (by assumption); walk_at "fx"))
local macro_rules | `(tactic| walk_at "sz") => `(tactic| first
  | decide
  | (simp only [List.length_cons, List.length_nil, Nat.zero_add]; decide))
local macro_rules | `(tactic| walk_at "s0") => `(tactic| first
  | with_reducible refine Sf.w_var rfl ?_
  | with_reducible refine Sf.w_c ?_
  | with_reducible refine Sf.w_cons ?_
  | with_reducible refine Sf.w_nil ?_
  | with_reducible refine Sf.w_op ?_
  | with_reducible refine Sf.w_asg ?_
  | with_reducible refine Sf.w_gn ?_
  | with_reducible refine Sf.w_call ?_
  | with_reducible refine Sf.w_cb ?_
  | with_reducible refine Sf.w_if ?_
  | with_reducible refine Sf.w_test ?_
  | with_reducible refine Sf.w_tB ?_
  | with_reducible refine Sf.w_kB ?_
  | with_reducible refine Sf.w_i0 ?_
  | with_reducible refine Sf.w_eqI ?_
  | with_reducible refine Sf.w_neI ?_
  | with_reducible refine Sf.w_eqS ?_
  | with_reducible refine Sf.w_neS ?_
  | with_reducible refine Sf.w_eqB ?_
  | with_reducible refine Sf.w_neB ?_
  | with_reducible refine Sf.w_inSg ?_
  | with_reducible refine Sf.w_notInSg ?_
  | with_reducible refine Sf.w_isNI ?_
  | with_reducible refine Sf.w_isNN ?_
  | with_reducible refine Sf.w_isN ?_
  | with_reducible refine Sf.w_notNI ?_
  | with_reducible refine Sf.w_notNN ?_
  | with_reducible refine Sf.w_notN ?_
  | with_reducible refine Sf.w_un ?_
  | with_reducible refine Sf.w_u ?_
  | with_reducible refine Sf.w_sl ?_
  | with_reducible refine Sf.w_nopart ?_
  | with_reducible refine Sf.w_part ?_
  | with_reducible refine Sf.w_kpart ?_
  | with_reducible refine Sf.w_and ?_
  | with_reducible refine Sf.w_or ?_
  | with_reducible refine Sf.w_not ?_
  | with_reducible refine Sf.w_kNotT ?_
  | with_reducible refine Sf.w_kNotF ?_
  | with_reducible refine Sf.w_kNotN ?_
  | with_reducible refine Sf.w_kNot ?_
  | with_reducible refine Sf.w_andT ?_
  | with_reducible refine Sf.w_andF ?_
  | with_reducible refine Sf.w_orT ?_
  | with_reducible refine Sf.w_orF ?_
  | with_reducible refine Sf.w_andV ?_
  | with_reducible refine Sf.w_andVT ?_
  | with_reducible refine Sf.w_andVF ?_
  | with_reducible refine Sf.w_orV ?_
  | with_reducible refine Sf.w_notV ?_
  | with_reducible refine Sf.w_kNotVT ?_
  | with_reducible refine Sf.w_kNotVF ?_
  | with_reducible refine Sf.w_kNotV ?_
  | with_reducible refine Sf.w_ifE ?_
  | with_reducible refine Sf.w_ifET ?_
  | with_reducible refine Sf.w_ifEF ?_
  | with_reducible refine Sf.w_ifT ?_
  | with_reducible refine Sf.w_ifF ?_
  | with_reducible refine Sf.w_chain ?_
  | with_reducible refine Sf.w_lst ?_
  | with_reducible refine Sf.w_tup ?_
  | with_reducible refine Sf.w_drop ?_
  | with_reducible refine Sf.w_ret ?_
  | with_reducible refine Sf.w_retN ?_
  | with_reducible refine Sf.w_next ?_
  | with_reducible refine Sf.w_break ?_
  | with_reducible refine Sf.w_cont ?_
  | with_reducible refine Sf.w_meth ?_
  | with_reducible refine Sf.w_make ?_
  | with_reducible refine Sf.w_fld ?_
  | with_reducible refine Sf.w_sfld ?_
  | with_reducible refine Sf.w_bm ?_
  | with_reducible refine Sf.w_bm0 ?_
  | ((with_reducible refine' Sf.w_kbmL ?hp_ ?_); (case hp_ => walk_at "hp"))
  | with_reducible refine Sf.w_m0 ?_
  | with_reducible refine Sf.w_kM0 ?_
  | with_reducible refine Sf.w_m1 ?_
  | with_reducible refine Sf.w_kM1 ?_
  | with_reducible refine Sf.w_par ?_
  | with_reducible refine Sf.w_kPar ?_
  | with_reducible refine Sf.w_gcons ?_
  | with_reducible refine Sf.w_gnil ?_
  | with_reducible refine Sf.w_gsub ?_
  | with_reducible refine Sf.w_for ?_
  | with_reducible refine Sf.w_rng1 ?_
  | with_reducible refine Sf.w_ilist ?_
  | with_reducible refine Sf.w_itup ?_
  | with_reducible refine Sf.w_istr ?_
  | with_reducible refine Sf.w_kStr ?_
  | with_reducible refine Sf.w_ienum ?_
  | with_reducible refine Sf.w_lc ?_
  | with_reducible refine Sf.w_yes ?_
  | with_reducible refine Sf.w_tstT ?_
  | with_reducible refine Sf.w_tstF ?_
  | with_reducible refine Sf.w_each rfl ?_
  | with_reducible refine Sf.w_dget ?_
  | with_reducible refine Sf.w_din ?_
  | with_reducible refine Sf.w_dnotin ?_
  | ((with_reducible refine' Sf.w_kDInI ?hp_ ?_); (case hp_ => walk_at "hp"))
  | ((with_reducible refine' Sf.w_kDInS ?hp_ ?_); (case hp_ => walk_at "hp"))
  | ((with_reducible refine' Sf.w_kDNotInI ?hp_ ?_); (case hp_ => walk_at "hp"))
  | ((with_reducible refine' Sf.w_kDNotInS ?hp_ ?_); (case hp_ => walk_at "hp"))
  | with_reducible refine Sf.w_dget1 ?_
  | ((with_reducible refine' Sf.w_kDGet1 ?hp_ ?_); (case hp_ => walk_at "hp"))
  | ((with_reducible refine' Sf.w_kDGet1I ?hp_ ?_); (case hp_ => walk_at "hp"))
  | ((with_reducible refine' Sf.w_kDGet1S ?hp_ ?_); (case hp_ => walk_at "hp"))
  | with_reducible refine Sf.w_sdput ?_
  | with_reducible refine Sf.w_dc ?_
  | with_reducible refine Sf.w_tstDT ?_
  | with_reducible refine Sf.w_eachD rfl ?_
  | with_reducible refine Sf.w_lstRg ?_
  | with_reducible refine Sf.w_min2 ?_
  | with_reducible refine Sf.w_max2 ?_
  | with_reducible refine Sf.w_starts ?_
  | with_reducible refine Sf.w_ends ?_
  | with_reducible refine Sf.w_rg1 ?_
  | with_reducible refine Sf.w_kRg1 ?_
  | with_reducible refine Sf.w_aug rfl ?_
  | with_reducible refine Sf.w_ipI ?_
  | with_reducible refine Sf.w_isi_int_int ?_
  | with_reducible refine Sf.w_isi_int_bool ?_
  | with_reducible refine Sf.w_isi_int_str ?_
  | with_reducible refine Sf.w_isi_str_int ?_
  | with_reducible refine Sf.w_isi_str_bool ?_
  | with_reducible refine Sf.w_isi_str_str ?_
  | with_reducible refine Sf.w_isi_bool_int ?_
  | with_reducible refine Sf.w_isi_bool_bool ?_
  | with_reducible refine Sf.w_isi_bool_str ?_
  | with_reducible refine Sf.w_isi_NoneType_int ?_
  | with_reducible refine Sf.w_isi_NoneType_str ?_
  | with_reducible refine Sf.w_isi_NoneType_bool ?_
  | ((with_reducible refine' Sf.w_lenL ?hp_ ?_); (case hp_ => walk_at "hp"))
  | ((with_reducible refine' Sf.w_lenT ?hp_ ?_); (case hp_ => walk_at "hp"))
  | ((with_reducible refine' Sf.w_lenD ?hp_ ?_); (case hp_ => walk_at "hp"))
  | ((with_reducible refine' Sf.w_kList ?hp_ ?_); (case hp_ => walk_at "hp"))
  | ((with_reducible refine' Sf.w_kTupI ?hp_ ?_); (case hp_ => walk_at "hp"))
  | ((with_reducible refine' Sf.w_kEnum ?hp_ ?_); (case hp_ => walk_at "hp"))
  | ((with_reducible refine' Sf.w_ixT ?hp_ ?rf_ ?_); (case hp_ => walk_at "hp"); (case rf_ => exact rfl))
  | ((with_reducible refine' Sf.w_ixL ?hp_ ?rf_ ?_); (case hp_ => walk_at "hp"); (case rf_ => exact rfl))
  | ((with_reducible refine' Sf.w_gtup ?hp_ ?rf_ ?_); (case hp_ => walk_at "hp"); (case rf_ => exact rfl)))
local macro_rules | `(tactic| walk_at "gs") => `(tactic| repeat walk_at "s0")
local macro_rules | `(tactic| walk_at "go") => `(tactic| repeat (first | walk_at "s0" | with_reducible refine Sf.w_seq ?_))
namespace Sf
open PySem PySem.Spec PyProof.Rows L2 TL
theorem cut3s (z : Str) {a b : Int} (h0 : 0 ≤ a) (h1 : a ≤ b) (h2 : b ≤ z.length) : z = cutS z none (some a) ++ cutS z (some a) (some b) ++ cutS z (some b) none ∧ cutS z none (some b) = cutS z none (some a) ++ cutS z (some a) (some b) := by
  have hz : z.length = (tl z).length := len_tl z
  have ix : ∀ c : Int, 0 ≤ c → c ≤ z.length → HT.sIx z.length 0 (some c) = c.toNat ∧ HT.sIx z.length z.length (some c) = c.toNat := fun c c0 c1 => by
    have e : (if c < 0 then (c + (z.length : Int)).toNat else min c.toNat z.length) = c.toNat := by
      rw [if_neg (by omega)]
      omega
    exact ⟨e, e⟩
  have e0 : HT.sIx z.length 0 none = 0 := rfl
  have en : HT.sIx z.length z.length none = z.length := rfl
  obtain ⟨a1, a2⟩ := ix a h0 (by omega)
  obtain ⟨b1, b2⟩ := ix b (by omega) h2
  have t1 : tl (cutS z none (some a)) = (tl z).take a.toNat := by rw [tl_cut, e0, a2, Nat.sub_zero, List.drop_zero]
  have t2 : tl (cutS z (some a) (some b)) = ((tl z).drop a.toNat).take (b.toNat - a.toNat) := by rw [tl_cut, a1, b2]
  have t3 : tl (cutS z (some b) none) = (tl z).drop b.toNat := by
    rw [tl_cut, b1, en, List.take_of_length_le]
    rw [List.length_drop]
    omega
  have t4 : tl (cutS z none (some b)) = (tl z).take b.toNat := by rw [tl_cut, e0, b2, Nat.sub_zero, List.drop_zero]
  have hab : (tl z).take a.toNat ++ ((tl z).drop a.toNat).take (b.toNat - a.toNat) = (tl z).take b.toNat := by
    rw [← List.take_add]
    congr 1
    omega
  constructor
  · refine ext_tl ?_
    rw [tl_append, tl_append, t1, t2, t3, hab, List.take_append_drop]
  · refine ext_tl ?_
    rw [tl_append, t1, t2, t4, hab]
theorem sIx_lo {n : Nat} {c : Int} {d : Nat} (h0 : 0 ≤ c) (h1 : c ≤ n) : HT.sIx n d (some c) = c.toNat := by
  have e : (if c < 0 then (c + (n : Int)).toNat else min c.toNat n) = c.toNat := by
    rw [if_neg (by omega)]
    omega
  exact e
theorem cut_parts (u v r : Str) : cutS (u ++ v ++ r) none (some u.length) = u ∧ cutS (u ++ v ++ r) (some u.length) (some (u.length + v.length)) = v ∧ cutS (u ++ v ++ r) (some (u.length + v.length)) none = r := by
  have hz : (u ++ v ++ r).length = u.length + v.length + r.length := by rw [len_app, len_app]
  have lu := len_tl u
  have lv := len_tl v
  have lr := len_tl r
  have e0 : HT.sIx (u ++ v ++ r).length 0 none = 0 := rfl
  have en : HT.sIx (u ++ v ++ r).length (u ++ v ++ r).length none = (u ++ v ++ r).length := rfl
  have a1 : ∀ d, HT.sIx (u ++ v ++ r).length d (some (u.length : Int)) = u.length := fun d => by rw [sIx_lo (by omega) (by omega)]; omega
  have b1 : ∀ d, HT.sIx (u ++ v ++ r).length d (some ((u.length : Int) + v.length)) = u.length + v.length := fun d => by rw [sIx_lo (by omega) (by omega)]; omega
  refine ⟨ext_tl ?_, ext_tl ?_, ext_tl ?_⟩
  · rw [tl_cut, e0, a1, tl_append, tl_append, Nat.sub_zero, List.drop_zero, List.append_assoc, lu, List.take_left]
  · rw [tl_cut, a1, b1, tl_append, tl_append, List.append_assoc, lu, List.drop_left, show (tl u).length + v.length - (tl u).length = (tl v).length by omega, List.take_left]
  · rw [tl_cut, b1, en, tl_append, tl_append, show u.length + v.length = (tl u ++ tl v).length by rw [List.length_append]; omega, List.drop_left, List.take_of_length_le]
    rw [List.length_append]
    omega
end Sf
namespace Sf
open PySem PySem.Spec PyProof.Rows L2 TL
/-! ### steps -/
inductive Sp3 where
  | there (i : Int) (x : Str)
  | back (i : Int) (x : Str)
  | swap (i : Int) (x y : Str)
def Sp3.vs : Sp3 → List V
  | .there i x => [.str (Str.ofString "there"), .int i, .str x]
  | .back i x => [.str (Str.ofString "back"), .int i, .str x]
  | .swap i x y => [.str (Str.ofString "swap"), .int i, .str x, .str y]
def Sp3.at : Sp3 → Int
  | .there i _ => i
  | .back i _ => i
  | .swap i _ _ => i
def rnd (x : Str) : Str := x ++ backT x
def Sp3.old : Sp3 → Str
  | .there _ x => x
  | .back _ x => rnd x ++ x
  | .swap _ x y => rnd x ++ rnd y
def Sp3.new : Sp3 → Str
  | .there _ x => rnd x ++ x
  | .back _ x => x
  | .swap _ x y => rnd y ++ rnd x
def WdN (x : Str) : Prop := Wd x ∧ 1 ≤ x.length ∧ x.length ≤ 60
def Sp3.Ok : Sp3 → Prop
  | .there _ x => WdN x
  | .back _ x => WdN x
  | .swap _ x y => WdN x ∧ WdN y
theorem tk_snoc {α : Type} {l : List α} {i : Nat} {x : α} (h : l[i]? = some x) : l.take (i + 1) = l.take i ++ [x] := by
  rw [List.take_add_one, h]
  rfl
theorem rnd_len (x : Str) : (rnd x).length = x.length + x.length := by unfold rnd; rw [len_app, backT_len]
theorem rnd_wd {x : Str} (h : Wd x) : Wd (rnd x) := h.app (backT_wd h)
section
variable {σ : L2.St} {H : Hp} {Q : VK} {K : PySem.W.Frag}
theorem dp_strs : ∀ ws : List Str, DpAll K H (ws.map V.str) (ws.map .str)
  | [] => .nil
  | x :: r => .cons (.str x) (dp_strs r)
theorem step_shaped {z : Str} {i : Int} {ws : List Str} (hz : PyData.canLay0 (.str z) = true) (hw : ∀ x ∈ ws, Wd x) : SeqAt.shaped (.tuple (.str z :: .int i :: ws.map .str)) = true := by
  unfold SeqAt.shaped
  rw [PyData.canLay0, PyData.canLayAll0, hz, PyData.canLayAll0, PyData.canLay0, lay_all (fun x hx => strOk_wd (hw x hx)), PyData.depth, PyData.depthAll, PyData.depthAll, PyData.depth, PyData.depth]
  have := depth_all (f := PyData.str) (l := ws) (k := 60) (fun x _ => by rw [PyData.depth]; omega)
  simp
  omega
/-- a comprehension over a tuple -/
theorem w_lcT {a : Addr} {xs : List V} {g : TG} {tt : TT} {te : TE} {vs : List Nat} (Pv : Addr → Nat → Hp → Prop) (h0 : ∀ p H1, H1 p = some (.lst []) → Nw p H H1 → Pv p 0 H1)
    (hl : ∀ p i H, i ≤ xs.length → Pv p i H → H a = some (.tup xs)) (hs : ∀ p i x H, xs[i]? = some x → Pv p i H → g x (wipe σ vs) H (kEach tt te vs σ p (Pv p (i + 1)))) (hd : ∀ p H, Pv p xs.length H → Q (.ref p) H) : kLc g tt te vs σ Q (Itt K a) H := by
  refine w_lcG (n := xs.length) Pv h0 (fun p i H hi h => ⟨xs, xs[i], SqT.of (hl p i H (Nat.le_of_lt hi) h), List.getElem?_eq_getElem hi⟩) (fun p H h => ⟨xs, SqT.of (hl p _ H (Nat.le_refl _) h), Nat.le_refl _⟩) ?_ hd
  rintro p i x H H' hi h ⟨rfl, hx⟩
  exact hs p i x H' (hx xs (SqT.of (hl p i H' (Nat.le_of_lt hi) h))) h
theorem cut2 (a b : V) (l : List V) : cutV (a :: b :: l) (some 2) none = l := by
  unfold cutV
  have e : HT.sIx (a :: b :: l).length 0 (some 2) = 2 := by
    unfold HT.sIx
    simp
  rw [e]
  show (List.take ((a :: b :: l).length - 2) l) = l
  simp
theorem w_slT2 {p : Addr} {a b : V} {l : List V} (h : H p = some (.tup (a :: b :: l))) (k : ∀ q H1, H1 q = some (.tup l) → Nw q H H1 → Q (.ref q) H1) : rSlA K (.ref p) (some 2) none H Q := by
  refine ⟨p, _, rfl, SqT.of h, fun z => ?_, fun _ q n => ?_⟩
  · exfalso
    have e := z.1
    unfold HT.sIx at e
    simp at e
  · rw [cut2]
    exact k q _ upd_same (.mk' n)
end
theorem Sp3.len_old {s : Sp3} (h : s.Ok) : s.old.length ≤ 240 ∧ s.new.length ≤ 240 := by
  cases s with
  | there i x => obtain ⟨_, _, hl⟩ := h; show x.length ≤ 240 ∧ (rnd x ++ x).length ≤ 240; rw [len_app, rnd_len]; omega
  | back i x => obtain ⟨_, _, hl⟩ := h; show (rnd x ++ x).length ≤ 240 ∧ x.length ≤ 240; rw [len_app, rnd_len]; omega
  | swap i x y => obtain ⟨⟨_, _, hl⟩, _, _, hl'⟩ := h; unfold Sp3.old Sp3.new; rw [len_app, len_app, rnd_len, rnd_len]; omega
def Sp3.does (s : Sp3) (z : Str) : Str := cutS z none (some s.at) ++ s.new ++ cutS z (some (s.at + s.old.length)) none
structure Sp3.Fits (s : Sp3) (z : Str) : Prop where
  ok : s.Ok
  lo : 0 ≤ s.at
  hi : s.at ≤ z.length
  eq : cutS z (some s.at) (some (s.at + s.old.length)) = s.old
theorem cut_le (z : Str) (a b : Option Int) : (cutS z a b).length ≤ z.length := by
  rw [len_tl, len_tl, tl_cut, List.length_take, List.length_drop]
  omega
end Sf
namespace Sf
open PySem PySem.Spec PyProof.Rows L2 TL
/-- a round way more keeps the track -/
theorem spot_thrice {v : Str} (hv : Wd v) (s : Str) : spotP (v ++ backT v ++ v) s ↔ spotP v s := by
  rw [← spot_join (hv.app (backT_wd hv)) hv s, short_round hv]
  constructor
  · rintro (h | ⟨t, ht, rfl⟩)
    · exact (spot_round hv s).mp h
    · obtain ⟨j, hj, rfl⟩ := ht
      rw [nil_glu (short_rdc fun c hc => hv c (List.mem_of_mem_take hc))]
      exact ⟨j, hj, rfl⟩
  · exact fun h => .inl ((spot_round hv s).mpr h)
theorem short_thrice {v : Str} (hv : Wd v) : shortT (v ++ backT v ++ v) = shortT v := by
  unfold shortT
  rw [tl_append, tl_append]
  exact congrArg mkS (short_mid (u := tl v) hv hv)
theorem spot_put {u v r : Str} (hu : Wd u) (hv : Wd v) (hr : Wd r) (s : Str) : spotP (u ++ (v ++ backT v ++ v) ++ r) s ↔ spotP (u ++ v ++ r) s := by
  have h3 : Wd (v ++ backT v ++ v) := (hv.app (backT_wd hv)).app hv
  rw [← spot_join (hu.app h3) hr s, ← spot_join (hu.app hv) hr s, ← glu_shortT hu h3, ← glu_shortT hu hv, short_thrice hv]
  unfold joinP
  rw [← spot_join hu h3 s, ← spot_join hu hv s]
  unfold joinP
  simp only [spot_thrice hv]
theorem short_put {u v r : Str} (hu : Wd u) (hv : Wd v) (hr : Wd r) : shortT (u ++ (v ++ backT v ++ v) ++ r) = shortT (u ++ v ++ r) := by
  have h3 : Wd (v ++ backT v ++ v) := (hv.app (backT_wd hv)).app hv
  rw [← glu_shortT (hu.app h3) hr, ← glu_shortT (hu.app hv) hr, ← glu_shortT hu h3, ← glu_shortT hu hv, short_thrice hv]
end Sf
namespace Sf
open PySem PySem.Spec PyProof.Rows L2 TL
theorem spot_rnd2 {x y : Str} (hx : Wd x) (hy : Wd y) (s : Str) : spotP (rnd x ++ rnd y) s ↔ spotP (rnd x) s ∨ spotP (rnd y) s := by
  rw [← spot_join (rnd_wd hx) (rnd_wd hy) s]
  unfold joinP
  rw [show shortT (rnd x) = shortT (x ++ backT x) from rfl, short_round hx]
  constructor
  · rintro (h | ⟨t, ht, rfl⟩)
    · exact .inl h
    · obtain ⟨j, hj, rfl⟩ := ht
      rw [nil_glu (short_rdc fun c hc => rnd_wd hy c (List.mem_of_mem_take hc))]
      exact .inr ⟨j, hj, rfl⟩
  · rintro (h | ⟨j, hj, rfl⟩)
    · exact .inl h
    · refine .inr ⟨_, ⟨j, hj, rfl⟩, ?_⟩
      rw [nil_glu (short_rdc fun c hc => rnd_wd hy c (List.mem_of_mem_take hc))]
theorem short_rnd2 {x y : Str} (hx : Wd x) (hy : Wd y) : shortT (rnd x ++ rnd y) = shortT (rnd y ++ rnd x) := by
  rw [← glu_shortT (rnd_wd hx) (rnd_wd hy), ← glu_shortT (rnd_wd hy) (rnd_wd hx), show shortT (rnd x) = shortT (x ++ backT x) from rfl, short_round hx, show shortT (rnd y) = shortT (y ++ backT y) from rfl, short_round hy]
theorem spot_mid {u v v' r : Str} (hu : Wd u) (hv : Wd v) (hv' : Wd v') (hr : Wd r) (h : ∀ s, spotP v s ↔ spotP v' s) (e : shortT v = shortT v') (s : Str) : spotP (u ++ v ++ r) s ↔ spotP (u ++ v' ++ r) s := by
  rw [← spot_join (hu.app hv) hr s, ← spot_join (hu.app hv') hr s, ← glu_shortT hu hv, ← glu_shortT hu hv', e]
  unfold joinP
  rw [← spot_join hu hv s, ← spot_join hu hv' s]
  unfold joinP
  simp only [h]
theorem short_mid2 {u v v' r : Str} (hu : Wd u) (hv : Wd v) (hv' : Wd v') (hr : Wd r) (e : shortT v = shortT v') : shortT (u ++ v ++ r) = shortT (u ++ v' ++ r) := by
  rw [← glu_shortT (hu.app hv) hr, ← glu_shortT (hu.app hv') hr, ← glu_shortT hu hv, ← glu_shortT hu hv', e]
theorem Sp3.same {s : Sp3} (h : s.Ok) : Wd s.old ∧ Wd s.new ∧ (∀ t, spotP s.new t ↔ spotP s.old t) ∧ shortT s.new = shortT s.old := by
  cases s with
  | there i x => exact ⟨h.1, (rnd_wd h.1).app h.1, fun t => spot_thrice h.1 t, short_thrice h.1⟩
  | back i x => exact ⟨(rnd_wd h.1).app h.1, h.1, fun t => (spot_thrice h.1 t).symm, (short_thrice h.1).symm⟩
  | swap i x y =>
    obtain ⟨⟨hx, _⟩, hy, _⟩ := h
    exact ⟨(rnd_wd hx).app (rnd_wd hy), (rnd_wd hy).app (rnd_wd hx), fun t => (spot_rnd2 hy hx t).trans ((Or.comm).trans (spot_rnd2 hx hy t).symm), (short_rnd2 hx hy).symm⟩
/-- a step keeps the track -/
theorem Sp3.Fits.keeps {s : Sp3} {z : Str} (h : s.Fits z) (hz : Wd z) (hb : s.at + s.old.length ≤ z.length) : Wd (s.does z) ∧ (∀ t, spotP (s.does z) t ↔ spotP z t) ∧ shortT (s.does z) = shortT z := by
  obtain ⟨ho, hn, hs, he⟩ := Sp3.same h.ok
  obtain ⟨e1, _⟩ := cut3s z h.lo (show s.at ≤ s.at + s.old.length by omega) hb
  rw [h.eq] at e1
  have hu : Wd (cutS z none (some s.at)) := hz.cut
  have hr : Wd (cutS z (some (s.at + s.old.length)) none) := hz.cut
  refine ⟨(hu.app hn).app hr, fun t => ?_, ?_⟩
  · have := spot_mid hu hn ho hr hs he t
    rw [← e1] at this
    exact this
  · have := short_mid2 hu hn ho hr he
    rw [← e1] at this
    exact this
end Sf
namespace Sf
open PySem PySem.Spec PyProof.Rows L2 TL
def Sp3.undo : Sp3 → Sp3
  | .there i x => .back i x
  | .back i x => .there i x
  | .swap i x y => .swap i y x
theorem Sp3.Fits.undone {s : Sp3} {z : Str} (h : s.Fits z) (hb : s.at + s.old.length ≤ z.length) : s.undo.Fits (s.does z) ∧ s.undo.does (s.does z) = z := by
  have h0 := h.lo
  have eo : s.undo.old = s.new := by cases s <;> rfl
  have en : s.undo.new = s.old := by cases s <;> rfl
  have ea : s.undo.at = s.at := by cases s <;> rfl
  obtain ⟨e1, _⟩ := cut3s z h.lo (show s.at ≤ s.at + s.old.length by omega) hb
  rw [h.eq] at e1
  have lu : ((cutS z none (some s.at)).length : Int) = s.at := by
    rw [len_tl, tl_cut, List.length_take, List.length_drop, sIx_lo h.lo (by omega), show HT.sIx z.length 0 none = 0 from rfl]
    have := len_tl z
    omega
  obtain ⟨p1, p2, p3⟩ := cut_parts (cutS z none (some s.at)) s.new (cutS z (some (s.at + s.old.length)) none)
  rw [lu] at p1 p2 p3
  refine ⟨⟨?_, ?_, ?_, ?_⟩, ?_⟩
  · cases s with
    | there i x => exact h.ok
    | back i x => exact h.ok
    | swap i x y => exact ⟨h.ok.2, h.ok.1⟩
  · rw [ea]; exact h.lo
  · rw [ea]
    unfold Sp3.does
    rw [len_app, len_app]
    omega
  · rw [ea, eo]
    exact p2
  · unfold Sp3.does
    rw [ea, eo, en]
    unfold Sp3.does at *
    rw [p1, p3, ← e1]
end Sf
namespace Sf
open PySem PySem.Spec PyProof.Rows L2 TL
/-! ### flat steps: the mathematics -/
/-- steps that lead from a word to another one, each as it fits -/
def Goes : Str → List Sp3 → Str → Prop
  | z, [], z' => z = z'
  | z, s :: ss, z' => s.Fits z ∧ s.at + s.old.length ≤ z.length ∧ z.length ≤ 40000 ∧ Goes (s.does z) ss z'
theorem Goes.app : ∀ {ss ts : List Sp3} {x y z : Str}, Goes x ss y → Goes y ts z → Goes x (ss ++ ts) z
  | [], _, _, _, _, h, h2 => by rw [show _ = _ from h]; exact h2
  | _ :: _, _, _, _, _, ⟨h1, h2, h3, h4⟩, h5 => ⟨h1, h2, h3, h4.app h5⟩
theorem Goes.nil {x : Str} : Goes x [] x := rfl
theorem fits_at {s : Sp3} (u r : Str) (ok : s.Ok) (ha : s.at = (u.length : Int)) : s.Fits (u ++ s.old ++ r) ∧ s.does (u ++ s.old ++ r) = u ++ s.new ++ r ∧ s.at + s.old.length ≤ ((u ++ s.old ++ r).length : Int) := by
  obtain ⟨h1, h2, h3⟩ := cut_parts u s.old r
  have hl : (u ++ s.old ++ r).length = u.length + s.old.length + r.length := by rw [len_app, len_app]
  refine ⟨⟨ok, by omega, by omega, by rw [ha]; exact h2⟩, ?_, by omega⟩
  unfold Sp3.does
  rw [ha, h1, h3]
theorem goes_one {s : Sp3} {z z' : Str} (u r : Str) (ok : s.Ok) (ha : s.at = (u.length : Int)) (e1 : z = u ++ s.old ++ r) (e2 : z' = u ++ s.new ++ r) (hl : z.length ≤ 40000) : Goes z [s] z' := by
  obtain ⟨h1, h2, h3⟩ := fits_at u r ok ha
  subst e1 e2
  exact ⟨h1, h3, hl, h2⟩
theorem Goes.keeps : ∀ {ss : List Sp3} {x y : Str}, Goes x ss y → Wd x → Wd y ∧ (∀ t, spotP y t ↔ spotP x t) ∧ shortT y = shortT x
  | [], x, y, h, hx => by rw [← show x = y from h]; exact ⟨hx, fun _ => Iff.rfl, rfl⟩
  | s :: ss, x, y, ⟨h1, h2, _, h4⟩, hx => by
    obtain ⟨a1, a2, a3⟩ := h1.keeps hx h2
    obtain ⟨b1, b2, b3⟩ := h4.keeps a1
    exact ⟨b1, fun t => (b2 t).trans (a2 t), b3.trans a3⟩
/-! rows of round ways -/
theorem row_snoc (S : List Str) (s : Str) : rowL (S ++ [s]) = rowL S ++ (tl s ++ backL (tl s)) := by
  rw [row_app]
  unfold rowL
  rw [List.map_cons, List.map_nil, List.flatten_cons, List.flatten_nil, List.append_nil]
theorem row_cons (s : Str) (S : List Str) : rowL (s :: S) = tl s ++ backL (tl s) ++ rowL S := by
  unfold rowL
  rw [List.map_cons, List.flatten_cons]
theorem tl_rnd (x : Str) : tl (rnd x) = tl x ++ backL (tl x) := by
  unfold rnd
  rw [tl_append]
  rfl
theorem mk_app (a b : List Nat) : mkS (a ++ b) = mkS a ++ mkS b := ext_tl (by rw [tl_append, tl_mkS, tl_mkS, tl_mkS])
theorem mk_tl (x : Str) : mkS (tl x) = x := ext_tl (tl_mkS _)
theorem row_sn (S : List Str) (s : Str) (r : List Nat) : mkS (rowL (S ++ [s]) ++ r) = mkS (rowL S) ++ rnd s ++ mkS r := ext_tl (by rw [tl_mkS, tl_append, tl_append, tl_mkS, tl_mkS, tl_rnd, row_snoc])
/-- words of spots: how long -/
theorem st_len {S : List Str} {n : Nat} (hS : ∀ s ∈ S, s.length ≤ 60) (hn : S.length ≤ n) (r : List Nat) : (mkS (rowL S ++ r)).length ≤ n * 120 + r.length := by
  have := row_len (ts := S) (n := 60) hS
  rw [mkS_len, List.length_append]
  have h2 : S.length * (2 * 60) ≤ n * 120 := Nat.mul_le_mul_right 120 hn
  omega
/-! unrolled -/
def lastIs (e : Str) (c : Nat) : Bool := decide ((tl e).getLast? = some (flipC c))
structure Unr where
  S : List Str
  e : Str
  ss : List Sp3
def Unr.z (u : Unr) (r : List Nat) : Str := mkS (rowL u.S ++ tl u.e ++ r)
/-- a word with its last sign off -/
theorem cutL_snoc {e : Str} {c : Nat} (h : (tl e).getLast? = some c) : tl e = tl (cutL e) ++ [c] := by
  unfold cutL
  rw [tl_mkS]
  obtain ⟨ne, hl⟩ := List.getLast?_eq_some_iff.mp h
  rw [hl, List.dropLast_concat]
def rolls (S : List Str) (near : Str) (x : Nat) : List Sp3 := if near = nil then [] else [.there ((rowL S).length : Int) near, .swap (((rowL S).length : Int) + near.length) (backT near) (one x)]
theorem goes_roll {S : List Str} {near : Str} {x : Nat} {r : List Nat} (hS : ∀ s ∈ S, s.length ≤ 60) (hn : S.length ≤ 200) (hr : r.length ≤ 100) (hw : Wd near) (hl : near.length ≤ 60) (hx : sgn x = true) :
    Goes (mkS (rowL S ++ tl near ++ (x :: flipC x :: r))) (rolls S near x) (mkS (rowL (S ++ [mkS (tl near ++ [x])]) ++ tl near ++ r)) := by
  have hb : backL [x] = [flipC x] := rfl
  have fin : mkS (rowL (S ++ [mkS (tl near ++ [x])]) ++ tl near ++ r) = mkS (rowL S ++ (tl near ++ [x] ++ (flipC x :: backL (tl near))) ++ tl near ++ r) := by
    rw [row_snoc, tl_mkS, backL_app, hb]
    rfl
  unfold rolls
  by_cases h : near = nil
  · rw [if_pos h, fin, h]
    show mkS _ = mkS _
    rw [tl_empty]
    simp [backL]
  · rw [if_neg h, fin]
    have hwn : WdN near := ⟨hw, by have := pos_of h; rw [len_tl]; exact this, hl⟩
    have hwb : WdN (backT near) := ⟨backT_wd hw, by rw [backT_len]; exact hwn.2.1, by rw [backT_len]; exact hl⟩
    have hwx : WdN (one x) := ⟨wd_one hx, by rw [len_one]; omega, by rw [len_one]; omega⟩
    have hlen : ∀ q : List Nat, q.length ≤ 400 → (mkS (rowL S ++ q)).length ≤ 40000 := fun q hq => by
      have := st_len (n := 200) hS hn q
      omega
    have ln : (tl near).length ≤ 60 := by rw [← len_tl]; exact hl
    have lb : (backL (tl near)).length = (tl near).length := by unfold backL; rw [List.length_reverse, List.length_map]
    have bb : backL (tl (backT near)) = tl near := by
      have := congrArg tl (backT_back hw)
      exact this
    refine Goes.app (ss := [_]) (y := mkS (rowL S ++ (tl near ++ backL (tl near) ++ tl near) ++ (x :: flipC x :: r))) (ts := [_]) ?_ ?_
    · refine goes_one (s := .there _ near) (mkS (rowL S)) (mkS (x :: flipC x :: r)) hwn (by show _ = ((mkS (rowL S)).length : Int); rw [mkS_len]; rfl) ?_ ?_ ?_
      · refine ext_tl ?_
        rw [tl_append, tl_append, tl_mkS, tl_mkS, tl_mkS]
        rfl
      · refine ext_tl ?_
        rw [tl_append, tl_append, tl_mkS, tl_mkS, tl_mkS]
        show _ = rowL S ++ tl (rnd near ++ near) ++ _
        rw [tl_append, tl_rnd]
      · rw [List.append_assoc]
        exact hlen _ (by rw [List.length_append]; simp only [List.length_cons]; omega)
    · refine goes_one (s := .swap _ (backT near) (one x)) (mkS (rowL S) ++ near) (near ++ mkS r |> fun _ => mkS r) ⟨hwb, hwx⟩ (by show _ = ((mkS (rowL S) ++ near).length : Int); rw [len_app, mkS_len]; rfl) ?_ ?_ ?_
      · refine ext_tl ?_
        rw [tl_append, tl_append, tl_append, tl_mkS, tl_mkS, tl_mkS]
        show _ = rowL S ++ tl near ++ tl (rnd (backT near) ++ rnd (one x)) ++ r
        rw [tl_append, tl_rnd, tl_rnd, bb, tl_one, hb]
        simp [backT, tl_mkS, List.append_assoc]
      · refine ext_tl ?_
        rw [tl_append, tl_append, tl_append, tl_mkS, tl_mkS, tl_mkS]
        show _ = rowL S ++ tl near ++ tl (rnd (one x) ++ rnd (backT near)) ++ r
        rw [tl_append, tl_rnd, tl_rnd, bb, tl_one, hb]
        simp [backT, tl_mkS, List.append_assoc]
      · rw [List.append_assoc]
        exact hlen _ (by rw [List.length_append, List.length_append, List.length_append]; simp only [List.length_cons]; omega)
/-! swaps -/
theorem goes_swap {A B : List Str} {x y : Str} {r : List Nat} (hA : ∀ s ∈ A ++ x :: y :: B, WdN s) (hn : (A ++ x :: y :: B).length ≤ 200) (hr : r.length ≤ 100) :
    Goes (mkS (rowL (A ++ x :: y :: B) ++ r)) [.swap ((rowL A).length : Int) x y] (mkS (rowL (A ++ y :: x :: B) ++ r)) := by
  have hx := hA x (by simp)
  have hy := hA y (by simp)
  refine goes_one (s := .swap _ x y) (mkS (rowL A)) (mkS (rowL B ++ r)) ⟨hx, hy⟩ (by show _ = ((mkS (rowL A)).length : Int); rw [mkS_len]; rfl) ?_ ?_ ?_
  · refine ext_tl ?_
    rw [tl_append, tl_append, tl_mkS, tl_mkS, tl_mkS, row_app, row_cons, row_cons]
    show _ = rowL A ++ tl (rnd x ++ rnd y) ++ _
    rw [tl_append, tl_rnd, tl_rnd]
    simp [List.append_assoc]
  · refine ext_tl ?_
    rw [tl_append, tl_append, tl_mkS, tl_mkS, tl_mkS, row_app, row_cons, row_cons]
    show _ = rowL A ++ tl (rnd y ++ rnd x) ++ _
    rw [tl_append, tl_rnd, tl_rnd]
    simp [List.append_assoc]
  · have := st_len (n := 200) (fun s hs => (hA s hs).2.2) hn r
    omega
/-! words by their signs -/
def dgt (a b : Str) : Bool := decide (tl b < tl a)
theorem dgt_trans {a b c : Str} (h1 : dgt a b = false) (h2 : dgt b c = false) : dgt a c = false := by
  unfold dgt at *
  rw [decide_eq_false_iff_not] at *
  rw [List.not_lt] at *
  exact List.le_trans h1 h2
theorem dgt_asym {a b : Str} (h : dgt a b = true) : dgt b a = false := by
  unfold dgt at *
  rw [decide_eq_true_eq] at h
  rw [decide_eq_false_iff_not, List.not_lt]
  exact List.le_of_lt h
theorem dgt_refl (a : Str) : dgt a a = false := by
  unfold dgt
  rw [decide_eq_false_iff_not]
  exact List.lt_irrefl _
theorem dgt_anti {a b : Str} (h1 : dgt a b = false) (h2 : dgt b a = false) : a = b := by
  unfold dgt at *
  rw [decide_eq_false_iff_not, List.not_lt] at *
  exact ext_tl (List.le_antisymm h1 h2)
theorem between_pre : ∀ (s n u : List Nat), s ≤ n → n ≤ s ++ u → s <+: n
  | [], n, u, _, _ => List.nil_prefix
  | a :: s, [], u, h, _ => absurd h (by rw [List.not_le]; exact List.nil_lt_cons _ _)
  | a :: s, b :: n, u, h1, h2 => by
    have h2' : b :: n ≤ a :: (s ++ u) := h2
    rw [List.cons_le_cons_iff] at h1 h2'
    have e : a = b := by rcases h1 with h | ⟨h, _⟩ <;> rcases h2' with k | ⟨k, _⟩ <;> omega
    subst e
    have h1 : s ≤ n := h1.elim (fun h => absurd h (Nat.lt_irrefl _)) fun h => h.2
    have h2 : n ≤ s ++ u := h2'.elim (fun h => absurd h (Nat.lt_irrefl _)) fun h => h.2
    exact List.cons_prefix_cons.mpr ⟨rfl, between_pre s n u h1 h2⟩
/-! backs, tips -/
def prs (s t : Str) : Bool := (tl s).isPrefixOf (tl t)
theorem prs_iff {s t : Str} : prs s t = true ↔ tl s <+: tl t := List.isPrefixOf_iff_prefix
def tipD : List Str → List Str
  | [] => []
  | [s] => [s]
  | s :: t :: l => if prs s t = true then tipD (t :: l) else s :: tipD (t :: l)
theorem tipD_head : ∀ (t : Str) (l : List Str), ∃ h k, tipD (t :: l) = h :: k ∧ tl t <+: tl h
  | t, [] => ⟨t, [], rfl, List.prefix_refl _⟩
  | t, u :: l => by
    by_cases e : prs t u = true
    · obtain ⟨h, k, e1, e2⟩ := tipD_head u l
      refine ⟨h, k, ?_, (prs_iff.mp e).trans e2⟩
      show (if prs t u = true then tipD (u :: l) else t :: tipD (u :: l)) = _
      rw [if_pos e, e1]
    · refine ⟨t, tipD (u :: l), ?_, List.prefix_refl _⟩
      show (if prs t u = true then tipD (u :: l) else t :: tipD (u :: l)) = _
      rw [if_neg e]
theorem tipD_sub : ∀ (l : List Str), ∀ s ∈ tipD l, s ∈ l
  | [], s, h => by cases h
  | [t], s, h => h
  | t :: u :: l, s, h => by
    unfold tipD at h
    split at h
    · exact List.mem_cons_of_mem _ (tipD_sub (u :: l) s h)
    · rcases List.mem_cons.mp h with rfl | h
      · exact List.mem_cons_self
      · exact List.mem_cons_of_mem _ (tipD_sub (u :: l) s h)
theorem tipD_sublist : ∀ (l : List Str), (tipD l).Sublist l
  | [] => .slnil
  | [t] => .refl _
  | t :: u :: l => by
    unfold tipD
    split
    · exact (tipD_sublist (u :: l)).cons t
    · exact (tipD_sublist (u :: l)).cons_cons t
theorem tipD_all : ∀ (l : List Str), ∀ s ∈ l, ∃ t ∈ tipD l, tl s <+: tl t
  | [t], s, h => ⟨t, List.mem_singleton.mpr rfl, by rw [List.mem_singleton.mp h]; exact List.prefix_refl _⟩
  | t :: u :: l, s, h => by
    rcases List.mem_cons.mp h with rfl | h
    · obtain ⟨x, k, e1, e2⟩ := tipD_head s (u :: l)
      exact ⟨x, by rw [e1]; exact List.mem_cons_self, e2⟩
    · obtain ⟨x, hx, e⟩ := tipD_all (u :: l) s h
      refine ⟨x, ?_, e⟩
      unfold tipD
      split
      · exact hx
      · exact List.mem_cons_of_mem _ hx
theorem tipD_anti : ∀ (l : List Str), (l.Pairwise fun a b => dgt a b = false) → (tipD l).Pairwise fun a b => ¬ (tl a <+: tl b)
  | [], _ => .nil
  | [t], _ => List.pairwise_singleton _ _
  | t :: u :: l, h => by
    have h' := List.pairwise_cons.mp h
    have ih := tipD_anti (u :: l) h'.2
    unfold tipD
    split
    · exact ih
    · rename_i np
      refine List.pairwise_cons.mpr ⟨fun x hx hp => np (prs_iff.mpr ?_), ih⟩
      have hxl := tipD_sub _ x hx
      have h1 := h'.1 u List.mem_cons_self
      have h2 : dgt u x = false := by
        rcases List.mem_cons.mp hxl with rfl | z
        · exact dgt_refl _
        · exact (List.pairwise_cons.mp h'.2).1 x z
      obtain ⟨v, hv⟩ := hp
      unfold dgt at h1 h2
      rw [decide_eq_false_iff_not, List.not_lt] at h1 h2
      rw [← hv] at h2
      exact between_pre _ _ _ h1 h2
theorem app_ge : ∀ (l v : List Nat), ¬ (l ++ v < l)
  | [], v => List.not_lt_nil _
  | a :: l, v => fun h => by
    have h : a :: (l ++ v) < a :: l := h
    rw [List.cons_lt_cons_iff] at h
    exact h.elim (fun z => Nat.lt_irrefl _ z) fun z => app_ge l v z.2
theorem prefix_dgt {a b : Str} (h : tl a <+: tl b) : dgt a b = false := by
  unfold dgt
  rw [decide_eq_false_iff_not]
  obtain ⟨v, hv⟩ := h
  rw [← hv]
  exact app_ge _ _
/-- no two of the tips begin one another -/
theorem tipD_two {l : List Str} (h : l.Pairwise fun a b => dgt a b = false) : ∀ a ∈ tipD l, ∀ b ∈ tipD l, tl a <+: tl b → a = b := fun a ha b hb hp => by
  have hs := h.sublist (tipD_sublist l)
  have hn := tipD_anti l h
  obtain ⟨i, hi, rfl⟩ := List.mem_iff_getElem.mp ha
  obtain ⟨j, hj, rfl⟩ := List.mem_iff_getElem.mp hb
  rcases Nat.lt_trichotomy i j with z | z | z
  · exact absurd hp (List.pairwise_iff_getElem.mp hn i j hi hj z)
  · subst z; rfl
  · exact dgt_anti (prefix_dgt hp) (List.pairwise_iff_getElem.mp hs j i hj hi z)
theorem tipD_nodup {l : List Str} (h : l.Pairwise fun a b => dgt a b = false) : (tipD l).Nodup := (tipD_anti l h).imp fun {a b} np e => np (by rw [e]; exact List.prefix_refl _)
theorem goes_back {A : List Str} {s t : Str} {l : List Str} {r : List Nat} (hA : ∀ x ∈ A ++ s :: t :: l, WdN x) (hn : (A ++ s :: t :: l).length ≤ 200) (hr : r.length ≤ 100) (hp : prs s t = true) :
    Goes (mkS (rowL (A ++ [s]) ++ rowL (tipD (t :: l)) ++ r)) [.back ((rowL A).length : Int) s] (mkS (rowL A ++ rowL (tipD (s :: t :: l)) ++ r)) := by
  obtain ⟨h, k, e1, e2⟩ := tipD_head t l
  have e3 : tipD (s :: t :: l) = tipD (t :: l) := by
    show (if prs s t = true then tipD (t :: l) else s :: tipD (t :: l)) = _
    rw [if_pos hp]
  obtain ⟨v, hv⟩ := (prs_iff.mp hp).trans e2
  rw [e3]
  have hs := hA s (by simp)
  refine goes_one (s := .back _ s) (mkS (rowL A)) (mkS (v ++ backL (tl h) ++ rowL k ++ r)) hs (by show _ = ((mkS (rowL A)).length : Int); rw [mkS_len]; rfl) ?_ ?_ ?_
  · refine ext_tl ?_
    rw [tl_append, tl_append, tl_mkS, tl_mkS, tl_mkS, row_snoc, e1, row_cons, ← hv]
    show _ = rowL A ++ tl (rnd s ++ s) ++ _
    rw [tl_append, tl_rnd]
    simp [List.append_assoc]
  · refine ext_tl ?_
    rw [tl_append, tl_append, tl_mkS, tl_mkS, tl_mkS, e1, row_cons, ← hv]
    show _ = rowL A ++ tl s ++ _
    simp [List.append_assoc]
  · rw [← row_app]
    have h2 : ((A ++ [s]) ++ tipD (t :: l)).length ≤ 200 := by
      have := (tipD_sublist (t :: l)).length_le
      simp only [List.length_append, List.length_cons, List.length_nil] at hn this ⊢
      omega
    have := st_len (n := 200) (S := (A ++ [s]) ++ tipD (t :: l)) (fun x hx => ?_) h2 r
    · omega
    · rcases List.mem_append.mp hx with z | z
      · rcases List.mem_append.mp z with y | y
        · exact (hA x (by simp [y])).2.2
        · rw [List.mem_singleton.mp y]; exact hs.2.2
      · have := tipD_sub _ x z
        exact (hA x (by simp only [List.mem_append, List.mem_cons] at this ⊢; rcases this with h | h <;> simp [h])).2.2
/-! the plain word -/
theorem plain_end {x e : Str} {L T : List Str} {ss : List Sp3} (hx : Wd x) (hL : Rises L) (hm : ∀ s, s ∈ L ↔ spotP x s) (hg : Goes x ss (mkS (rowL T ++ tl e))) (hT : Rises T) (hR : ∀ t ∈ T, Rdc t ∧ t ≠ nil) (he : Rdc e)
    (ha : ∀ a ∈ T, ∀ b ∈ T, tl a <+: tl b → a = b) (hb : ∃ t ∈ T, tl e <+: tl t) : mkS (rowL T ++ tl e) = plainT L (shortT x) := by
  obtain ⟨_, k2, k3⟩ := hg.keeps hx
  obtain ⟨_, r2, r3⟩ := row_spots he (ts := T) fun t ht => (hR t ht).1
  have ee : shortT x = e := k3.symm.trans r2
  have hsp : ∀ s, s ∈ L ↔ (∃ t ∈ T, ∃ j, s = pre t j) := fun s => by
    rw [hm, ← k2, r3]
    constructor
    · rintro (⟨t, ht, h⟩ | h)
      · exact ⟨t, ht, (spot_rdc (hR t ht).1 s).mp h⟩
      · obtain ⟨j, rfl⟩ := (spot_rdc he s).mp h
        obtain ⟨t, ht, v, hv⟩ := hb
        refine ⟨t, ht, min j (tl e).length, ext_tl ?_⟩
        unfold pre
        rw [tl_mkS, tl_mkS, ← hv, List.take_append_of_le_length (Nat.min_le_right _ _), ← List.take_eq_take_min]
    · rintro ⟨t, ht, j, rfl⟩
      exact .inl ⟨t, ht, (spot_rdc (hR t ht).1 _).mpr ⟨j, rfl⟩⟩
  have key : tips L = T := by
    refine rises_ext (hL.filter _) hT fun s => ?_
    unfold tips
    rw [List.mem_filter, Bool.and_eq_true, decide_eq_true_eq, decide_eq_true_eq]
    constructor
    · rintro ⟨h1, h2, h3⟩
      obtain ⟨t, ht, j, rfl⟩ := (hsp _).mp h1
      by_cases hj : (tl t).length ≤ j
      · rw [pre_all t hj]
        exact ht
      · refine absurd (List.mem_map.mpr ⟨pre t (j + 1), (hsp _).mpr ⟨t, ht, j + 1, rfl⟩, ?_⟩) h3
        rw [cutL_pre, pre_pre]
        congr 1
        unfold pre
        rw [tl_mkS, List.length_take]
        omega
    · intro ht
      refine ⟨(hsp s).mpr ⟨s, ht, (tl s).length, (pre_all s (Nat.le_refl _)).symm⟩, (hR s ht).2, fun z => ?_⟩
      obtain ⟨u, hu, hc⟩ := List.mem_map.mp z
      obtain ⟨t, ht2, j, rfl⟩ := (hsp u).mp hu
      have hlen := cut_len hc (hR s ht).2
      have e2 : s = t := by
        refine ha s ht t ht2 ?_
        rw [← hc, cutL_pre, pre_pre]
        unfold pre
        rw [tl_mkS]
        exact List.take_prefix _ _
      subst e2
      unfold pre at hlen
      rw [tl_mkS, List.length_take] at hlen
      omega
  unfold plainT
  rw [key, ee]
end Sf
namespace Sf
open PySem PySem.Spec PyProof.Rows L2 TL LamX NdefX
/-! ### lambdas that capture nothing, handed on as values -/
structure LF where
  qual : Str
  params : Arguments
  body : Expr
  scope : Scope
  c : Addr
abbrev LF.obj (F : LF) (pm ctv : Value) : Obj := PySem.W.kla_obj "<lambda>" F.qual F.params F.body F.scope [] pm F.c ctv
def FnL (f : Addr) (F : LF) : HO := .ext fun h => ∃ pm ctv : Value, h.get? f = some (F.obj pm ctv)
theorem fnL_at {P : Program} {w : World} {H : Hp} {h : Heap} {f : Addr} {F : LF} (hok : HOk P w H h) (e : H f = some (FnL f F)) : ∃ pm ctv : Value, h.get? f = some (F.obj pm ctv) := by
  obtain ⟨z, _, _⟩ := hok f _ e
  exact z
theorem fnL_ne {f : Addr} {F : LF} (ps : Array Value) : FnL f F ≠ .tbl ps := fun z => by
  unfold FnL at z
  cases z
abbrev LF.nf (F : LF) : NF := ⟨"<lambda>", F.qual, F.params, [], F.scope, [], F.c⟩
section
variable {X : Cx} {pins : List (Addr × Obj)} {σ : L2.St} {H : Hp} {s : Shared}
theorem inv_fnL {F : LF} {o : Obj} {t' : Nat} {pm ctv : Value} (I : Inv X pins σ H s) (ho : o = F.obj pm ctv) : Inv X pins σ (upd H s.heap.objs.size (FnL s.heap.objs.size F)) { s with heap := s.heap.push o, toks := t' } := by
  subst ho
  refine I.laid (a := s.heap.objs.size) (fun b u e => Heap.get?_push_of_some _ e) (Nat.le_refl _) ?_
  have e : (s.heap.push (F.obj pm ctv)).get? s.heap.objs.size = some (F.obj pm ctv) := Heap.get?_push_size _ rfl
  exact ⟨⟨pm, ctv, e⟩, ⟨_, e⟩, fun h1 h2 ⟨p, t, z⟩ st => ⟨p, t, st _ z⟩⟩
theorem lam_mk {T : List NTab} {nm : Nat → Nat → Str} {c P : Addr} {params : Arguments} {body : Expr} {scope : Scope} {pos : Pos} {E : Value → Shared → Prop} {Q : Value → Shared → Prop} (I : Inv X pins σ H s) (TB : TabB X.base X.mg c P) (hcode : X.env.code = .ref c)
    (hm : (P, nm) ∈ T) (hn : nm pos.line pos.col = X.env.qual ++ "<lambda>") (hu : ∀ p ∈ T, p.1 = P → p.2 = nm) (hT : TabsN T H) (hdef : defaultsOf params X.env = ([], [])) (hcl : ∀ y ∈ scope.names, y.2 ≠ .free)
    (h : ∀ (f c' : Addr) (H1 : Hp) (s' : Shared), Inv X pins σ H1 s' → ExtN H H1 → (∀ b, H1 b = Option.none → H b = Option.none) → TabsN T H1 → H f = none → H1 f = some (FnL f ⟨X.env.qual ++ "<lambda>", params, body, scope, c'⟩) → H1 c' = some (CodeO c' (X.env.qual ++ "<lambda>")) → Q (.ref f) s') :
    wpAny (model X.prog X.w) X.A (eval (.Lambda params body scope pos) X.env) Q E s := by
  have hfree : ∀ y ∈ scope.names, y.2 = .free → ∃ c, X.env.cells.lookup y.1 = some c := fun y hy e => absurd e (hcl y hy)
  have clo : cloFrom X.env.cells scope.names [] = [] := by
    rw [List.eq_nil_iff_forall_not_mem]
    rintro ⟨y, c⟩ hy
    rcases cloFrom_mem hy with z | ⟨z, _⟩
    · cases z
    · exact hcl _ z rfl
  obtain ⟨ps, hP, ht, ha⟩ := (show TabN H P nm from hT _ hm)
  refine PySem.W.kla_eval hdef ?_
  have bP : s.heap.BuiltinsAt X.mg P := TB.bm.keeps I.bk
  have hP' : s.heap.get? P = some { cls := .none, data := .fields ps } := I.hok P _ hP
  cases hc : codeAmong pos ps.toList with
  | none =>
    refine PySem.W.kla_makeFunction (mg := X.mg) (c := c) (P := P) (ps := ps) (closure_ok hfree) I.ok.glob (I.mod.glob.keeps I.bk) hcode (TB.code.keeps I.bk) hP' ht hc TB.gP bP fun c' ctv h' tk hx hge hlt hrec htb => ?_
    rw [clo]
    obtain ⟨c2, oc, vs, t, e2, hoc, hd, hv⟩ := hrec
    cases e2
    have nC : H c' = none := I.hok.fresh hge
    have I1 := inv_table (t' := tk) (more := #[rawInt pos.line, rawInt pos.col, .ref c']) (h' := h') I hP (fun b o hb e => hx b o hb e) htb hge ⟨oc, vs, t, hoc, hd, hv⟩
    have hE : ExtN H (upd (upd H P (.tbl (ps ++ #[rawInt pos.line, rawInt pos.col, .ref c']))) c' (CodeO c' (X.env.qual ++ "<lambda>"))) := fun b o e n => by
      rw [upd_ne (ne_of_none e nC), upd_ne (fun z => n ps (Option.some.inj (e.symm.trans (by rw [z]; exact hP))))]
      exact e
    have eL : (ps ++ #[rawInt pos.line, rawInt pos.col, .ref c']).toList = ps.toList ++ [rawInt pos.line, rawInt pos.col, .ref c'] := by simp
    have T1 : TabsN T (upd (upd H P (.tbl (ps ++ #[rawInt pos.line, rawInt pos.col, .ref c']))) c' (CodeO c' (X.env.qual ++ "<lambda>"))) := fun p hp => by
      by_cases hb : p.1 = P
      · rw [hu p hp hb, hb]
        refine ⟨_, by rw [upd_ne (ne_of_none hP nC), upd_same], by rw [eL]; exact PySem.TriplesOk_snoc _ _ _ _ ht, fun p' cv hcv => ?_⟩
        rw [eL] at hcv
        rcases among_app2 _ ht hcv with z | ⟨z, z1, z2⟩
        · obtain ⟨c0, e1, e2⟩ := ha p' cv z
          exact ⟨c0, e1, hE _ _ e2 codeO_ne⟩
        · refine ⟨c', z, ?_⟩
          rw [← z1, ← z2, hn]
          exact upd_same
      · obtain ⟨ps', a1, a2, a3⟩ := hT p hp
        refine ⟨ps', by rw [upd_ne (ne_of_none a1 nC), upd_ne hb]; exact a1, a2, fun p' cv hcv => ?_⟩
        obtain ⟨c0, e1, e2⟩ := a3 p' cv hcv
        exact ⟨c0, e1, hE _ _ e2 codeO_ne⟩
    have nF := I1.hok.fresh (Nat.le_refl _)
    have I2 := inv_fnL (F := ⟨X.env.qual ++ "<lambda>", params, body, scope, c'⟩) (t' := tk) (pm := (X.mg "__name__").getD .none) (ctv := ctv) I1 rfl
    refine h h'.objs.size c' _ _ I2 (fun b o e n => ?_) (fun b e => upd_none (upd_none (upd_none e))) (T1.ext fun b o e => ?_) (I.hok.fresh (Nat.le_trans hge (Nat.le_of_lt hlt))) upd_same ?_
    · have e1 := hE b o e n
      exact (upd_ne (ne_of_none e1 nF)).trans e1
    · exact (upd_ne (ne_of_none e nF)).trans e
    · exact (upd_ne (Nat.ne_of_lt hlt)).trans upd_same
  | some cv =>
    obtain ⟨c', e, hco⟩ := ha pos cv hc
    subst e
    rw [hn] at hco
    refine PySem.W.kla_makeFunctionHit (mg := X.mg) (c := c) (P := P) (ps := ps) (closure_ok hfree) I.ok.glob (I.mod.glob.keeps I.bk) hcode (TB.code.keeps I.bk) hP' ht hc bP fun ctv h' tk hx hsz => ?_
    rw [clo]
    have I1 : Inv X pins σ H { s with heap := h', toks := tk } := I.kept hx
    have nF : H h'.objs.size = none := I1.hok.fresh (Nat.le_refl _)
    have I2 := inv_fnL (F := ⟨X.env.qual ++ "<lambda>", params, body, scope, c'⟩) (t' := tk) (pm := (X.mg "__name__").getD .none) (ctv := ctv) I1 rfl
    refine h h'.objs.size c' _ _ I2 (fun b o e n => ?_) (fun b e => upd_none e) (hT.ext fun b o e => ?_) nF upd_same ?_
    · exact (upd_ne (ne_of_none e nF)).trans e
    · exact (upd_ne (ne_of_none e nF)).trans e
    · exact (upd_ne (ne_of_none hco nF)).trans hco
end
/-- the reading of a lambda as a value -/
def tLamV (T : List NTab) (mk : Addr → LF) : TE := fun _ H Q => TabsN T H ∧ ∀ (f c' : Addr) (H1 : Hp), ExtN H H1 → (∀ b, H1 b = Option.none → H b = Option.none) → TabsN T H1 → H f = none → H1 f = some (FnL f (mk c')) → H1 c' = some (CodeO c' (mk c').qual) → Q (.ref f) H1
theorem pe_lamV {X : Cx} {T : List NTab} {nm : Nat → Nat → Str} {c P : Addr} {params : Arguments} {body : Expr} {scope : Scope} {pos : Pos} (TB : TabB X.base X.mg c P) (hcode : X.env.code = .ref c) (hm : (P, nm) ∈ T) (hn : nm pos.line pos.col = X.env.qual ++ "<lambda>") (hu : ∀ p ∈ T, p.1 = P → p.2 = nm)
    (hdef : defaultsOf params X.env = ([], [])) (hcl : ∀ y ∈ scope.names, y.2 ≠ .free) : PE X (.Lambda params body scope pos) (tLamV T fun c' => ⟨X.env.qual ++ "<lambda>", params, body, scope, c'⟩) :=
  ⟨fun pins s σ H Q I h => lam_mk I TB hcode hm hn hu h.1 hdef hcl fun f c' H1 s' I1 eN nn T1 f0 f1 c1 => ⟨.ref f, H1, I1, rfl, h.2 f c' H1 eN nn T1 f0 f1 c1⟩⟩
/-! ### what it promises -/
structure LOk (P : Program) (w : World) (K : PySem.W.Frag) (mg : Str → Option Value) (base : Heap) (CX : CXT) (k : Nat) (f : Addr) (F : LF) (ps : List Str) (sp : Sp) : Prop where
  len : ∀ vs H Q E, sp vs H Q E → vs.length = ps.length
  run : ∀ (A : Around) (outer : List Env) (s : Shared) (H : Hp) (us : List Value) (vs : List V) (Q : VK) (E : XK), Room k A → Env0 P w K mg base A outer s H → H f = some (FnL f F) → H F.c = some (CodeO F.c F.qual) →
    Vals vs us → sp vs H Q E → codeAny (model P w) A (.call (.ref f) ⟨us, []⟩) (CR CX outer P w H s Q E) s
section
variable {CX : CXT} {P : Program} {w : World} {K : PySem.W.Frag} {mg : Str → Option Value} {base : Heap} {N ps : List Str} {F : LF} {f : Addr} {k j : Nat} {sp sp' : Sp}
theorem lok_of (S : NScope N ps [] F.scope) (hb : ∀ (pm ctv : Value) (us : List Value), us.length = ps.length → bindArgs (PySem.W.kla_fn "<lambda>" F.qual F.params F.body F.scope [] pm (.ref F.c) ctv) ⟨us, []⟩ = pure (ps.zip us)) (len : ∀ vs H Q E, sp vs H Q E → vs.length = ps.length)
    (hbody : ∀ (A : Around) (outer : List Env) (s : Shared) (H : Hp) (vs : List V) (Q : VK) (E : XK), Room k (A.deeper (envF F.nf f s.heap.objs.size)) → sp vs H Q E →
      ∃ t, PE (ncx CX P w K mg base N F.nf f A outer s H E) F.body t ∧ t (startF N vs []) H Q) : LOk P w K mg base CX (k + 1) f F ps sp := by
  refine ⟨len, fun A outer s H us vs Q E hr e0 hf hc r hsp => ?_⟩
  have hl := len _ _ _ _ hsp
  have lim : s.heap.NoLimit := e0.mod.nolimit.keeps fun b o e => (e0.bs b o e).1
  obtain ⟨pm, ctv, ho⟩ := fnL_at e0.hok hf
  refine PySem.W.kla_callFunE hr.depth ho rfl S.co S.gen rfl (codeO_at e0.hok hc) ?_
  rw [hb pm ctv us (by rw [← r.length]; exact hl)]
  refine wpAny_pure (wpAny_newFunctionEnv S.nocell (fun ⟨n, _⟩ hy => S.par n (List.of_mem_zip hy).1) (fun h₁ hns hsb => ⟨lim.fresh _ hsb, ?_⟩) S.kind)
  show codeAny _ _ (.expr F.body (envF F.nf f s.heap.objs.size)) _ _
  have kp : ∀ b o, s.heap.get? b = some o → h₁.get? b = some o := fun b o e => hsb.extBut b o (Nat.ne_of_lt (Heap.lt_size e)) (Heap.get?_push_of_some _ e)
  obtain ⟨t, ht, hq⟩ := hbody A outer s H vs Q E (hr.deeper _) hsp
  have C : CellsAt F.nf.cl [] [] s.heap H := ⟨rfl, fun y c e => (by cases e), fun x y c e => (by cases e), fun i y e => (by cases i <;> cases e)⟩
  have I : Inv (ncx CX P w K mg base N F.nf f A outer s H E) [] (startF N vs []) H { s with heap := h₁, toks := s.toks + (ps.zip us).length } := inv_startN (F := F.nf) S hr.hd e0 hl r C hns kp
  refine PySem.W.kla_codeExpr (wpAny_mono (ht.run [] _ (startF N vs []) H Q I hq) (fun v s' hq => ?_) fun e s' hs => hs)
  obtain ⟨w', H', J', rv, q⟩ := hq
  exact ⟨w', H', J'.os, J'.bare, J'.base, J'.hok, rv, q⟩
end
/-- x(e, ..), x a name that holds a lambda -/
def tCallL (f : Addr) (F : LF) (i : Nat) (sp : Sp) (E : XK) (t : TA) : TE := fun σ H Q => σ[i]? = some (some (.ref f)) ∧ H f = some (FnL f F) ∧ t σ H fun vs H1 => H1 f = some (FnL f F) ∧ H1 F.c = some (CodeO F.c F.qual) ∧ sp vs H1 Q E
section
variable {X : Cx} {CX : CXT} {ps : List Str} {i k : Nat} {x : Str} {sp : Sp} {E : XK} {t : TA} {e : Expr} {es : List Expr} {p pos : Pos} {f : Addr} {F : LF}
theorem pe_callL (Fn : LOk X.prog X.w X.K X.mg X.base CX k f F ps sp) (hr : Room k X.A) (hx : Passes CX X E) (hN : X.N[i]? = some x) (hv : Vis X.env.scope x) (ha : PA X (e :: es) t)
    (hd : (x == ("__debug__" : Str)) = false := by decide) (hcd : (x == ("__classdict__" : Str)) = false := by decide)
    (he : starEach (e :: es) X.env = (false, eval e X.env) :: starEach es X.env := by rfl) (hpl : (backTo pos (starEach es X.env)).any (·.1) = false := by rfl) : PE X (.Call (.Name x p) (e :: es) [] pos) (tCallL f F i sp E t) := by
  refine ⟨fun pins s σ H Q I h => ?_⟩
  obtain ⟨hs, hf, ht⟩ := h
  refine wpAny_Call_Name_kw (thn ((pe_var (pos := p) hN hv hd hcd).run pins s σ H (fun v H1 => v = .ref f ∧ H1 = H) I ⟨.ref f, hs, rfl, rfl⟩) fun u s1 ⟨v, H1, I1, r1, q1⟩ => ?_)
  obtain ⟨ev, eH⟩ := q1
  subst ev
  rw [eH] at I1
  obtain rfl : u = Value.ref f := r1
  have fa : ∀ {pins σ H s}, Inv X pins σ H s → H f = some (FnL f F) → PySem.W.FnAt f s.heap := fun I e => by
    obtain ⟨pm, ctv, ho⟩ := fnL_at I.hok e
    exact ⟨_, _, _, _, ho⟩
  refine PySem.W.callWith_F (first := []) (fa I1 hf) (thn (ha.run pos pins s1 σ H _ I1 ht) fun us s2 ⟨vs, H2, I2, r, h1, h2, q⟩ => ⟨fa I2 h1, ?_⟩) he hpl
  show wpAny _ _ (call (.ref f) us) _ _ _
  refine wpAny_call (codeAny_mono (Fn.run X.A X.stack s2 H2 us vs Q E hr I2.env0 h1 h2 r q) fun r s' hq => ?_)
  cases r with
  | error e => exact hx pins σ H2 s2 e s' I2 hq
  | ok fl =>
    cases fl with
    | ret u => exact I2.after hq
    | next => exact False.elim hq
    | brk => exact False.elim hq
    | cont => exact False.elim hq
end
/-! all but tables stay -/
theorem _root_.LamX.ExtN.at {H H1 : Hp} {a : Addr} {o : HO} (x : ExtN H H1) (h : H a = some o) (n : ∀ ps, o ≠ .tbl ps := by intro _ z; cases z) : H1 a = some o := x a o h n
theorem _root_.L2.Same.ext {H H1 : Hp} (s : Same H H1) : ExtN H H1 := fun a o h _ => s a o h
theorem _root_.LamX.ExtN.same {H H1 H2 : Hp} (x : ExtN H H1) (s : Same H1 H2) : ExtN H H2 := x.trans s.ext
theorem Bag.ext {H H1 : Hp} {b l : Addr} (h : Bag H b l) (x : ExtN H H1) : Bag H1 b l := by
  obtain ⟨ns, k, z, r, h⟩ := h
  exact ⟨ns, k, z, r, x.at h.hb, x.at h.hl, h.k0, h.z0, h.r0, h.r1⟩
theorem _root_.NdefX.TabsN.same {T : List NTab} {H H1 : Hp} (t : TabsN T H) (s : Same H H1) : TabsN T H1 := t.ext fun b o e => s b o e
theorem _root_.NdefX.TabsN.fx {T : List NTab} {H H1 : Hp} {b l : Addr} (t : TabsN T H) (hB : Bag H b l) (f : Fx b H H1) : TabsN T H1 := by
  obtain ⟨ns, k, z, r, hB⟩ := hB
  refine fun p hp => ?_
  obtain ⟨ps, h1, h2, h3⟩ := t p hp
  refine ⟨ps, f _ _ h1 (ne_of h1 hB.hb (by intro z; cases z)), h2, fun pos cv hc => ?_⟩
  obtain ⟨c, e1, e2⟩ := h3 pos cv hc
  exact ⟨c, e1, f _ _ e2 (ne_of e2 hB.hb (by intro z; unfold CodeO at z; cases z))⟩
end Sf
namespace Sf
open PySem PySem.Spec PyProof.Rows L2 TL LamX NdefX
def StAt (H : Hp) (v : V) (s : Sp3) : Prop := ∃ t, v = .ref t ∧ H t = some (.tup s.vs)
abbrev StsAt (H : Hp) (us : List V) (ss : List Sp3) : Prop := Paired (StAt H) us ss
theorem StsAt.same {H H' : Hp} {us : List V} {ss : List Sp3} (h : StsAt H us ss) (s : Same H H') : StsAt H' us ss := Paired.mapP h fun v m ⟨t, e, ht⟩ => ⟨t, e, s _ _ ht⟩
theorem StsAt.off {H H' : Hp} {us : List V} {ss : List Sp3} {p : Addr} {xs : List V} (h : StsAt H us ss) (hp : H p = some (.lst xs)) (o : Of p H H') : StsAt H' us ss := Paired.mapP h fun v m ⟨t, e, ht⟩ => ⟨t, e, o.at (ne_of ht hp (by intro z; cases z)) ht⟩
theorem StsAt.ext {H H' : Hp} {us : List V} {ss : List Sp3} (h : StsAt H us ss) (x : ExtN H H') : StsAt H' us ss := Paired.mapP h fun v m ⟨t, e, ht⟩ => ⟨t, e, x.at ht⟩
theorem paired_snoc {α β : Type} {R : α → β → Prop} {a : α} {b : β} (h : R a b) : ∀ {as : List α} {bs : List β}, Paired R as bs → Paired R (as ++ [a]) (bs ++ [b])
  | _, _, .nil => .cons h .nil
  | _, _, .cons r t => .cons r (paired_snoc h t)
section
variable {X : Cx} {σ : L2.St} {H : Hp} {Q : VK}
theorem op_gtD (hu : X.A.units + 64 < cLine) : OpR X (compareOp .Gt) (fun x y H Q => ∃ d e, Dp X.K H x d ∧ Dp X.K H y e ∧ PySem.W.alike d e = true ∧ d ≠ .none ∧ d.depth ≤ 60 ∧ Q (.bl (PySem.W.dataLt e d)) H) := by
  intro pins s σ H x y v u Q I rx ry h
  obtain ⟨d, e, hd, he, ha, hn, hdp, q⟩ := h
  obtain ⟨as, r1⟩ := Dp.reads I d x v hd rx
  obtain ⟨bs, r2⟩ := Dp.reads I e y u he ry
  exact PySem.W.rcGt_alike d e _ _ v u as bs r1 r2 ha hn (by omega) _ _ _ _ ⟨.bl _, H, I, rfl, q⟩
theorem w_gtStr {x y : Str} (q : Q (.bl (dgt x y)) H) : (fun x y H Q => ∃ i j, x = V.str i ∧ y = V.str j ∧ Q (V.bl (decide (j.cps.toList < i.cps.toList))) H) (V.str x) (V.str y) H Q := ⟨x, y, rfl, rfl, q⟩
def wgt (a b : Str) : Bool := wlt b a
theorem w_gtRank {K : PySem.W.Frag} {p q : Addr} {x y : Str} (h1 : H p = some (.tup [.int (x.length : Int), .str (rankS x)])) (h2 : H q = some (.tup [.int (y.length : Int), .str (rankS y)])) (k : Q (.bl (wgt x y)) H) :
    (fun x y H Q => ∃ d e, Dp K H x d ∧ Dp K H y e ∧ PySem.W.alike d e = true ∧ d ≠ .none ∧ d.depth ≤ 60 ∧ Q (.bl (PySem.W.dataLt e d)) H) (V.ref p) (V.ref q) H Q := by
  refine ⟨_, _, .tup (SqT.of h1) (.cons (.int _) (.cons (.str _) .nil)), .tup (SqT.of h2) (.cons (.int _) (.cons (.str _) .nil)), ?_, by simp, by simp [PyData.depth, PyData.depthAll], ?_⟩
  · simp [PySem.W.alike, PySem.W.alikeAll]
  · rw [rank_lt]
    exact k
theorem w_irng3 {ta : TA} {R : It → Hp → Prop} (q : ta σ H fun vs H1 => ∃ (i j c : Int) (n : Nat), vs = [.int i, .int j, .int c] ∧ RgC i j c n ∧ R (Itc i c n) H1) : iRng3 ta σ H R := q
theorem w_rangeC {lo c : Int} {n : Nat} {g : TG} {tb : TS} {nx : L2.St → Hp → Prop} {rt : VK} {bk ct : L2.St → Hp → Prop} (Pv : Nat → L2.St → Hp → Prop) (h0 : Pv 0 σ H)
    (hs : ∀ i σ H, i < n → Pv i σ H → g (.int (lo + (i : Nat) * c)) σ H fun σ2 H2 => tb ⟨Pv (i + 1), rt, nx, Pv (i + 1)⟩ σ2 H2) (hd : ∀ σ H, Pv n σ H → nx σ H) : kFor g tb ⟨nx, rt, bk, ct⟩ σ (Itc lo c n) H := for_rangeC (D := ⟨nx, rt, bk, ct⟩) Pv h0 hs hd
end
/-! lists by place -/
theorem get_mid {α : Type} {A B : List α} {x : α} : (A ++ x :: B)[A.length]? = some x := by
  rw [List.getElem?_append_right (Nat.le_refl _), Nat.sub_self]
  rfl
theorem get_mid1 {α : Type} {A B : List α} {x y : α} : (A ++ x :: y :: B)[A.length + 1]? = some y := by
  rw [List.getElem?_append_right (by omega), Nat.add_sub_cancel_left]
  rfl
theorem set_mid {α : Type} {x y : α} : ∀ {A B : List α}, (A ++ x :: B).set A.length y = A ++ y :: B
  | [], B => rfl
  | a :: A, B => by
    show a :: (A ++ x :: B).set A.length y = a :: (A ++ y :: B)
    rw [set_mid]
theorem set_two {A B : List Str} {x y : Str} : (((A ++ x :: (y :: B)).map V.str).set A.length (V.str y)).set (A.length + 1) (V.str x) = ((A ++ [y]) ++ x :: B).map V.str := by
  have e1 : (A.map V.str).length = A.length := List.length_map ..
  rw [List.map_append, List.map_cons, List.map_cons, ← e1, set_mid]
  have e2 : A.map V.str ++ V.str y :: V.str y :: B.map V.str = (A.map V.str ++ [V.str y]) ++ V.str y :: B.map V.str := by simp
  rw [e2, show (A.map V.str).length + 1 = (A.map V.str ++ [V.str y]).length by simp, set_mid]
  simp
theorem cut_takeV {us : List V} {d : Int} (h0 : 0 ≤ d) (h1 : d ≤ us.length) : cutV us none (some d) = us.take d.toNat := by
  unfold cutV
  have e : HT.sIx us.length 0 none = 0 := rfl
  rw [e, sIx_lo h0 h1]
  rfl
theorem ix_at {n : Nat} {i : Int} (h0 : 0 ≤ i) (h1 : i < n) : ixN n i = some i.toNat := by
  unfold ixN
  rw [if_pos h0, if_pos h1]
/-! bubbles -/
structure GtOk (gt : Str → Str → Bool) : Prop where
  trans : ∀ a b c, gt a b = false → gt b c = false → gt a c = false
  asym : ∀ a b, gt a b = true → gt b a = false
def Bub (gt : Str → Str → Bool) (m : Nat) (R : List Str) : Prop := ((R.drop m).Pairwise fun a b => gt a b = false) ∧ ∀ a ∈ R.take m, ∀ b ∈ R.drop m, gt a b = false
theorem Bub.start {gt : Str → Str → Bool} {S : List Str} : Bub gt (S.length - 0) S := by
  unfold Bub
  rw [Nat.sub_zero, List.drop_length]
  exact ⟨.nil, fun a _ b hb => by cases hb⟩
theorem Bub.split {gt : Str → Str → Bool} {m : Nat} {R : List Str} (h : Bub gt (m + 1) R) (hl : m + 1 ≤ R.length) : ∃ (x : Str) (B D : List Str), R = x :: (B ++ D) ∧ B.length = m ∧ (D.Pairwise fun a b => gt a b = false) ∧ ∀ a ∈ x :: B, ∀ b ∈ D, gt a b = false := by
  have e := (List.take_append_drop (m + 1) R).symm
  have hlen : (R.take (m + 1)).length = m + 1 := by rw [List.length_take]; omega
  cases ht : R.take (m + 1) with
  | nil => rw [ht] at hlen; simp at hlen
  | cons x B =>
    refine ⟨x, B, R.drop (m + 1), by rw [ht] at e; exact e, by rw [ht] at hlen; simpa using hlen, h.1, ?_⟩
    have h2 := h.2
    rw [ht] at h2
    exact h2
theorem Bub.of {gt : Str → Str → Bool} {A D : List Str} {x : Str} (h1 : D.Pairwise fun a b => gt a b = false) (h2 : ∀ b ∈ D, gt x b = false) (h3 : ∀ a ∈ A, gt a x = false) (h4 : ∀ a ∈ A, ∀ b ∈ D, gt a b = false) : Bub gt A.length (A ++ x :: D) := by
  unfold Bub
  rw [List.drop_left, List.take_left]
  refine ⟨List.pairwise_cons.mpr ⟨h2, h1⟩, fun a ha b hb => ?_⟩
  rcases List.mem_cons.mp hb with rfl | hb
  · exact h3 a ha
  · exact h4 a ha b hb
theorem Bub.fin {gt : Str → Str → Bool} {m : Nat} {R : List Str} (h : Bub gt m R) (hm : m ≤ 1) : R.Pairwise fun a b => gt a b = false := by
  match m, hm, h with
  | 0, _, h => exact h.1
  | 1, _, h =>
    cases R with
    | nil => exact .nil
    | cons a R => exact List.pairwise_cons.mpr ⟨fun b hb => h.2 a (by simp) b hb, h.1⟩
section
variable {P : Program} {w : World} {K : PySem.W.Frag} {mg : Str → Option Value} {base : Heap}
/-! ### width -/
def spWi : Sp := fun vs H Q _ => ∃ (a : Addr) (S : List Str), vs = [.ref a] ∧ H a = some (.lst (S.map V.str)) ∧ S.length ≤ 1000 ∧ (∀ s ∈ S, s.length ≤ 1000) ∧ ∀ H', Same H H' → Q (.int ((rowL S).length : Nat)) H'
theorem row_twice (S : List Str) : (2 : Int) * ((S.map fun s => (s.length : Int)).sum) = ((rowL S).length : Nat) := by
  induction S with
  | nil => rfl
  | cons s S ih =>
    rw [row_cons, List.map_cons, List.sum_cons, List.length_append, List.length_append]
    have e : (backL (tl s)).length = (tl s).length := by unfold backL; rw [List.length_reverse, List.length_map]
    rw [e, ← len_tl]
    omega
theorem sc_wi : FnScope ["spots", "spot"] ["spots"] (defScope s_width) := ⟨rfl, rfl, rfl, by decide +kernel, rfl, by decide +kernel, by decide +kernel⟩
theorem has_wi (F : FnAt K mg "width" s_width ["spots"]) (B : Blt mg) (Nsum : mg "sum" = none) : Has P w K mg base 1 "width" ["spots"] spWi := F.has fun F => by
  refine F.ok sc_wi (fun vs H Q E h => ?_) (fun cdv A outer s H vs Q E hr h => ?_)
  · obtain ⟨a, S, rfl, _⟩ := h
    rfl
  · obtain ⟨a, S, rfl, ha, hn, hS, q⟩ := h
    refine ⟨_, (pss_one (ps_ret (pe_op op_mul pe_int (pe_callB (cr_sum rfl) (by rfl) Nsum (by decide +kernel) (pa_cons (pe_lc (own := [("spot", 1)]) (g := gName 1) (tt := tYes) (by rfl) sc_wi.nd (pi_list (pv 0)) (blkOk_by (own := [("spot", 1)]) (N := ["spots", "spot"]) (sc := defScope s_width) (by decide +kernel)) (fun _ _ _ _ _ => pg_name (i := 1) sc_wi.nd rfl (.inl rfl)) (fun _ _ _ _ _ => pts_nil) (fun _ _ _ _ _ => (pe_callB call_lenS (by rfl) B.len PySem.boot_len (pa_cons (pv 1) pa_nil)))) pa_nil))))), ?_⟩
    walk_at "go"
    refine w_lcL (xs := S.map V.str) (fun r i H2 => Same H H2 ∧ H r = none ∧ H2 r = some (.lst ((((S.take i).map fun s => (s.length : Int))).map V.int))) (fun r H2 hr nr => ⟨nr.same, nr.nn, hr⟩) (fun r i H2 _ h => h.1.at ha) ?_ ?_
    · rintro r i v H2 hv ⟨s2, nr, hr2⟩
      obtain ⟨u, hu, rfl⟩ : ∃ u, S[i]? = some u ∧ V.str u = v := by
        rw [List.getElem?_map, Option.map_eq_some_iff] at hv
        exact hv
      have hul := hS u (List.mem_of_getElem? hu)
      walk_at "go"
      refine w_lenS (line_of (by omega)) ?_
      refine w_kIt hr2 (by rw [List.length_map, List.length_map, List.length_take]; exact lineLt_of (by omega)) (fun H3 h3 o3 => ⟨s2.off o3 nr, nr, ?_⟩)
      rw [h3, tk_snoc hu, List.map_append, List.map_append]
      rfl
    · rintro r H2 ⟨s2, nr, hr2⟩
      rw [List.length_map, List.take_length] at hr2
      walk_at "go"
      refine ⟨r, _, rfl, SqL.of hr2, ?_⟩
      refine ⟨_, _, rfl, rfl, .inl ⟨by decide, by decide⟩, ?_⟩
      show Q (.int (2 * ((S.map fun s => (s.length : Int))).sum)) H2
      rw [row_twice]
      exact q H2 s2
/-! ### swaps -/
def spId : Sp := fun vs H Q _ => ∃ x : Str, vs = [.str x] ∧ Q (.str x) H
def SwEnd (H : Hp) (Q : VK) (S : List Str) (gt : Str → Str → Bool) : Prop := ∀ (p : Addr) (H' : Hp) (us : List V) (ss : List Sp3) (S' : List Str), H p = none → Same H H' → H' p = some (.lst us) → StsAt H' us ss → S'.Perm S → (S'.Pairwise fun a b => gt a b = false) → us.length ≤ 20000 → (∀ r : List Nat, r.length ≤ 100 → Goes (mkS (rowL S ++ r)) ss (mkS (rowL S' ++ r))) → Q (.ref p) H'
def spSwA (P : Program) (w : World) (K : PySem.W.Frag) (mg : Str → Option Value) (base : Heap) : Sp := fun vs H Q _ => ∃ (a f : Addr) (L : LF) (S : List Str), vs = [.ref a, .ref f] ∧ H a = some (.lst (S.map V.str)) ∧ H f = some (FnL f L) ∧ H L.c = some (CodeO L.c L.qual) ∧ LOk P w K mg base CX0 1 f L ["spot"] spId ∧ (∀ s ∈ S, WdN s) ∧ S.length ≤ 100 ∧ SwEnd H Q S dgt
def spSwB (P : Program) (w : World) (K : PySem.W.Frag) (mg : Str → Option Value) (base : Heap) : Sp := fun vs H Q _ => ∃ (a f : Addr) (S : List Str), vs = [.ref a, .ref f] ∧ H a = some (.lst (S.map V.str)) ∧ FnR P w K mg base CX0 1 f spRank ∧ PySem.W.keepIn K (.ref f) = true ∧ (∀ s ∈ S, WdN s) ∧ S.length ≤ 100 ∧ SwEnd H Q S wgt
theorem sc_swA : FnScope ["spots", "key", "steps", "row", "most", "at", "one", "other"] ["spots", "key"] (defScope s_swaps) := ⟨rfl, rfl, rfl, by decide +kernel, rfl, by decide +kernel, by decide +kernel⟩
theorem has_swA (F : FnAt K mg "swaps" s_swaps ["spots", "key"]) (B : Blt mg) (h_Wi : Has P w K mg base 1 "width" ["spots"] spWi) : Has P w K mg base 4 "swaps" ["spots", "key"] (spSwA P w K mg base) := F.has fun F => by
  obtain ⟨f_Wi, fd_Wi, g_Wi, k_Wi, b_Wi, G_Wi⟩ := h_Wi
  refine F.ok sc_swA (fun vs H Q E h => ?_) (fun cdv A outer s H vs Q E hr h => ?_)
  · obtain ⟨a, f, L, S, rfl, _⟩ := h
    rfl
  · obtain ⟨a, f, L, S, rfl, ha, hf, hc, Fn, hS, hn, q⟩ := h
    have gk : GtOk dgt := ⟨fun _ _ _ h1 h2 => dgt_trans h1 h2, fun _ _ h => dgt_asym h⟩
    refine ⟨_, (pss_cons (ps_set (i := 2) sc_swA.nd rfl (.inl rfl) (pe_lst pa_nil)) (pss_cons (ps_set (i := 3) sc_swA.nd rfl (.inl rfl) (pe_callTy call_listO (by rfl) B.list (by decide +kernel) (pa_cons (pv 0) pa_nil))) (pss_cons (ps_for PassesOwn.never rfl (pi_range3 rfl B.range (pa_cons (pe_op op_sub (pe_callB call_lenQ (by rfl) B.len PySem.boot_len (pa_cons (pv 3) pa_nil)) pe_int) (pa_cons pe_int (pa_cons (pe_un un_neg pe_int) pa_nil)))) (pg_name (i := 4) sc_swA.nd rfl (.inl rfl)) (pss_one (ps_for PassesOwn.never rfl (pi_range1 rfl B.range (pa_cons (pv 4) pa_nil)) (pg_name (i := 5) sc_swA.nd rfl (.inl rfl)) (pss_cons (ps_par (i := 6) (j := 7) (by rfl) sc_swA.nd rfl rfl (by decide) rfl rfl (pa_cons (pe_ix ix_list (pv 3) (pv 5) (fun _ _ => rfl)) (pa_cons (pe_ix ix_list (pv 3) (pe_op op_add (pv 5) pe_int) (fun _ _ => rfl)) pa_nil)) (by rfl)) (pss_one (ps_if (pt_cmpR op_gt_str (pe_callL (i := 1) Fn (hr.mono (by decide)) pass0 (by rfl) (.inl rfl) (pa_cons (pv 6) pa_nil)) (pe_callL (i := 1) Fn (hr.mono (by decide)) pass0 (by rfl) (.inl rfl) (pa_cons (pv 7) pa_nil)) (nomark _)) (pss_cons (ps_expr (pe_bm PySem.F.plainAttrs_list PySem.F.slot_list_append PySem.F.type_list_append mt_append (pv 2) (pa_cons (pe_tup (pa_cons pe_str (pa_cons (pe_call G_Wi (hr.mono (by decide)) (by rfl) g_Wi k_Wi b_Wi .nil pass0 (pa_cons (pe_slice sl_list (pv 3) po_none (po_some (pv 5))) pa_nil)) (pa_cons (pv 6) (pa_cons (pv 7) pa_nil))))) pa_nil))) (pss_one (ps_asg (pe_tup (pa_cons (pv 7) (pa_cons (pv 6) pa_nil))) (pg_tup rfl (pgs_cons (pg_sub (pv 3) (pv 5) set_list) (pgs_cons (pg_sub (pv 3) (pe_op op_add (pv 5) pe_int) set_list) pgs_nil)))))) pss_nil)))))) (pss_one (ps_ret (pv 2)))))), ?_⟩
    walk_at "go"
    refine w_newL (by walk_at "sz") (fun st H1 hst nst => ?_)
    walk_at "go"
    refine w_listL (nst.at ha) (fun rw H2 hrw nrw => ?_)
    have hst2 := nrw.at hst
    have s2 : Same H H2 := nst.same.nw nrw
    have nst0 : H st = none := nst.nn
    have nrw0 : H rw = none := nst.same.free nrw.nn
    have sr : st ≠ rw := nrw.ne hst
    walk_at "go"
    refine w_irng3 ?_
    walk_at "go"
    rw [List.length_map]
    refine ⟨_, _, _, _, rfl, RgC.neg (by omega) (by omega) (by decide) (by decide), ?_⟩
    refine w_rangeC (fun i σ H3 => ∃ (y4 y5 y6 y7 : Option V) (us : List V) (ss : List Sp3) (R : List Str), σ = [some (.ref a), some (.ref f), some (.ref st), some (.ref rw), y4, y5, y6, y7] ∧ Same H H3 ∧ H3 st = some (.lst us) ∧ H3 rw = some (.lst (R.map V.str)) ∧ StsAt H3 us ss ∧ us.length ≤ 100 * i ∧ R.Perm S ∧ Bub dgt (S.length - i) R ∧ (∀ r : List Nat, r.length ≤ 100 → Goes (mkS (rowL S ++ r)) ss (mkS (rowL R ++ r)))) ⟨none, none, none, none, [], [], S, rfl, s2, hst2, hrw, .nil, by decide, .refl _, Bub.start, fun r _ => Goes.nil⟩ ?_ ?_
    · rintro i σ H3 hi ⟨y4, y5, y6, y7, us, ss, R, rfl, s3, hst3, hrw3, hss, hul, pR, bu, go⟩
      have lR := pR.length_eq
      have hi : i + 1 < S.length := by omega
      generalize hm : S.length - 1 - i = m
      have hm1 : 1 ≤ m := by omega
      have hml : m + 1 = S.length - i := by omega
      rw [← hml] at bu
      walk_at "go"
      refine w_kRng1 (by omega) (by omega) ?_
      rw [show ((S.length : Int) - 1 + (i : Nat) * -1).toNat = m by omega]
      obtain ⟨x0, B0, D0, eR, hB0, hD0, hall0⟩ := bu.split (by omega)
      refine w_range (fun j σ H4 => ∃ (y6 y7 : Option V) (y5 : Option V) (us : List V) (ss : List Sp3) (A0 B : List Str) (x : Str), σ = [some (.ref a), some (.ref f), some (.ref st), some (.ref rw), some (.int ((S.length : Int) - 1 + (i : Nat) * -1)), y5, y6, y7] ∧ Same H H4 ∧ H4 st = some (.lst us) ∧ H4 rw = some (.lst ((A0 ++ x :: (B ++ D0)).map V.str)) ∧ StsAt H4 us ss ∧ us.length ≤ 100 * i + j ∧
        (A0 ++ x :: (B ++ D0)).Perm S ∧ (A0 ++ x :: B).Perm (x0 :: B0) ∧ A0.length = j ∧ B.length = m - j ∧ (∀ y ∈ A0, dgt y x = false) ∧ (∀ r : List Nat, r.length ≤ 100 → Goes (mkS (rowL S ++ r)) ss (mkS (rowL (A0 ++ x :: (B ++ D0)) ++ r)))) ⟨y6, y7, y5, us, ss, [], B0, x0, rfl, s3, hst3, by rw [hrw3, eR]; rfl, hss, by omega, by rw [← eR] <;> exact pR, .refl _, rfl, by omega, ⟨fun y hy => (by cases hy), fun r hr => (by show Goes _ ss (mkS (rowL (x0 :: (B0 ++ D0)) ++ r)); rw [← eR]; exact go r hr)⟩⟩ ?_ ?_
      · rintro j σ H4 hj ⟨y6, y7, y5, us, ss, A0, B, x, rfl, s4, hst4, hrw4, hss, hul, pS, pA, hA, hB, hmax, go⟩
        obtain ⟨y, B', rfl⟩ : ∃ y B', B = y :: B' := by
          cases B with
          | nil => simp at hB; omega
          | cons y B' => exact ⟨_, _, rfl⟩
        have lS := pS.length_eq
        simp only [List.length_append, List.length_cons] at lS
        have hx : WdN x := hS x (pS.mem_iff.mp (by simp))
        have hy : WdN y := hS y (pS.mem_iff.mp (by simp))
        have i1 : atI ((A0 ++ x :: (y :: B' ++ D0)).map V.str) ((0 : Int) + (j : Nat)) = some (V.str x) := at_of (j := j) (by omega) (by rw [← hA, List.getElem?_map, get_mid]; rfl)
        have i2 : atI ((A0 ++ x :: (y :: B' ++ D0)).map V.str) ((0 : Int) + (j : Nat) + 1) = some (V.str y) := at_of (j := j + 1) (by omega) (by rw [← hA, List.getElem?_map]; exact congrArg _ get_mid1)
        walk_at "go"
        refine w_ixL hrw4 i1 ?_
        walk_at "go"
        refine w_ixL hrw4 i2 ?_
        walk_at "go"
        refine ⟨rfl, s4.at hf, ?_⟩
        walk_at "go"
        refine ⟨s4.at hf, s4.at hc, x, rfl, ?_⟩
        walk_at "go"
        refine ⟨rfl, s4.at hf, ?_⟩
        walk_at "go"
        refine ⟨s4.at hf, s4.at hc, y, rfl, ?_⟩
        refine w_gtStr ?_
        refine w_kB ?_
        refine w_ifB (fun e => ?_) (fun e => ?_)
        · walk_at "go"
          refine w_slL hrw4 (fun c1 H5 hc1 nc1 => ?_)
          rw [show cutV ((A0 ++ x :: (y :: B' ++ D0)).map V.str) none (some ((0 : Int) + (j : Nat))) = A0.map V.str by
            rw [cut_takeV (by omega) (by rw [List.length_map, List.length_append]; simp only [List.length_cons]; omega), ← List.map_take, show ((0 : Int) + (j : Nat)).toNat = A0.length by omega, List.take_left]] at hc1
          have hrw5 := nc1.at hrw4
          have hst5 := nc1.at hst4
          walk_at "go"
          refine ⟨c1, A0, rfl, hc1, by omega, fun s hs => by have := (hS s (pS.mem_iff.mp (by simp [hs]))).2.2; omega, fun H6 s6 => ?_⟩
          walk_at "go"
          refine w_newT (by walk_at "sz") (fun t7 H7 ht7 nt7 => ?_)
          walk_at "go"
          have hst7 := nt7.at (s6.at hst5)
          refine w_append hst7 (lineLt_of (by omega)) (fun H8 hst8 o8 => ?_)
          have s38 : Same H H8 := (((s4).nw nc1).trans s6).nw nt7 |>.off o8 nst0
          have t7s : t7 ≠ st := fun z => by rw [z, hst7] at ht7; cases ht7
          have hss7 : StsAt H7 us ss := (((hss).same nc1.same).same s6).same nt7.same
          have hss8 : StsAt H8 (us ++ [.ref t7]) (ss ++ [.swap ((rowL A0).length : Int) x y]) := paired_snoc ⟨t7, rfl, o8.at t7s ht7⟩ (hss7.off hst7 o8)
          have hrw8 := o8.at sr.symm (nt7.at (s6.at hrw5))
          walk_at "go"
          refine w_newT (by walk_at "sz") (fun t9 H9 ht9 nt9 => ?_)
          walk_at "go"
          refine w_setL (nt9.at hrw8) (ix_at (by omega) (by rw [List.length_map, List.length_append]; simp only [List.length_cons]; omega)) (fun H10 hrw10 o10 => ?_)
          walk_at "go"
          refine w_setL hrw10 (ix_at (by omega) (by rw [List.length_set, List.length_map]; simp only [List.length_append, List.length_cons]; omega)) (fun H11 hrw11 o11 => ?_)
          rw [show (((A0 ++ x :: (y :: B' ++ D0)).map V.str).set ((0 : Int) + (j : Nat)).toNat (V.str y)).set ((0 : Int) + (j : Nat) + 1).toNat (V.str x) = ((A0 ++ [y]) ++ x :: (B' ++ D0)).map V.str by
            rw [show ((0 : Int) + (j : Nat)).toNat = A0.length by omega, show ((0 : Int) + (j : Nat) + 1).toNat = A0.length + 1 by omega]; exact set_two] at hrw11
          walk_at "go"
          have s11 : Same H H11 := ((s38.nw nt9).off o10 nrw0).off o11 nrw0
          have e1 : A0 ++ [y] ++ x :: (B' ++ D0) = A0 ++ y :: x :: (B' ++ D0) := by simp
          have pm : (A0 ++ y :: x :: (B' ++ D0)).Perm S := ((List.Perm.swap x y _).append_left A0).trans pS
          refine ⟨_, _, _, us ++ [.ref t7], ss ++ [Sp3.swap ((rowL A0).length : Int) x y], A0 ++ [y], B', x, rfl, s11, o11.at sr (o10.at sr (nt9.at hst8)), hrw11, ((hss8.same nt9.same).off (nt9.at hrw8) o10).off hrw10 o11, by rw [List.length_append]; show us.length + 1 ≤ _; omega, by rw [e1]; exact pm, ?_, by rw [List.length_append, hA]; rfl, by rw [List.length_cons] at hB; omega, fun z hz => ?_, fun r hr => ?_⟩
          · have e2 : A0 ++ [y] ++ x :: B' = A0 ++ y :: x :: B' := by simp
            rw [e2]
            exact ((List.Perm.swap x y _).append_left A0).trans pA
          · rcases List.mem_append.mp hz with z' | z'
            · exact hmax z z'
            · rw [List.mem_singleton.mp z']
              exact gk.asym _ _ e
          · rw [e1]
            exact (go r hr).app (goes_swap (B := B' ++ D0) (fun s hs => hS s (pS.mem_iff.mp hs)) (Nat.le_trans (Nat.le_of_eq pS.length_eq) (by omega)) hr)
        · walk_at "go"
          have e1 : A0 ++ [x] ++ y :: (B' ++ D0) = A0 ++ x :: (y :: B' ++ D0) := by simp
          refine ⟨_, _, _, us, ss, A0 ++ [x], B', y, rfl, s4, hst4, by rw [e1]; exact hrw4, hss, by omega, by rw [e1]; exact pS, ?_, by rw [List.length_append, hA]; rfl, by simp at hB; omega, fun z hz => ?_, fun r hr => by rw [e1]; exact go r hr⟩
          · have e2 : A0 ++ [x] ++ y :: B' = A0 ++ x :: (y :: B') := by simp
            rw [e2]
            exact pA
          · rcases List.mem_append.mp hz with z' | z'
            · exact gk.trans _ _ _ (hmax z z') e
            · rw [List.mem_singleton.mp z']
              exact e
      · rintro σ H4 ⟨y6, y7, y5, us, ss, A0, B, x, rfl, s4, hst4, hrw4, hss, hul, pS, pA, hA, hB, hmax, go⟩
        have hBn : B = [] := List.eq_nil_of_length_eq_zero (by omega)
        subst hBn
        refine ⟨_, _, _, _, us, ss, A0 ++ x :: D0, rfl, s4, hst4, hrw4, hss, by omega, pS, ?_, go⟩
        rw [show S.length - (i + 1) = m by omega, ← hA]
        exact Bub.of hD0 (fun b hb => hall0 x (pA.mem_iff.mp (by simp)) b hb) hmax (fun c hc b hb => hall0 c (pA.mem_iff.mp (by simp [hc])) b hb)
    · rintro σ H3 ⟨y4, y5, y6, y7, us, ss, R, rfl, s3, hst3, hrw3, hss, hul, pR, bu, go⟩
      walk_at "go"
      refine q st H3 us ss R nst0 s3 hst3 hss pR (bu.fin (by have := pR.length_eq; omega)) (by omega) go
theorem sc_swB : FnScope ["spots", "key", "steps", "row", "most", "at", "one", "other"] ["spots", "key"] (defScope s_swaps) := ⟨rfl, rfl, rfl, by decide +kernel, rfl, by decide +kernel, by decide +kernel⟩
theorem has_swB (F : FnAt K mg "swaps" s_swaps ["spots", "key"]) (B : Blt mg) (h_Wi : Has P w K mg base 1 "width" ["spots"] spWi) : Has P w K mg base 4 "swaps" ["spots", "key"] (spSwB P w K mg base) := F.has fun F => by
  obtain ⟨f_Wi, fd_Wi, g_Wi, k_Wi, b_Wi, G_Wi⟩ := h_Wi
  refine F.ok sc_swB (fun vs H Q E h => ?_) (fun cdv A outer s H vs Q E hr h => ?_)
  · obtain ⟨a, f,  S, rfl, _⟩ := h
    rfl
  · obtain ⟨a, f,  S, rfl, ha, Fr, hk, hS, hn, q⟩ := h
    have gk : GtOk wgt := ⟨fun _ _ _ h1 h2 => wlt_neg h1 h2, fun x y h => by cases e : wlt x y with | false => exact e | true => exact (wlt_asymm h e).elim⟩
    refine ⟨_, (pss_cons (ps_set (i := 2) sc_swB.nd rfl (.inl rfl) (pe_lst pa_nil)) (pss_cons (ps_set (i := 3) sc_swB.nd rfl (.inl rfl) (pe_callTy call_listO (by rfl) B.list (by decide +kernel) (pa_cons (pv 0) pa_nil))) (pss_cons (ps_for PassesOwn.never rfl (pi_range3 rfl B.range (pa_cons (pe_op op_sub (pe_callB call_lenQ (by rfl) B.len PySem.boot_len (pa_cons (pv 3) pa_nil)) pe_int) (pa_cons pe_int (pa_cons (pe_un un_neg pe_int) pa_nil)))) (pg_name (i := 4) sc_swB.nd rfl (.inl rfl)) (pss_one (ps_for PassesOwn.never rfl (pi_range1 rfl B.range (pa_cons (pv 4) pa_nil)) (pg_name (i := 5) sc_swB.nd rfl (.inl rfl)) (pss_cons (ps_par (i := 6) (j := 7) (by rfl) sc_swB.nd rfl rfl (by decide) rfl rfl (pa_cons (pe_ix ix_list (pv 3) (pv 5) (fun _ _ => rfl)) (pa_cons (pe_ix ix_list (pv 3) (pe_op op_add (pv 5) pe_int) (fun _ _ => rfl)) pa_nil)) (by rfl)) (pss_one (ps_if (pt_cmpR (op_gtD hr.units) (ItX.pe_callV (i := 1) Fr (hr.mono (by decide)) hk pass0 (by rfl) (.inl rfl) (pa_cons (pv 6) pa_nil)) (ItX.pe_callV (i := 1) Fr (hr.mono (by decide)) hk pass0 (by rfl) (.inl rfl) (pa_cons (pv 7) pa_nil)) (nomark _)) (pss_cons (ps_expr (pe_bm PySem.F.plainAttrs_list PySem.F.slot_list_append PySem.F.type_list_append mt_append (pv 2) (pa_cons (pe_tup (pa_cons pe_str (pa_cons (pe_call G_Wi (hr.mono (by decide)) (by rfl) g_Wi k_Wi b_Wi .nil pass0 (pa_cons (pe_slice sl_list (pv 3) po_none (po_some (pv 5))) pa_nil)) (pa_cons (pv 6) (pa_cons (pv 7) pa_nil))))) pa_nil))) (pss_one (ps_asg (pe_tup (pa_cons (pv 7) (pa_cons (pv 6) pa_nil))) (pg_tup rfl (pgs_cons (pg_sub (pv 3) (pv 5) set_list) (pgs_cons (pg_sub (pv 3) (pe_op op_add (pv 5) pe_int) set_list) pgs_nil)))))) pss_nil)))))) (pss_one (ps_ret (pv 2)))))), ?_⟩
    walk_at "go"
    refine w_newL (by walk_at "sz") (fun st H1 hst nst => ?_)
    walk_at "go"
    refine w_listL (nst.at ha) (fun rw H2 hrw nrw => ?_)
    have hst2 := nrw.at hst
    have s2 : Same H H2 := nst.same.nw nrw
    have nst0 : H st = none := nst.nn
    have nrw0 : H rw = none := nst.same.free nrw.nn
    have sr : st ≠ rw := nrw.ne hst
    walk_at "go"
    refine w_irng3 ?_
    walk_at "go"
    rw [List.length_map]
    refine ⟨_, _, _, _, rfl, RgC.neg (by omega) (by omega) (by decide) (by decide), ?_⟩
    refine w_rangeC (fun i σ H3 => ∃ (y4 y5 y6 y7 : Option V) (us : List V) (ss : List Sp3) (R : List Str), σ = [some (.ref a), some (.ref f), some (.ref st), some (.ref rw), y4, y5, y6, y7] ∧ Same H H3 ∧ H3 st = some (.lst us) ∧ H3 rw = some (.lst (R.map V.str)) ∧ StsAt H3 us ss ∧ us.length ≤ 100 * i ∧ R.Perm S ∧ Bub wgt (S.length - i) R ∧ (∀ r : List Nat, r.length ≤ 100 → Goes (mkS (rowL S ++ r)) ss (mkS (rowL R ++ r)))) ⟨none, none, none, none, [], [], S, rfl, s2, hst2, hrw, .nil, by decide, .refl _, Bub.start, fun r _ => Goes.nil⟩ ?_ ?_
    · rintro i σ H3 hi ⟨y4, y5, y6, y7, us, ss, R, rfl, s3, hst3, hrw3, hss, hul, pR, bu, go⟩
      have lR := pR.length_eq
      have hi : i + 1 < S.length := by omega
      generalize hm : S.length - 1 - i = m
      have hm1 : 1 ≤ m := by omega
      have hml : m + 1 = S.length - i := by omega
      rw [← hml] at bu
      walk_at "go"
      refine w_kRng1 (by omega) (by omega) ?_
      rw [show ((S.length : Int) - 1 + (i : Nat) * -1).toNat = m by omega]
      obtain ⟨x0, B0, D0, eR, hB0, hD0, hall0⟩ := bu.split (by omega)
      refine w_range (fun j σ H4 => ∃ (y6 y7 : Option V) (y5 : Option V) (us : List V) (ss : List Sp3) (A0 B : List Str) (x : Str), σ = [some (.ref a), some (.ref f), some (.ref st), some (.ref rw), some (.int ((S.length : Int) - 1 + (i : Nat) * -1)), y5, y6, y7] ∧ Same H H4 ∧ H4 st = some (.lst us) ∧ H4 rw = some (.lst ((A0 ++ x :: (B ++ D0)).map V.str)) ∧ StsAt H4 us ss ∧ us.length ≤ 100 * i + j ∧
        (A0 ++ x :: (B ++ D0)).Perm S ∧ (A0 ++ x :: B).Perm (x0 :: B0) ∧ A0.length = j ∧ B.length = m - j ∧ (∀ y ∈ A0, wgt y x = false) ∧ (∀ r : List Nat, r.length ≤ 100 → Goes (mkS (rowL S ++ r)) ss (mkS (rowL (A0 ++ x :: (B ++ D0)) ++ r)))) ⟨y6, y7, y5, us, ss, [], B0, x0, rfl, s3, hst3, by rw [hrw3, eR]; rfl, hss, by omega, by rw [← eR] <;> exact pR, .refl _, rfl, by omega, ⟨fun y hy => (by cases hy), fun r hr => (by show Goes _ ss (mkS (rowL (x0 :: (B0 ++ D0)) ++ r)); rw [← eR]; exact go r hr)⟩⟩ ?_ ?_
      · rintro j σ H4 hj ⟨y6, y7, y5, us, ss, A0, B, x, rfl, s4, hst4, hrw4, hss, hul, pS, pA, hA, hB, hmax, go⟩
        obtain ⟨y, B', rfl⟩ : ∃ y B', B = y :: B' := by
          cases B with
          | nil => simp at hB; omega
          | cons y B' => exact ⟨_, _, rfl⟩
        have lS := pS.length_eq
        simp only [List.length_append, List.length_cons] at lS
        have hx : WdN x := hS x (pS.mem_iff.mp (by simp))
        have hy : WdN y := hS y (pS.mem_iff.mp (by simp))
        have i1 : atI ((A0 ++ x :: (y :: B' ++ D0)).map V.str) ((0 : Int) + (j : Nat)) = some (V.str x) := at_of (j := j) (by omega) (by rw [← hA, List.getElem?_map, get_mid]; rfl)
        have i2 : atI ((A0 ++ x :: (y :: B' ++ D0)).map V.str) ((0 : Int) + (j : Nat) + 1) = some (V.str y) := at_of (j := j + 1) (by omega) (by rw [← hA, List.getElem?_map]; exact congrArg _ get_mid1)
        walk_at "go"
        refine w_ixL hrw4 i1 ?_
        walk_at "go"
        refine w_ixL hrw4 i2 ?_
        walk_at "go"
        refine ⟨rfl, ?_⟩
        walk_at "go"
        refine ⟨x, rfl, hx.1, by have := hx.2.2; omega, fun k1 G1 nk1 u1 hk1 => ?_⟩
        walk_at "go"
        refine ⟨rfl, ?_⟩
        walk_at "go"
        refine ⟨y, rfl, hy.1, by have := hy.2.2; omega, fun k2 G2 nk2 u2 hk2 => ?_⟩
        have u12 := u1.trans u2
        refine w_gtRank (u2.at hk1) hk2 ?_
        refine w_kB ?_
        refine w_ifB (fun e => ?_) (fun e => ?_)
        · walk_at "go"
          refine w_slL (u12.at hrw4) (fun c1 H5 hc1 nc1 => ?_)
          rw [show cutV ((A0 ++ x :: (y :: B' ++ D0)).map V.str) none (some ((0 : Int) + (j : Nat))) = A0.map V.str by
            rw [cut_takeV (by omega) (by rw [List.length_map, List.length_append]; simp only [List.length_cons]; omega), ← List.map_take, show ((0 : Int) + (j : Nat)).toNat = A0.length by omega, List.take_left]] at hc1
          have hrw5 := nc1.at (u12.at hrw4)
          have hst5 := nc1.at (u12.at hst4)
          walk_at "go"
          refine ⟨c1, A0, rfl, hc1, by omega, fun s hs => by have := (hS s (pS.mem_iff.mp (by simp [hs]))).2.2; omega, fun H6 s6 => ?_⟩
          walk_at "go"
          refine w_newT (by walk_at "sz") (fun t7 H7 ht7 nt7 => ?_)
          walk_at "go"
          have hst7 := nt7.at (s6.at hst5)
          refine w_append hst7 (lineLt_of (by omega)) (fun H8 hst8 o8 => ?_)
          have s38 : Same H H8 := ((((s4.trans u12)).nw nc1).trans s6).nw nt7 |>.off o8 nst0
          have t7s : t7 ≠ st := fun z => by rw [z, hst7] at ht7; cases ht7
          have hss7 : StsAt H7 us ss := ((((hss.same u12)).same nc1.same).same s6).same nt7.same
          have hss8 : StsAt H8 (us ++ [.ref t7]) (ss ++ [.swap ((rowL A0).length : Int) x y]) := paired_snoc ⟨t7, rfl, o8.at t7s ht7⟩ (hss7.off hst7 o8)
          have hrw8 := o8.at sr.symm (nt7.at (s6.at hrw5))
          walk_at "go"
          refine w_newT (by walk_at "sz") (fun t9 H9 ht9 nt9 => ?_)
          walk_at "go"
          refine w_setL (nt9.at hrw8) (ix_at (by omega) (by rw [List.length_map, List.length_append]; simp only [List.length_cons]; omega)) (fun H10 hrw10 o10 => ?_)
          walk_at "go"
          refine w_setL hrw10 (ix_at (by omega) (by rw [List.length_set, List.length_map]; simp only [List.length_append, List.length_cons]; omega)) (fun H11 hrw11 o11 => ?_)
          rw [show (((A0 ++ x :: (y :: B' ++ D0)).map V.str).set ((0 : Int) + (j : Nat)).toNat (V.str y)).set ((0 : Int) + (j : Nat) + 1).toNat (V.str x) = ((A0 ++ [y]) ++ x :: (B' ++ D0)).map V.str by
            rw [show ((0 : Int) + (j : Nat)).toNat = A0.length by omega, show ((0 : Int) + (j : Nat) + 1).toNat = A0.length + 1 by omega]; exact set_two] at hrw11
          walk_at "go"
          have s11 : Same H H11 := ((s38.nw nt9).off o10 nrw0).off o11 nrw0
          have e1 : A0 ++ [y] ++ x :: (B' ++ D0) = A0 ++ y :: x :: (B' ++ D0) := by simp
          have pm : (A0 ++ y :: x :: (B' ++ D0)).Perm S := ((List.Perm.swap x y _).append_left A0).trans pS
          refine ⟨_, _, _, us ++ [.ref t7], ss ++ [Sp3.swap ((rowL A0).length : Int) x y], A0 ++ [y], B', x, rfl, s11, o11.at sr (o10.at sr (nt9.at hst8)), hrw11, ((hss8.same nt9.same).off (nt9.at hrw8) o10).off hrw10 o11, by rw [List.length_append]; show us.length + 1 ≤ _; omega, by rw [e1]; exact pm, ?_, by rw [List.length_append, hA]; rfl, by rw [List.length_cons] at hB; omega, fun z hz => ?_, fun r hr => ?_⟩
          · have e2 : A0 ++ [y] ++ x :: B' = A0 ++ y :: x :: B' := by simp
            rw [e2]
            exact ((List.Perm.swap x y _).append_left A0).trans pA
          · rcases List.mem_append.mp hz with z' | z'
            · exact hmax z z'
            · rw [List.mem_singleton.mp z']
              exact gk.asym _ _ e
          · rw [e1]
            exact (go r hr).app (goes_swap (B := B' ++ D0) (fun s hs => hS s (pS.mem_iff.mp hs)) (Nat.le_trans (Nat.le_of_eq pS.length_eq) (by omega)) hr)
        · walk_at "go"
          have e1 : A0 ++ [x] ++ y :: (B' ++ D0) = A0 ++ x :: (y :: B' ++ D0) := by simp
          refine ⟨_, _, _, us, ss, A0 ++ [x], B', y, rfl, (s4.trans u12), (u12.at hst4), by rw [e1]; exact (u12.at hrw4), (hss.same u12), by omega, by rw [e1]; exact pS, ?_, by rw [List.length_append, hA]; rfl, by simp at hB; omega, fun z hz => ?_, fun r hr => by rw [e1]; exact go r hr⟩
          · have e2 : A0 ++ [x] ++ y :: B' = A0 ++ x :: (y :: B') := by simp
            rw [e2]
            exact pA
          · rcases List.mem_append.mp hz with z' | z'
            · exact gk.trans _ _ _ (hmax z z') e
            · rw [List.mem_singleton.mp z']
              exact e
      · rintro σ H4 ⟨y6, y7, y5, us, ss, A0, B, x, rfl, s4, hst4, hrw4, hss, hul, pS, pA, hA, hB, hmax, go⟩
        have hBn : B = [] := List.eq_nil_of_length_eq_zero (by omega)
        subst hBn
        refine ⟨_, _, _, _, us, ss, A0 ++ x :: D0, rfl, s4, hst4, hrw4, hss, by omega, pS, ?_, go⟩
        rw [show S.length - (i + 1) = m by omega, ← hA]
        exact Bub.of hD0 (fun b hb => hall0 x (pA.mem_iff.mp (by simp)) b hb) hmax (fun c hc b hb => hall0 c (pA.mem_iff.mp (by simp [hc])) b hb)
    · rintro σ H3 ⟨y4, y5, y6, y7, us, ss, R, rfl, s3, hst3, hrw3, hss, hul, pR, bu, go⟩
      walk_at "go"
      refine q st H3 us ss R nst0 s3 hst3 hss pR (bu.fin (by have := pR.length_eq; omega)) (by omega) go
end
end Sf
namespace Sf
open PySem PySem.Spec PyProof.Rows L2 TL
def startsL (x y : Str) : Bool := decide ((tl x).take (tl y).length = tl y)
theorem subAt_eq (x y : Str) (i : Nat) : Builtin.Str.subAt x y i = decide (((tl x).drop i).take (tl y).length = tl y) := by
  unfold Builtin.Str.subAt
  rw [Bool.eq_iff_iff, decide_eq_true_eq, beq_iff_eq]
  have e1 : (x.cps.extract i (i + y.length)).toList = ((tl x).drop i).take (tl y).length := by
    rw [Array.toList_extract, List.extract_eq_take_drop, show i + y.length - i = y.length by omega, len_tl]
  constructor
  · intro h
    rw [← e1, h]
  · intro h
    exact Array.toList_inj.mp (e1.trans h)
theorem starts_eq (x y : Str) : Txt.startswith x y = startsL x y := by
  unfold Txt.startswith startsL
  rw [subAt_eq, List.drop_zero, Bool.eq_iff_iff, Bool.and_eq_true]
  simp only [decide_eq_true_eq]
  constructor
  · exact And.right
  · intro h
    refine ⟨?_, h⟩
    have := congrArg List.length h
    rw [List.length_take] at this
    rw [len_tl, len_tl]
    omega
end Sf
namespace Sf
open PySem PySem.Spec PyProof.Rows L2 TL
section
variable {X : Cx} {σ : L2.St} {H : Hp} {Q : VK} {K : PySem.W.Frag}
/-! ### xs += ys -/
theorem ip_ext : PIp X .Add rExt2 := iop_ext
theorem w_ext {l b : Addr} {xs zs : List V} (h1 : H l = some (.lst xs)) (h2 : H b = some (.lst zs)) (hl : xs.length + zs.length ≤ sizeLine) (q : ∀ H1, H1 l = some (.lst (xs ++ zs)) → Of l H H1 → Q (.ref l) H1) : rExt2 (.ref l) (.ref b) H Q := ⟨l, b, xs, zs, rfl, rfl, h1, h2, hl, q _ upd_same .mk'⟩
theorem ip_addS : PIp X .Add rAddStr := iop_add_str
end
end Sf
namespace Sf
open PySem PySem.Spec PyProof.Rows L2 TL LamX NdefX
theorem starts_prs (s t : Str) : Txt.startswith t s = prs s t := by
  rw [starts_eq]
  unfold startsL prs
  rw [Bool.eq_iff_iff, decide_eq_true_eq, List.isPrefixOf_iff_prefix, List.prefix_iff_eq_take]
  exact ⟨fun h => h.symm, fun h => h.symm⟩
theorem last_cut {e : Str} : cutS e (some (-1)) none = mkS (tl e).getLast?.toList := by
  refine ext_tl ?_
  rw [tl_cut, tl_mkS]
  unfold HT.sIx
  dsimp only
  rw [if_pos (by decide), len_tl]
  cases h : (tl e).reverse with
  | nil =>
    have : tl e = [] := List.reverse_eq_nil_iff.mp h
    rw [this]
    rfl
  | cons c r =>
    have : tl e = r.reverse ++ [c] := by
      have := congrArg List.reverse h
      rw [List.reverse_reverse, List.reverse_cons] at this
      exact this
    rw [this, List.getLast?_concat, List.length_append]
    have e2 : ((-1 : Int) + ((r.reverse.length + [c].length : Nat) : Int)).toNat = r.reverse.length := by
      show ((-1 : Int) + ((r.reverse.length + 1 : Nat) : Int)).toNat = _
      omega
    rw [e2, List.drop_left]
    exact List.take_of_length_le (by show 1 ≤ _; rw [List.length_cons, List.length_nil]; omega)
theorem shortL_next {w : List Nat} {c : Nat} : shortL (w ++ [c]) = if (shortL w).getLast? = some (flipC c) then (shortL w).dropLast else shortL w ++ [c] := by
  rw [shortL_snoc]
  cases h : (shortL w).reverse with
  | nil =>
    have : shortL w = [] := List.reverse_eq_nil_iff.mp h
    rw [this, push_nil]
    rfl
  | cons x r =>
    have : shortL w = r.reverse ++ [x] := by
      have := congrArg List.reverse h
      rw [List.reverse_reverse, List.reverse_cons] at this
      exact this
    rw [this, push_last, List.getLast?_concat, List.dropLast_concat]
    by_cases e : x = flipC c
    · rw [if_pos e, if_pos (by rw [e])]
    · rw [if_neg e, if_neg (fun z => e (Option.some.inj z))]
theorem runS_le : ∀ (w s : List Nat), (runS s w).length ≤ s.length + w.length
  | [], s => Nat.le_refl _
  | c :: w, s => by
    rw [runS_cons]
    have h := runS_le w (pushS s c)
    have h2 : (pushS s c).length ≤ s.length + 1 := by
      unfold pushS
      split
      · show 1 ≤ _; omega
      · split
        · simp only [List.length_cons]; omega
        · simp only [List.length_cons]; omega
    rw [List.length_cons]
    omega
theorem shortL_le (w : List Nat) : (shortL w).length ≤ w.length := by
  unfold shortL
  rw [List.length_reverse]
  have := runS_le w []
  rw [List.length_nil] at this
  omega
theorem w_lcEn {K : PySem.W.Frag} {σ : L2.St} {H : Hp} {Q : VK} {a : Addr} {xs : List V} {g : TG} {tt : TT} {te : TE} {vs : List Nat} (Pv : Addr → Nat → Hp → Prop) (h0 : ∀ p H1, H1 p = some (.lst []) → Nw p H H1 → Pv p 0 H1)
    (hl : ∀ p i H, i ≤ xs.length → Pv p i H → H a = some (.lst xs)) (hs : ∀ p i x t H H1, xs[i]? = some x → Pv p i H → H1 t = some (.tup [.int (i : Nat), x]) → Nw t H H1 → g (.ref t) (wipe σ vs) H1 (kEach tt te vs σ p (Pv p (i + 1)))) (hd : ∀ p H, Pv p xs.length H → Q (.ref p) H) : kLc g tt te vs σ Q (Ite K a) H := by
  refine w_lcG (n := xs.length) Pv h0 (fun p i H hi h => ⟨xs, xs[i], SqL.of (hl p i H (Nat.le_of_lt hi) h), List.getElem?_eq_getElem hi⟩) (fun p H h => ⟨xs, SqL.of (hl p _ H (Nat.le_refl _) h), Nat.le_refl _⟩) ?_ hd
  rintro p i v H H' hi h ⟨t, x, rfl, nt, rfl, hx⟩
  exact hs p i x t H _ (hx xs (SqL.of (hl p i H (Nat.le_of_lt hi) h))) h upd_same (.mk' nt)
theorem w_irevR {σ : L2.St} {H : Hp} {tr : L2.St → Hp → (Int → Int → Hp → Prop) → Prop} {R : It → Hp → Prop} (q : tr σ H fun a b H1 => -(2 ^ 62) ≤ a ∧ a < 2 ^ 62 ∧ -(2 ^ 62) ≤ b ∧ b < 2 ^ 62 ∧ R (Itc (a + (((b - a).toNat : Nat) : Int) - 1) (-1) (b - a).toNat) H1) : iRevR tr σ H R := q
theorem at_last {l : List Nat} {c : Nat} (h : l.getLast? = some c) : atI l (-1) = some c := by
  obtain ⟨r, rfl⟩ := List.getLast?_eq_some_iff.mp h
  unfold atI ixN
  rw [if_neg (by decide), if_pos (by rw [List.length_append]; show -((r.length + 1 : Nat) : Int) ≤ -1; omega)]
  show (r ++ [c])[((-1 : Int) + ((r ++ [c]).length : Nat)).toNat]? = some c
  rw [show ((-1 : Int) + ((r ++ [c]).length : Nat)).toNat = r.length by rw [List.length_append]; show ((-1 : Int) + ((r.length + 1 : Nat) : Int)).toNat = _; omega]
  rw [List.getElem?_append_right (Nat.le_refl _), Nat.sub_self]
  rfl
theorem paired_app2 {α β : Type} {R : α → β → Prop} : ∀ {as : List α} {bs : List β} {cs : List α} {ds : List β}, Paired R as bs → Paired R cs ds → Paired R (as ++ cs) (bs ++ ds)
  | _, _, _, _, .nil, h => h
  | _, _, _, _, .cons r t, h => .cons r (paired_app2 t h)
section
variable {P : Program} {w : World} {K : PySem.W.Frag} {mg : Str → Option Value} {base : Heap}
/-! ### unrolled -/
def spUr : Sp := fun vs H Q _ => ∃ x : Str, vs = [.str x] ∧ Wd x ∧ x.length ≤ 60 ∧
  ∀ (t st sp : Addr) (H' : Hp) (us : List V) (ss : List Sp3) (S : List Str), Same H H' → H st = none → H sp = none → st ≠ sp → H' t = some (.tup [.ref st, .ref sp, .str (shortT x)]) → H' st = some (.lst us) → H' sp = some (.lst (S.map V.str)) → StsAt H' us ss → us.length ≤ 200 → S.length ≤ 60 → (∀ s ∈ S, WdN s ∧ Rdc s) →
    (S = [] → ss = [] ∧ shortT x = x) → Goes x ss (mkS (rowL S ++ tl (shortT x))) → Q (.ref t) H'
theorem sc_ur : FnScope ["word", "steps", "spots", "end", "sign", "at", "near"] ["word"] (defScope s_unrolled) := ⟨rfl, rfl, rfl, by decide +kernel, rfl, by decide +kernel, by decide +kernel⟩
theorem has_ur (F : FnAt K mg "unrolled" s_unrolled ["word"]) (B : Blt mg) (h_Wi : Has P w K mg base 1 "width" ["spots"] spWi) (h_Tu : HasTurned P w K mg base) : Has P w K mg base 2 "unrolled" ["word"] spUr := F.has fun F => by
  obtain ⟨f_Wi, fd_Wi, g_Wi, k_Wi, b_Wi, G_Wi⟩ := h_Wi
  obtain ⟨f_Tu, fd_Tu, g_Tu, k_Tu, b_Tu, G_Tu⟩ := h_Tu
  refine F.ok sc_ur (fun vs H Q E h => ?_) (fun cdv A outer s H vs Q E hr h => ?_)
  · obtain ⟨x, rfl, _⟩ := h
    rfl
  · obtain ⟨x, rfl, hx, hxl, q⟩ := h
    have hxl' : (tl x).length ≤ 60 := by rw [← len_tl]; exact hxl
    refine ⟨_, (pss_cons (ps_set (i := 1) sc_ur.nd rfl (.inl rfl) (pe_lst pa_nil)) (pss_cons (ps_set (i := 2) sc_ur.nd rfl (.inl rfl) (pe_lst pa_nil)) (pss_cons (ps_set (i := 3) sc_ur.nd rfl (.inl rfl) pe_str) (pss_cons (ps_for PassesOwn.never rfl (pi_str (pv 0)) (pg_name (i := 4) sc_ur.nd rfl (.inl rfl)) (pss_cons (ps_if (pt_cmpR op_ne (pe_slice sl_str (pv 3) (po_some (pe_un un_neg pe_int)) po_none) (pe_swapN (pv 4)) (nomark _)) (pss_cons (ps_aug (i := 3) sc_ur.nd rfl (.inl rfl) (pv 4) ip_addS) (pss_one (ps_continue))) pss_nil) (pss_cons (ps_set (i := 5) sc_ur.nd rfl (.inl rfl) (pe_call G_Wi (hr.mono (by decide)) (by rfl) g_Wi k_Wi b_Wi .nil pass0 (pa_cons (pv 2) pa_nil))) (pss_cons (ps_set (i := 6) sc_ur.nd rfl (.inl rfl) (pe_slice sl_str (pv 3) po_none (po_some (pe_un un_neg pe_int)))) (pss_cons (ps_if (pt_cmpR op_ne (pv 6) pe_str (nomark _)) (pss_one (ps_aug (i := 1) sc_ur.nd rfl (.inl rfl) (pe_lst (pa_cons (pe_tup (pa_cons pe_str (pa_cons (pv 5) (pa_cons (pv 6) pa_nil)))) (pa_cons (pe_tup (pa_cons pe_str (pa_cons (pe_op op_add (pv 5) (pe_callB call_lenS (by rfl) B.len PySem.boot_len (pa_cons (pv 6) pa_nil))) (pa_cons (pe_call G_Tu (hr.mono (by decide)) (by rfl) g_Tu k_Tu b_Tu .nil pass0 (pa_cons (pv 6) pa_nil)) (pa_cons (pe_ix ix_str (pv 3) (pe_un un_neg pe_int) (fun _ _ => rfl)) pa_nil))))) pa_nil))) ip_ext)) pss_nil) (pss_cons (ps_expr (pe_bm PySem.F.plainAttrs_list PySem.F.slot_list_append PySem.F.type_list_append mt_append (pv 2) (pa_cons (pv 3) pa_nil))) (pss_one (ps_set (i := 3) sc_ur.nd rfl (.inl rfl) (pv 6))))))))) (pss_one (ps_ret (pe_tup (pa_cons (pv 1) (pa_cons (pv 2) (pa_cons (pv 3) pa_nil)))))))))), ?_⟩
    walk_at "go"
    refine w_newL (by walk_at "sz") (fun st H1 hst nst => ?_)
    walk_at "go"
    refine w_newL (by walk_at "sz") (fun sp H2 hsp nsp => ?_)
    have nst0 := nst.nn
    have nsp0 : H sp = none := nst.same.free nsp.nn
    have ssp : st ≠ sp := nsp.ne hst
    walk_at "go"
    have shw : ∀ i, Sg ((tl x).take i) := fun i c hc => hx c (List.mem_of_mem_take hc)
    refine w_str (fun i σ H3 => ∃ (y4 y5 y6 : Option V) (us : List V) (ss : List Sp3) (S : List Str), σ = [some (.str x), some (.ref st), some (.ref sp), some (.str (mkS (shortL ((tl x).take i)))), y4, y5, y6] ∧ Same H H3 ∧ H3 st = some (.lst us) ∧ H3 sp = some (.lst (S.map V.str)) ∧ StsAt H3 us ss ∧ us.length ≤ 2 * i ∧ S.length ≤ i ∧ (∀ s ∈ S, WdN s ∧ Rdc s) ∧
      (S = [] → ss = [] ∧ shortL ((tl x).take i) = (tl x).take i) ∧ Goes x ss (mkS (rowL S ++ shortL ((tl x).take i) ++ (tl x).drop i))) ⟨none, none, none, [], [], [], rfl, nst.same.nw nsp, nsp.at hst, hsp, .nil, by decide, by decide, fun s hs => (by cases hs), fun _ => ⟨rfl, rfl⟩, (mk_tl x).symm⟩ ?_ ?_
    · rintro i c σ H3 hc ⟨y4, y5, y6, us, ss, S, rfl, s3, hst3, hsp3, hss, hul, hSl, hS, hS0, go⟩
      have hi : i < (tl x).length := (List.getElem?_eq_some_iff.mp hc).1
      have hcs : sgn c = true := hx c (List.mem_of_getElem? hc)
      have hsl := shortL_le ((tl x).take i)
      rw [List.length_take] at hsl
      have hrd := short_rdc (shw i)
      have edrop : (tl x).drop i = c :: (tl x).drop (i + 1) := by
        rw [List.drop_eq_getElem_cons hi]
        congr 1
        exact Option.some.inj ((List.getElem?_eq_getElem hi).symm.trans hc)
      have enext := shortL_next (w := (tl x).take i) (c := c)
      rw [← tk_snoc hc] at enext
      generalize hw0 : shortL ((tl x).take i) = w0 at *
      walk_at "go"
      refine w_slS (line_of (by rw [mkS_len]; omega)) ?_
      walk_at "go"
      refine w_swap1 hcs ?_
      walk_at "go"
      rw [last_cut, tl_mkS]
      by_cases hm : w0.getLast? = some (flipC c)
      · rw [if_pos hm] at enext
        have e1 : (mkS w0.getLast?.toList : Str) = one (flipC c) := by rw [hm]; exact ext_tl rfl
        rw [e1, decide_eq_true rfl]
        obtain ⟨near, ew⟩ : ∃ near, w0 = near ++ [flipC c] := List.getLast?_eq_some_iff.mp hm
        have enear : w0.dropLast = near := by rw [ew, List.dropLast_concat]
        rw [enear] at enext
        have hnw : Wd (mkS near) := fun d hd => hrd.1 d (by rw [tl_mkS] at hd ⊢; rw [ew]; exact List.mem_append_left _ hd)
        have hnl : near.length + 1 ≤ i := by
          have := congrArg List.length ew
          rw [List.length_append] at this
          have h2 : [flipC c].length = 1 := rfl
          omega
        walk_at "go"
        refine w_ifF ?_
        walk_at "go"
        refine ⟨sp, S, rfl, hsp3, by omega, fun s hs => by have := (hS s hs).1.2.2; omega, fun H4 s4 => ?_⟩
        walk_at "go"
        refine w_slS (line_of (by rw [mkS_len]; omega)) ?_
        rw [show cutS (mkS w0) none (some (-1)) = mkS near by rw [cut_but]; exact ext_tl (by unfold cutL; rw [tl_mkS, tl_mkS, tl_mkS, enear])]
        walk_at "gs"
        have hf2 : flipC (flipC c) = c := flip2 hcs
        have hfs : sgn (flipC c) = true := flip_sgn hcs
        have hroll := goes_roll (S := S) (near := mkS near) (x := flipC c) (r := (tl x).drop (i + 1)) (fun s hs => (hS s hs).1.2.2) (by omega) (by rw [List.length_drop]; omega) hnw (by rw [mkS_len]; omega) hfs
        rw [hf2, tl_mkS] at hroll
        have go2 : Goes x (ss ++ rolls S (mkS near) (flipC c)) (mkS (rowL (S ++ [mkS w0]) ++ near ++ (tl x).drop (i + 1))) := by
          refine go.app ?_
          rw [ew, edrop]
          have e2 : rowL S ++ (near ++ [flipC c]) ++ c :: (tl x).drop (i + 1) = rowL S ++ near ++ (flipC c :: c :: (tl x).drop (i + 1)) := by simp
          rw [e2]
          exact hroll
        have hwn : WdN (mkS w0) ∧ Rdc (mkS w0) := ⟨⟨hrd.1, by rw [mkS_len, ew, List.length_append]; show 1 ≤ _ + 1; omega, by rw [mkS_len]; omega⟩, hrd⟩
        refine w_seqJ (fun σ' H' => ∃ us', σ' = [some (.str x), some (.ref st), some (.ref sp), some (.str (mkS w0)), some (.str (one c)), some (.int ((rowL S).length : Nat)), some (.str (mkS near))] ∧ Same H H' ∧ H' st = some (.lst us') ∧ H' sp = some (.lst (S.map V.str)) ∧ StsAt H' us' (ss ++ rolls S (mkS near) (flipC c)) ∧ us'.length ≤ us.length + 2) (fun N hN => ?_) ?_
        · walk_at "go"
          refine w_ifN2 (fun hne => ?_) (fun he => ?_)
          · have hroll2 : rolls S (mkS near) (flipC c) = [.there ((rowL S).length : Int) (mkS near), .swap (((rowL S).length : Int) + (mkS near).length) (backT (mkS near)) (one (flipC c))] := by
              unfold rolls
              rw [if_neg hne]
            walk_at "go"
            refine w_newT (by walk_at "sz") (fun t5 H5 ht5 nt5 => ?_)
            walk_at "go"
            refine w_lenS (line_of (by rw [mkS_len]; omega)) ?_
            walk_at "go"
            refine ⟨mkS near, rfl, hnw, by rw [mkS_len]; omega, ?_⟩
            walk_at "go"
            refine w_ixS (c := flipC c) (line_of (by rw [mkS_len]; omega)) (by
              show atI (tl (mkS w0)) (-1) = _
              rw [tl_mkS]
              refine at_last hm) ?_
            walk_at "go"
            refine w_newT (by walk_at "sz") (fun t6 H6 ht6 nt6 => ?_)
            walk_at "go"
            refine w_newL (by walk_at "sz") (fun l7 H7 hl7 nl7 => ?_)
            have s47 : Same H3 H7 := ((s4.nw nt5).nw nt6).nw nl7
            refine w_ext (s47.at hst3) hl7 (line_of (by show us.length + 2 ≤ _; omega)) (fun H8 hst8 o8 => ?_)
            have hst7 := s47.at hst3
            have t5s : t5 ≠ st := (nt5.ne (s4.at hst3)).symm
            have t6s : t6 ≠ st := (nt6.ne (nt5.at (s4.at hst3))).symm
            refine hN _ _ ⟨_, rfl, (s3.trans s47).off o8 nst0, hst8, o8.at ssp.symm (s47.at hsp3), ?_, by rw [List.length_append]; exact Nat.le_refl _⟩
            rw [hroll2]
            exact paired_app2 ((hss.same s47).off hst7 o8) (.cons ⟨t5, rfl, o8.at t5s (nl7.at (nt6.at ht5))⟩ (.cons ⟨t6, rfl, o8.at t6s (nl7.at ht6)⟩ .nil))
          · walk_at "go"
            refine hN _ _ ⟨us, rfl, s3.trans s4, s4.at hst3, s4.at hsp3, ?_, by omega⟩
            unfold rolls
            rw [if_pos he, List.append_nil]
            exact hss.same s4
        · rintro σ' H' ⟨us', rfl, s', hst', hsp', hss', hul'⟩
          walk_at "go"
          refine w_append hsp' (lineLt_of (by rw [List.length_map]; omega)) (fun H9 hsp9 o9 => ?_)
          walk_at "go"
          refine ⟨_, _, _, us', _, S ++ [mkS w0], (by rw [enext]; rfl), s'.off o9 nsp0, o9.at ssp hst', by rw [hsp9, List.map_append]; rfl, hss'.off hsp' o9, by omega, by rw [List.length_append]; show S.length + 1 ≤ _; omega, fun s hs => ?_, fun z => by simp at z, by rw [enext]; exact go2⟩
          rcases List.mem_append.mp hs with z | z
          · exact hS s z
          · rw [List.mem_singleton.mp z]; exact hwn
      · rw [if_neg hm] at enext
        have e1 : ¬ (mkS w0.getLast?.toList : Str) = one (flipC c) := fun z => by
          have z := congrArg tl z
          rw [tl_mkS, tl_one] at z
          cases hl : w0.getLast? with
          | none => rw [hl] at z; cases z
          | some d => rw [hl] at z; rw [hl] at hm; exact hm (congrArg some (List.cons.inj z).1)
        rw [decide_eq_false e1]
        walk_at "go"
        refine w_ifT ?_
        walk_at "go"
        refine w_addS (line_of (by rw [mkS_len, len_one]; omega)) ?_
        walk_at "go"
        refine ⟨_, _, _, us, ss, S, by rw [enext, mk_app]; rfl, s3, hst3, hsp3, hss, by omega, by omega, hS, fun z => ⟨(hS0 z).1, by rw [enext, tk_snoc hc, (hS0 z).2]⟩, ?_⟩
        rw [enext]
        have e2 : rowL S ++ (w0 ++ [c]) ++ (tl x).drop (i + 1) = rowL S ++ w0 ++ (tl x).drop i := by rw [edrop]; simp
        rw [e2]
        exact go
    · rintro σ H3 ⟨y4, y5, y6, us, ss, S, rfl, s3, hst3, hsp3, hss, hul, hSl, hS, hS0, go⟩
      rw [List.take_length, List.drop_length, List.append_nil] at go
      rw [List.take_length] at hS0
      rw [List.take_length]
      walk_at "go"
      refine w_newT (by walk_at "sz") (fun t H4 ht nt => ?_)
      exact q t st sp H4 us ss S (s3.nw nt) nst0 nsp0 ssp ht (nt.at hst3) (nt.at hsp3) (hss.same nt.same) (by omega) (by omega) hS (fun z => ⟨(hS0 z).1, by unfold shortT; rw [(hS0 z).2, mk_tl]⟩) (by unfold shortT; rw [tl_mkS]; exact go)
/-! ### backs -/
def spBk : Sp := fun vs H Q _ => ∃ (a : Addr) (S : List Str), vs = [.ref a] ∧ H a = some (.lst (S.map V.str)) ∧ (∀ s ∈ S, WdN s) ∧ S.length ≤ 100 ∧
  ∀ (p : Addr) (H' : Hp) (us : List V) (ss : List Sp3), H p = none → Same H H' → H' p = some (.lst us) → StsAt H' us ss → us.length ≤ 100 → (∀ r : List Nat, r.length ≤ 100 → Goes (mkS (rowL S ++ r)) ss (mkS (rowL (tipD S) ++ r))) → Q (.ref p) H'
theorem sc_bk : FnScope ["spots", "steps", "at"] ["spots"] (defScope s_backs) := ⟨rfl, rfl, rfl, by decide +kernel, rfl, by decide +kernel, by decide +kernel⟩
theorem has_bk (F : FnAt K mg "backs" s_backs ["spots"]) (B : Blt mg) (Nreversed : mg "reversed" = none) (h_Wi : Has P w K mg base 1 "width" ["spots"] spWi) : Has P w K mg base 2 "backs" ["spots"] spBk := F.has fun F => by
  obtain ⟨f_Wi, fd_Wi, g_Wi, k_Wi, b_Wi, G_Wi⟩ := h_Wi
  refine F.ok sc_bk (fun vs H Q E h => ?_) (fun cdv A outer s H vs Q E hr h => ?_)
  · obtain ⟨a, S, rfl, _⟩ := h
    rfl
  · obtain ⟨a, S, rfl, ha, hS, hn, q⟩ := h
    refine ⟨_, (pss_cons (ps_set (i := 1) sc_bk.nd rfl (.inl rfl) (pe_lst pa_nil)) (pss_cons (ps_for PassesOwn.never rfl (pi_revR (by rfl) Nreversed (prg_1 (by rfl) B.range (pe_op op_sub (pe_callB call_lenQ (by rfl) B.len PySem.boot_len (pa_cons (pv 0) pa_nil)) pe_int))) (pg_name (i := 2) sc_bk.nd rfl (.inl rfl)) (pss_one (ps_if (pt_val (pe_m1 PySem.F.slot_str_startswith PySem.F.type_str_startswith mt_startN (pe_ix ix_list (pv 0) (pe_op op_add (pv 2) pe_int) (fun _ _ => rfl)) (pe_ix ix_list (pv 0) (pv 2) (fun _ _ => rfl)))) (pss_one (ps_expr (pe_bm PySem.F.plainAttrs_list PySem.F.slot_list_append PySem.F.type_list_append mt_append (pv 1) (pa_cons (pe_tup (pa_cons pe_str (pa_cons (pe_call G_Wi (hr.mono (by decide)) (by rfl) g_Wi k_Wi b_Wi .nil pass0 (pa_cons (pe_slice sl_list (pv 0) po_none (po_some (pv 2))) pa_nil)) (pa_cons (pe_ix ix_list (pv 0) (pv 2) (fun _ _ => rfl)) pa_nil)))) pa_nil)))) pss_nil))) (pss_one (ps_ret (pv 1))))), ?_⟩
    walk_at "go"
    refine w_newL (by walk_at "sz") (fun st H1 hst nst => ?_)
    have ha1 := nst.at ha
    walk_at "go"
    refine w_irevR ?_
    walk_at "go"
    rw [List.length_map]
    refine ⟨by decide, by decide, by omega, by omega, ?_⟩
    have start : ∀ r : List Nat, mkS (rowL S ++ r) = mkS (rowL (S.take (S.length - 1)) ++ rowL (tipD (S.drop (S.length - 1))) ++ r) := fun r => by
      have e : tipD (S.drop (S.length - 1)) = S.drop (S.length - 1) := by
        have hl : (S.drop (S.length - 1)).length ≤ 1 := by rw [List.length_drop]; omega
        match hd : S.drop (S.length - 1), hl with
        | [], _ => rfl
        | [s], _ => rfl
      rw [e, ← row_app, List.take_append_drop]
    refine w_rangeC (fun i σ H3 => ∃ (y2 : Option V) (us : List V) (ss : List Sp3), σ = [some (.ref a), some (.ref st), y2] ∧ Same H H3 ∧ H3 st = some (.lst us) ∧ StsAt H3 us ss ∧ us.length ≤ i ∧ (∀ r : List Nat, r.length ≤ 100 → Goes (mkS (rowL S ++ r)) ss (mkS (rowL (S.take (S.length - 1 - i)) ++ rowL (tipD (S.drop (S.length - 1 - i))) ++ r)))) ⟨none, [], [], rfl, nst.same, hst, .nil, by decide, fun r _ => start r⟩ ?_ ?_
    · rintro i σ H3 hi ⟨y2, us, ss, rfl, s3, hst3, hss, hul, go⟩
      have hi : i + 1 < S.length := by omega
      obtain ⟨k, hk⟩ : ∃ k, S.length - 1 - i = k + 1 := ⟨S.length - 2 - i, by omega⟩
      have ek : (0 : Int) + (((((S.length : Int) - 1) - 0).toNat : Nat) : Int) - 1 + (i : Nat) * -1 = (k : Nat) := by omega
      rw [ek]
      have hS1 : S[k]? = some S[k] := List.getElem?_eq_getElem (by omega)
      have hS2 : S[k + 1]? = some S[k + 1] := List.getElem?_eq_getElem (by omega)
      generalize hsk : S[k] = u at hS1
      generalize htk : S[k + 1] = v at hS2
      have ed : S.drop k = u :: v :: S.drop (k + 1 + 1) := by
        rw [List.drop_eq_getElem_cons (by omega), List.drop_eq_getElem_cons (by omega), hsk, htk]
      have ed1 : S.drop (k + 1) = v :: S.drop (k + 1 + 1) := by rw [List.drop_eq_getElem_cons (by omega), htk]
      have et : S.take (k + 1) = S.take k ++ [u] := tk_snoc hS1
      have hul2 := hS u (List.mem_of_getElem? hS1)
      have i1 : atI (S.map V.str) ((k : Nat) + 1 : Int) = some (V.str v) := at_of (j := k + 1) (by omega) (by rw [List.getElem?_map, hS2]; rfl)
      have i2 : atI (S.map V.str) ((k : Nat) : Int) = some (V.str u) := at_of (j := k) (by omega) (by rw [List.getElem?_map, hS1]; rfl)
      have ha3 := s3.at ha
      walk_at "go"
      refine w_ixL ha3 i1 ?_
      walk_at "go"
      refine w_ixL ha3 i2 ?_
      walk_at "go"
      rw [starts_prs]
      have hnext : S.length - 1 - (i + 1) = k := by omega
      rw [hk, et, ed1] at go
      refine w_ifB (fun e => ?_) (fun e => ?_)
      · walk_at "go"
        refine w_slL ha3 (fun c1 H4 hc1 nc1 => ?_)
        rw [cut_takeV (by omega) (by rw [List.length_map]; omega), ← List.map_take, show ((k : Nat) : Int).toNat = k by omega] at hc1
        walk_at "go"
        refine ⟨c1, _, rfl, hc1, by rw [List.length_take]; omega, fun s hs => by have := (hS s (List.mem_of_mem_take hs)).2.2; omega, fun H5 s5 => ?_⟩
        walk_at "go"
        refine w_ixL (s5.at (nc1.at ha3)) i2 ?_
        walk_at "go"
        refine w_newT (by walk_at "sz") (fun t6 H6 ht6 nt6 => ?_)
        walk_at "go"
        have s36 : Same H3 H6 := (nc1.same.trans s5).nw nt6
        have hst6 := s36.at hst3
        refine w_append hst6 (lineLt_of (by omega)) (fun H7 hst7 o7 => ?_)
        have t6s : t6 ≠ st := fun z => by rw [z, hst6] at ht6; cases ht6
        walk_at "go"
        refine ⟨_, _, ss ++ [.back ((rowL (S.take k)).length : Int) u], rfl, (s3.trans s36).off o7 nst.nn, hst7, paired_snoc ⟨t6, rfl, o7.at t6s ht6⟩ ((hss.same s36).off hst6 o7), by rw [List.length_append]; show us.length + 1 ≤ _; omega, fun r hr => ?_⟩
        rw [hnext, ed]
        have esp : S = S.take k ++ u :: v :: S.drop (k + 1 + 1) := by rw [← ed, List.take_append_drop]
        exact (go r hr).app (goes_back (A := S.take k) (by rw [← esp]; exact hS) (by rw [← esp]; omega) hr e)
      · walk_at "go"
        refine ⟨_, us, ss, rfl, s3, hst3, hss, by omega, fun r hr => ?_⟩
        rw [hnext, ed]
        have e3 : tipD (u :: v :: S.drop (k + 1 + 1)) = u :: tipD (v :: S.drop (k + 1 + 1)) := by
          show (if prs u v = true then _ else _) = _
          rw [if_neg (by rw [e]; decide)]
        rw [e3, row_cons]
        have := go r hr
        rw [row_snoc] at this
        rw [← List.append_assoc (rowL (S.take k))]
        exact this
    · rintro σ H3 ⟨y2, us, ss, rfl, s3, hst3, hss, hul, go⟩
      rw [show S.length - 1 - ((S.length : Int) - 1 - 0).toNat = 0 by omega, List.take_zero, List.drop_zero] at go
      walk_at "go"
      exact q st H3 us ss nst.nn s3 hst3 hss (by omega) go
/-! ### tips -/
def spTi : Sp := fun vs H Q _ => ∃ (a : Addr) (S : List Str), vs = [.ref a] ∧ H a = some (.lst (S.map V.str)) ∧ S.length ≤ 100 ∧ ∀ (p : Addr) (H' : Hp), H p = none → Same H H' → H' p = some (.lst ((tipD S).map V.str)) → Q (.ref p) H'
theorem sc_ti : FnScope ["spots", "at", "spot"] ["spots"] (defScope s_tips) := ⟨rfl, rfl, rfl, by decide +kernel, rfl, by decide +kernel, by decide +kernel⟩
theorem has_ti (F : FnAt K mg "tips" s_tips ["spots"]) (B : Blt mg) (Be : mg "enumerate" = none) : Has P w K mg base 1 "tips" ["spots"] spTi := F.has fun F => by
  refine F.ok sc_ti (fun vs H Q E h => ?_) (fun cdv A outer s H vs Q E hr h => ?_)
  · obtain ⟨a, S, rfl, _⟩ := h
    rfl
  · obtain ⟨a, S, rfl, ha, hn, q⟩ := h
    refine ⟨_, (pss_one (ps_ret (pe_lc (own := [("at", 1), ("spot", 2)]) (g := gTup K 2 (gCons (gName 1) (gCons (gName 2) gNil))) (tt := tOr (tTest (tOp rEq (tVar 1) (tOp (rI0 fun i j => .int (i - j)) (tCB (rLenSeq K) (tCons (tVar 0) tNil)) (tC (.int 1))))) (tNot (tB (tM1 rStarts (tOp (rIxL K) (tVar 0) (tOp (rI0 fun i j => .int (i + j)) (tVar 1) (tC (.int 1)))) (tVar 2))))) (by rfl) sc_ti.nd (pi_enum (by rfl) Be (pa_cons (pv 0) pa_nil)) (blkOk_by (own := [("at", 1), ("spot", 2)]) (N := ["spots", "at", "spot"]) (sc := defScope s_tips) (by decide +kernel)) (fun _ _ _ _ _ => pg_tup rfl (pgs_cons (pg_name (i := 1) sc_ti.nd rfl (.inl rfl)) (pgs_cons (pg_name (i := 2) sc_ti.nd rfl (.inl rfl)) pgs_nil))) (fun _ _ _ _ _ => by exact pts_one (PW.pt (pw_or (pt_cmpR op_eq (pv 1) (pe_op op_sub (pe_callB call_lenQ (by rfl) B.len PySem.boot_len (pa_cons (pv 0) pa_nil)) pe_int) (nomark _)) (pw_or1 (pt_not (pt_val (pe_m1 PySem.F.slot_str_startswith PySem.F.type_str_startswith mt_startN (pe_ix ix_list (pv 0) (pe_op op_add (pv 1) pe_int) (fun _ _ => rfl)) (pv 2)))))))) (fun _ _ _ _ _ => (pv 2))))), ?_⟩
    walk_at "go"
    refine w_lcEn (xs := S.map V.str) (fun r i H2 => ∃ T : List Str, Same H H2 ∧ H r = none ∧ H2 r = some (.lst (T.map V.str)) ∧ T ++ tipD (S.drop i) = tipD S ∧ T.length ≤ i) (fun r H2 hr nr => ⟨[], nr.same, nr.nn, hr, rfl, by decide⟩) (fun r i H2 _ ⟨_, h, _⟩ => h.at ha) ?_ ?_
    · rintro r i v t H2 H3 hv ⟨T, s2, nr, hr2, eT, hT⟩ ht nt
      obtain ⟨u, hu, rfl⟩ : ∃ u, S[i]? = some u ∧ V.str u = v := by
        rw [List.getElem?_map, Option.map_eq_some_iff] at hv
        exact hv
      obtain ⟨hi, hu2⟩ := List.getElem?_eq_some_iff.mp hu
      have s3 := s2.nw nt
      have ha3 := s3.at ha
      have hr3 := nt.at hr2
      have ed : S.drop i = u :: S.drop (i + 1) := by rw [List.drop_eq_getElem_cons hi, hu2]
      rw [ed] at eT
      have keep : (tipD (u :: S.drop (i + 1)) = u :: tipD (S.drop (i + 1))) → ∀ H4, H4 r = some (.lst (T.map V.str ++ [V.str u])) → Of r H3 H4 → ∃ T : List Str, Same H H4 ∧ H r = none ∧ H4 r = some (.lst (T.map V.str)) ∧ T ++ tipD (S.drop (i + 1)) = tipD S ∧ T.length ≤ i + 1 := fun e H4 h4 o4 =>
        ⟨T ++ [u], s3.off o4 nr, nr, by rw [h4, List.map_append]; rfl, by rw [e] at eT; rw [← eT]; simp, by rw [List.length_append]; show T.length + 1 ≤ _; omega⟩
      walk_at "go"
      rw [List.length_map]
      refine w_or2 (fun e => ?_) (fun e => ?_)
      · walk_at "go"
        refine w_kIt hr3 (lineLt_of (by rw [List.length_map]; omega)) (keep ?_)
        rw [List.drop_of_length_le (by omega)]
        rfl
      · obtain ⟨v, hv⟩ : ∃ v, S[i + 1]? = some v := ⟨S[i + 1]'(by omega), List.getElem?_eq_getElem (by omega)⟩
        obtain ⟨hi2, hv2⟩ := List.getElem?_eq_some_iff.mp hv
        have ed1 : S.drop (i + 1) = v :: S.drop (i + 1 + 1) := by rw [List.drop_eq_getElem_cons hi2, hv2]
        have i1 : atI (S.map V.str) (((i : Nat) : Int) + 1) = some (V.str v) := at_of (j := i + 1) (by omega) (by rw [List.getElem?_map, hv]; rfl)
        walk_at "go"
        refine w_ixL ha3 i1 ?_
        walk_at "go"
        rw [starts_prs]
        have e3 : tipD (u :: S.drop (i + 1)) = if prs u v = true then tipD (S.drop (i + 1)) else u :: tipD (S.drop (i + 1)) := by rw [ed1]; rfl
        cases ep : prs u v with
        | true =>
          walk_at "go"
          rw [ep, if_pos rfl] at e3
          rw [e3] at eT
          exact ⟨T, s3, nr, hr3, eT, by omega⟩
        | false =>
          rw [Bool.not_false]
          walk_at "go"
          refine w_kIt hr3 (lineLt_of (by rw [List.length_map]; omega)) (keep ?_)
          rw [ep, if_neg (by decide)] at e3
          exact e3
    · rintro r H2 ⟨T, s2, nr, hr2, eT, hT⟩
      rw [List.length_map, List.drop_length] at eT
      rw [show T = tipD S by rw [← eT]; exact (List.append_nil _).symm] at hr2
      walk_at "go"
      exact q r H2 nr s2 hr2
end
end Sf
namespace Sf
open PySem PySem.Spec PyProof.Rows L2 TL LamX NdefX
/-! ### a def whose code object is known -/
def FnAtC (K : PySem.W.Frag) (mg : Str → Option Value) (x : Str) (st : Stmt) (ps : List Str) (c : Addr) : Prop :=
  ∃ (f : Addr) (oc : Value) (od : Option Addr) (kV doc pm : Value) (an : Option Addr) (ct : Value) (osl : Array (Option Value)), mg x = some (.ref f) ∧ K.lookup f = some ⟨oc, od, .func (PySem.W.fnOf x x (defArgs st) (defBody st) (defScope st) .none kV doc pm an (.ref c) ct), osl⟩ ∧
    PySem.W.codeIn K (.ref c) x = true ∧ PySem.W.keepIn K (.ref f) = true ∧ Binds K (PySem.W.fnOf x x (defArgs st) (defBody st) (defScope st) .none kV doc pm an (.ref c) ct) ps []
theorem FnAtC.has {P : Program} {w : World} {K : PySem.W.Frag} {mg : Str → Option Value} {base : Heap} {k : Nat} {x : Str} {st : Stmt} {N ps : List Str} {c : Addr} {sp : Sp} (h : FnAtC K mg x st ps c) (S : FnScope N ps (defScope st)) (len : ∀ vs H Q E, sp vs H Q E → vs.length = ps.length)
    (hbody : ∀ (f : Addr) (A : Around) (outer : List Env) (s : Shared) (H : Hp) (vs : List V) (Q : VK) (E : XK), Room k (A.deeper (envOfC x (defScope st) s.heap.objs.size f (.ref c))) → sp vs H Q E →
      ∃ t, PSs (cxOf CX0 P w K mg base N x (defScope st) f (.ref c) A outer s H E).nox (defBody st) t ∧ t { nx := fun _ H' => Q .non H', rt := Q } (L2.start N vs) H) : Has P w K mg base (k + 1) x ps sp := by
  obtain ⟨f, oc, od, kV, doc, pm, an, ct, osl, g, lk, hcd, kp, b⟩ := h
  refine ⟨f, _, g, kp, b, fn_of lk hcd S len fun A outer s H vs Q E hr hsp => ?_⟩
  obtain ⟨t, h, q⟩ := hbody f A outer s H vs Q E hr hsp
  exact ⟨t, h.nox, q⟩
theorem raw0 {P : Program} {w : World} {K : PySem.W.Frag} {mg : Str → Option Value} {base : Heap} {CX : CXT} {k : Nat} {f : Addr} {fd : FuncData} {ps : List Str} {sp : Sp} (F : FnOk P w K mg base CX k f fd ps sp) (hb : Binds K fd ps []) : FnR P w K mg base CX k f sp :=
  (FnOk.raw F hb .nil).imp fun vs H Q E h => by
    rw [List.append_nil]
    exact h
theorem rising_pw : ∀ (r : List Str) (p : Str), PyProof.Rows.risingS p r = true → (∀ b ∈ r, dgt p b = false) ∧ r.Pairwise fun a b => dgt a b = false
  | [], p, _ => ⟨fun b hb => (by cases hb), List.Pairwise.nil⟩
  | x :: r, p, h => by
    unfold PyProof.Rows.risingS at h
    rw [Bool.and_eq_true] at h
    obtain ⟨h1, h2⟩ := h
    obtain ⟨i1, i2⟩ := rising_pw r x h2
    have hpx : dgt p x = false := by
      unfold dgt
      rw [Bool.not_eq_true', PyProof.Rows.ltCps_eq] at h1
      exact h1
    refine ⟨fun b hb => ?_, List.pairwise_cons.mpr ⟨i1, i2⟩⟩
    rcases List.mem_cons.mp hb with rfl | hb
    · exact hpx
    · exact dgt_trans hpx (i1 b hb)
theorem sorted_pw {r : List Str} (h : PyProof.Rows.sortedS r = true) : r.Pairwise fun a b => dgt a b = false := by
  cases r with
  | nil => exact .nil
  | cons x r => exact List.pairwise_cons.mpr (rising_pw r x h)
theorem sorted_one {l m : List Str} (h : l.Perm m) (hl : l.Pairwise fun a b => dgt a b = false) (hm : m.Pairwise fun a b => dgt a b = false) : l = m :=
  List.Perm.eq_of_pairwise (le := fun a b => dgt a b = false) (fun a b _ _ h1 h2 => dgt_anti h1 h2) hl hm h
theorem rises_sort {T : List Str} (h : T.Pairwise fun a b => wgt a b = false) (hn : T.Nodup) (hw : ∀ t ∈ T, Wd t) : Rises T := rises_of h hn hw
theorem spot_nil (s : Str) : spotP (Str.ofString "") s ↔ s = nil := by
  constructor
  · rintro ⟨i, _, rfl⟩
    rw [tl_empty, List.take_nil]
    exact ext_tl (by rw [tl_mkS, tl_empty]; rfl)
  · rintro rfl
    exact ⟨0, Nat.zero_le _, ext_tl (by rw [tl_mkS, tl_empty]; rfl)⟩
theorem plain_nil {L : List Str} (hL : Rises L) (hm : ∀ s, s ∈ L ↔ spotP (Str.ofString "") s) : plainT L (shortT (Str.ofString "")) = Str.ofString "" := by
  have e : L = [nil] := rises_ext hL (List.pairwise_singleton _ _) fun s => by rw [hm, spot_nil, List.mem_singleton]
  rw [e]
  decide +kernel
theorem _root_.NdefX.TabsN.off {T : List NTab} {H H1 : Hp} {p : Addr} {xs : List V} (t : TabsN T H) (hp : H p = some (.lst xs)) (o : Of p H H1) : TabsN T H1 := fun q hq => by
  obtain ⟨ps, h1, h2, h3⟩ := t q hq
  refine ⟨ps, o.at (ne_of h1 hp (by intro z; cases z)) h1, h2, fun pos cv hc => ?_⟩
  obtain ⟨c, e1, e2⟩ := h3 pos cv hc
  exact ⟨c, e1, o.at (ne_of e2 hp (by intro z; unfold CodeO at z; cases z)) e2⟩
def lamQ : Str := Str.ofString "to_plain.<locals>.<lambda>"
abbrev lamT (Pt : Addr) : List NTab := [(Pt, fun _ _ => lamQ)]
section
variable {P : Program} {w : World} {K : PySem.W.Frag} {mg : Str → Option Value} {base : Heap} {C cTp Pt : Addr}
/-! ### to_plain -/
def spTp (Pt : Addr) : Sp := fun vs H Q _ => ∃ x : Str, vs = [.str x] ∧ Wd x ∧ x.length ≤ 60 ∧ TabsN (lamT Pt) H ∧
  ∀ (p : Addr) (H' : Hp) (us : List V) (ss : List Sp3) (L : List Str), ExtN H H' → (∀ b, H' b = none → H b = none) → TabsN (lamT Pt) H' → H p = none → H' p = some (.lst us) → StsAt H' us ss → us.length ≤ 100000 → Rises L → (∀ s, s ∈ L ↔ spotP x s) →
    Goes x ss (plainT L (shortT x)) → (plainT L (shortT x) = x → ss = []) → Q (.ref p) H'
theorem sc_tp : FnScope ["word", "steps", "spots", "end", "spot"] ["word"] (defScope s_to_plain) := ⟨rfl, rfl, rfl, by decide +kernel, rfl, by decide +kernel, by decide +kernel⟩
theorem has_tp (F : FnAtC K mg "to_plain" s_to_plain ["word"] cTp) (B : Blt mg) (Nany : mg "any" = none) (TB : TabB base mg cTp Pt) (T_Track : TC K mg C) (mk : PySem.W.makesIn K C = true) (kc : PySem.W.keepIn K (.ref C) = true) (h_Ne : HasNeed P w K mg base) (h_TI : HasM P w K mg base C 3 "__init__" ["self", "word"] (spInit C)) (h_TPl : HasM P w K mg base C 5 "plain" ["self"] (spPlain C))
    (h_Wi : Has P w K mg base 1 "width" ["spots"] spWi) (h_Ur : Has P w K mg base 2 "unrolled" ["word"] spUr) (h_Sw : Has P w K mg base 4 "swaps" ["spots", "key"] (spSwA P w K mg base)) (h_Sw2 : Has P w K mg base 4 "swaps" ["spots", "key"] (spSwB P w K mg base)) (h_Bk : Has P w K mg base 2 "backs" ["spots"] spBk) (h_Ti : Has P w K mg base 1 "tips" ["spots"] spTi) (h_Rk : HasRank P w K mg base) :
    Has P w K mg base 7 "to_plain" ["word"] (spTp Pt) := by
  obtain ⟨f_Ne, fd_Ne, g_Ne, k_Ne, b_Ne, G_Ne⟩ := h_Ne
  obtain ⟨f_Wi, fd_Wi, g_Wi, k_Wi, b_Wi, G_Wi⟩ := h_Wi
  obtain ⟨f_Ur, fd_Ur, g_Ur, k_Ur, b_Ur, G_Ur⟩ := h_Ur
  obtain ⟨f_Sw, fd_Sw, g_Sw, k_Sw, b_Sw, G_Sw⟩ := h_Sw
  obtain ⟨f_Sw2, fd_Sw2, g_Sw2, k_Sw2, b_Sw2, G_Sw2⟩ := h_Sw2
  obtain ⟨f_Bk, fd_Bk, g_Bk, k_Bk, b_Bk, G_Bk⟩ := h_Bk
  obtain ⟨f_Ti, fd_Ti, g_Ti, k_Ti, b_Ti, G_Ti⟩ := h_Ti
  obtain ⟨f_Rk, fd_Rk, g_Rk, k_Rk, b_Rk, G_Rk⟩ := h_Rk
  obtain ⟨f_TI, fd_TI, m_TI, b_TI, G_TI⟩ := h_TI
  obtain ⟨f_TPl, fd_TPl, m_TPl, b_TPl, G_TPl⟩ := h_TPl
  have M_TI : Mk K C f_TI := ⟨mk, m_TI.at_, m_TI.fn, kc⟩
  have g_Track := T_Track.mgC
  refine F.has sc_tp (fun vs H Q E h => ?_) (fun f A outer s H vs Q E hr h => ?_)
  · obtain ⟨x, rfl, _⟩ := h
    rfl
  · obtain ⟨x, rfl, hx, hxl, hT, q⟩ := h
    refine ⟨_, (pss_cons (ps_expr (pe_call G_Ne (hr.mono (by decide)) (by rfl) g_Ne k_Ne b_Ne .nil pass0 (pa_cons (pv 0) pa_nil))) (pss_cons (ps_if (pt_cmpR op_eq (pv 0) (pe_meth0 (pe_make M_TI G_TI (hr.mono (by decide)) (by rfl) g_Track b_TI .nil pass0 (pa_cons (pv 0) pa_nil)) T_Track.cl m_TPl G_TPl (hr.mono (by decide)) b_TPl .nil pass0) (nomark _)) (pss_one (ps_ret (pe_lst pa_nil))) pss_nil) (pss_cons (ps_asg (pe_call G_Ur (hr.mono (by decide)) (by rfl) g_Ur k_Ur b_Ur .nil pass0 (pa_cons (pv 0) pa_nil)) (pg_tup rfl (pgs_cons (pg_name (i := 1) sc_tp.nd rfl (.inl rfl)) (pgs_cons (pg_name (i := 2) sc_tp.nd rfl (.inl rfl)) (pgs_cons (pg_name (i := 3) sc_tp.nd rfl (.inr rfl)) pgs_nil))))) (pss_cons (ps_if (pt_not (pt_val (pe_callB (cr_any rfl) (by rfl) Nany (by decide +kernel) (pa_cons (pe_lc (own := [("spot", 4)]) (g := gName 4) (tt := tYes) (by rfl) sc_tp.nd (pi_list (pv 2)) (blkOk_by (own := [("spot", 4)]) (N := ["word", "steps", "spots", "end", "spot"]) (sc := defScope s_to_plain) (by decide +kernel)) (fun _ _ _ _ _ => pg_name (i := 4) sc_tp.nd rfl (.inl rfl)) (fun _ _ _ _ _ => pts_nil) (fun _ _ _ _ _ => (pe_m1 PySem.F.slot_str_startswith PySem.F.type_str_startswith mt_startN (pv 4) (pv 3)))) pa_nil)))) (pss_cons (ps_expr (pe_bm PySem.F.plainAttrs_list PySem.F.slot_list_append PySem.F.type_list_append mt_append (pv 1) (pa_cons (pe_tup (pa_cons pe_str (pa_cons (pe_call G_Wi (hr.mono (by decide)) (by rfl) g_Wi k_Wi b_Wi .nil pass0 (pa_cons (pv 2) pa_nil)) (pa_cons (pv 3) pa_nil)))) pa_nil))) (pss_one (ps_expr (pe_bm PySem.F.plainAttrs_list PySem.F.slot_list_append PySem.F.type_list_append mt_append (pv 2) (pa_cons (pv 3) pa_nil))))) pss_nil) (pss_cons (ps_aug (i := 1) sc_tp.nd rfl (.inl rfl) (pe_call G_Sw (hr.mono (by decide)) (by rfl) g_Sw k_Sw b_Sw .nil pass0 (pa_cons (pv 2) (pa_cons (pe_lamV (T := lamT Pt) (nm := fun _ _ => lamQ) (P := Pt) TB rfl (List.mem_singleton.mpr rfl) (by kernel_rfl) (fun p hp _ => by rw [List.mem_singleton.mp hp]) rfl (by decide +kernel)) pa_nil))) ip_ext) (pss_cons (ps_set (i := 2) sc_tp.nd rfl (.inl rfl) (pe_callB cr_sortedS (by rfl) B.sorted (by decide +kernel) (pa_cons (pv 2) pa_nil))) (pss_cons (ps_aug (i := 1) sc_tp.nd rfl (.inl rfl) (pe_call G_Bk (hr.mono (by decide)) (by rfl) g_Bk k_Bk b_Bk .nil pass0 (pa_cons (pv 2) pa_nil)) ip_ext) (pss_cons (ps_set (i := 2) sc_tp.nd rfl (.inl rfl) (pe_call G_Ti (hr.mono (by decide)) (by rfl) g_Ti k_Ti b_Ti .nil pass0 (pa_cons (pv 2) pa_nil))) (pss_one (ps_ret (pe_op op_cat (pv 1) (pe_call G_Sw2 (hr.mono (by decide)) (by rfl) g_Sw2 k_Sw2 b_Sw2 .nil pass0 (pa_cons (pv 2) (pa_cons (pe_glob (v := .ref f_Rk) (by rfl) g_Rk rfl) pa_nil)))))))))))))), ?_⟩
    walk_at "go"
    refine ⟨x, rfl, hx, hxl, fun H1 s1 => ?_⟩
    walk_at "go"
    refine w_track hx hxl (fun tp H2 trk s2 => ?_)
    have ⟨dx1, dd1, ks1, htp, _⟩ := trk
    refine w_kMeth htp (tf_no _ _ (by decide +kernel) (by decide +kernel)) ?_
    walk_at "go"
    refine ⟨tp, spotP x, shortT x, 61, rfl, trk, by decide, fun L H3 s3 rL mL lL pl => ?_⟩
    have s03 : Same H H3 := (s1.trans s2).trans s3
    walk_at "go"
    have rxl : Rdc (shortT x) := short_rdc hx
    refine w_if2 (fun hp => ?_) (fun hnp => ?_)
    · walk_at "go"
      refine w_newL (by walk_at "sz") (fun p H4 hp4 np4 => ?_)
      have s04 := s03.nw np4
      exact q p H4 [] [] L s04.ext (fun b e => s04.free e) (hT.same s04) (s03.free np4.nn) hp4 .nil (by decide) rL mL (by show Goes x [] _; rw [← hp]; exact Goes.nil) (fun _ => rfl)
    have hx0 : x ≠ Str.ofString "" := fun z => hnp (by rw [z] at mL ⊢; exact (plain_nil rL mL).symm)
    walk_at "go"
    refine ⟨x, rfl, hx, hxl, fun t st sp H4 us ss S s4 nst nsp ssp ht4 hst4 hsp4 hss hul hSl hS hS0 go => ?_⟩
    have esl : (shortT x).length ≤ 60 := by
      have := shortL_le (tl x)
      unfold shortT
      rw [mkS_len]
      rw [len_tl] at hxl
      omega
    generalize he : shortT x = e at *
    have s04 := s03.trans s4
    have nst0 := s03.free nst
    have nsp0 := s03.free nsp
    walk_at "gs"
    -- the end's own spot
    refine w_seqJ (fun σ' H' => ∃ (y4 : Option V) (us' : List V) (ss' : List Sp3) (S' : List Str), σ' = [some (.str x), some (.ref st), some (.ref sp), some (.str e), y4] ∧ Same H H' ∧ H' st = some (.lst us') ∧ H' sp = some (.lst (S'.map V.str)) ∧ StsAt H' us' ss' ∧ us'.length ≤ 201 ∧ S'.length ≤ 61 ∧ (∀ s ∈ S', WdN s ∧ Rdc s) ∧ Goes x ss' (mkS (rowL S' ++ tl e)) ∧ ∃ s ∈ S', tl e <+: tl s) (fun N hN => ?_) ?_
    · walk_at "go"
      refine w_lcL (xs := S.map V.str) (fun r i H5 => Same H4 H5 ∧ H4 r = none ∧ H5 r = some (.lst (((S.take i).map fun s => prs e s).map V.bl))) (fun r H5 hr nr => ⟨nr.same, nr.nn, hr⟩) (fun r i H5 _ h => h.1.at hsp4) ?_ ?_
      · rintro r i v H5 hv ⟨s5, nr, hr5⟩
        obtain ⟨u, hu, rfl⟩ : ∃ u, S[i]? = some u ∧ V.str u = v := by
          rw [List.getElem?_map, Option.map_eq_some_iff] at hv
          exact hv
        have hil : i < S.length := (List.getElem?_eq_some_iff.mp hu).1
        walk_at "go"
        rw [starts_prs]
        refine w_kIt hr5 (lineLt_of (by rw [List.length_map, List.length_map, List.length_take]; omega)) (fun H6 h6 o6 => ⟨s5.off o6 nr, nr, ?_⟩)
        rw [h6, tk_snoc hu, List.map_append, List.map_append]
        rfl
      · rintro r H5 ⟨s5, nr, hr5⟩
        rw [List.length_map, List.take_length] at hr5
        walk_at "go"
        refine w_any hr5 ?_
        have ea : ((S.map fun s => prs e s).any id) = S.any fun s => prs e s := by rw [List.any_map]; rfl
        rw [ea]
        walk_at "go"
        refine w_ifB (fun h => ?_) (fun h => ?_)
        · rw [Bool.not_eq_true', List.any_eq_false] at h
          have he0 : e ≠ Str.ofString "" := fun z => by
            cases hSS : S with
            | nil =>
              have := (hS0 hSS).2
              rw [z] at this
              exact hx0 this.symm
            | cons s S' =>
              have := h s (by rw [hSS]; exact List.mem_cons_self)
              refine this (prs_iff.mpr ?_)
              rw [z, tl_empty]
              exact List.nil_prefix
          have hwe : WdN e := ⟨rxl.1, by have := pos_of (s := e) he0; rw [len_tl]; exact this, esl⟩
          walk_at "go"
          refine ⟨sp, S, rfl, s5.at hsp4, by omega, fun s hs => by have := (hS s hs).1.2.2; omega, fun H6 s6 => ?_⟩
          walk_at "go"
          refine w_newT (by walk_at "sz") (fun t7 H7 ht7 nt7 => ?_)
          have s47 : Same H4 H7 := (s5.trans s6).nw nt7
          have hst7 := s47.at hst4
          have hsp7 := s47.at hsp4
          walk_at "go"
          refine w_append hst7 (lineLt_of (by omega)) (fun H8 hst8 o8 => ?_)
          have t7s : t7 ≠ st := fun z => by rw [z, hst7] at ht7; cases ht7
          have hsp8 := o8.at ssp.symm hsp7
          walk_at "go"
          refine w_append hsp8 (lineLt_of (by rw [List.length_map]; omega)) (fun H9 hsp9 o9 => ?_)
          have hss8 : StsAt H8 (us ++ [.ref t7]) (ss ++ [.there ((rowL S).length : Int) e]) := paired_snoc ⟨t7, rfl, o8.at t7s ht7⟩ ((hss.same s47).off hst7 o8)
          walk_at "go"
          refine hN _ _ ⟨_, _, _, S ++ [e], rfl, ((s04.trans s47).off o8 nst0).off o9 nsp0, o9.at ssp hst8, by rw [hsp9, List.map_append]; rfl, hss8.off hsp8 o9, by rw [List.length_append]; show us.length + 1 ≤ _; omega, by rw [List.length_append]; show S.length + 1 ≤ _; omega, fun s hs => ?_, ?_, e, by simp, List.prefix_refl _⟩
          · rcases List.mem_append.mp hs with z | z
            · exact hS s z
            · rw [List.mem_singleton.mp z]; exact ⟨hwe, rxl⟩
          · refine go.app (goes_one (s := .there _ e) (mkS (rowL S)) (Str.ofString "") hwe (by show _ = ((mkS (rowL S)).length : Int); rw [mkS_len]; rfl) ?_ ?_ ?_)
            · refine ext_tl ?_
              rw [tl_append, tl_append, tl_mkS, tl_mkS, tl_empty, List.append_nil]
              rfl
            · refine ext_tl ?_
              rw [tl_append, tl_append, tl_mkS, tl_mkS, tl_empty, List.append_nil, row_snoc]
              show _ = rowL S ++ tl (rnd e ++ e)
              rw [tl_append, tl_rnd]
              simp [List.append_assoc]
            · have := st_len (n := 60) (fun s hs => (hS s hs).1.2.2) hSl (tl e)
              rw [← len_tl] at this
              omega
        · rw [Bool.not_eq_false', List.any_eq_true] at h
          obtain ⟨s, hs, hp⟩ := h
          walk_at "go"
          refine hN _ _ ⟨_, us, ss, S, rfl, s04.trans s5, s5.at hst4, s5.at hsp4, hss.same s5, by omega, by omega, hS, go, s, hs, prs_iff.mp hp⟩
    · rintro σ' H5 ⟨y4, us1, ss1, S1, rfl, s05, hst5, hsp5, hss5, hul5, hSl5, hS5, go5, s0, hs0, hpe⟩
      have hle : (tl e).length ≤ 100 := by rw [← len_tl]; omega
      walk_at "go"
      refine ⟨hT.same s05, fun lf c' H6 x6 nn6 T6 nlf hlf6 hc6 => ?_⟩
      have hst6 := x6.at hst5
      have hsp6 := x6.at hsp5
      have hss6 := hss5.ext x6
      walk_at "go"
      refine ⟨sp, lf, _, S1, rfl, hsp6, hlf6, hc6, ?_, fun s hs => (hS5 s hs).1, by omega, fun p7 H7 us7 ss7 S7 np7 s7 hp7 hss7 pm7 pw7 hul7 go7 => ?_⟩
      · refine lok_of (N := ["spot"]) (nscope_by (by kernel_rfl)) (fun pm ctv us hl => by match us, hl with | [_], _ => rfl) (fun vs H Q E ⟨x, e, _⟩ => by rw [e]; rfl) (fun A outer s H vs Q E hr h => ?_)
        obtain ⟨y, rfl, h⟩ := h
        exact ⟨_, pv 0, _, rfl, h⟩
      have x07 : ExtN H H7 := (s05.ext.trans x6).same s7
      have hss67 := hss6.same s7
      refine w_ext (s7.at hst6) hp7 (line_of (by omega)) (fun H8 hst8 o8 => ?_)
      have hst7 := s7.at hst6
      have nst7 : ∀ b, H7 b = none → H b = none := fun b z => s05.free (nn6 b (s7.free z))
      have p7s : p7 ≠ st := fun z => by rw [z, hst6] at np7; cases np7
      have x8 : ExtN H H8 := fun b o z n => by
        have := x07 b o z n
        exact o8.at (fun k => by rw [k] at z; rw [nst0] at z; cases z) this
      have T8 : TabsN (lamT Pt) H8 := (T6.same s7).off hst7 o8
      have hss8 : StsAt H8 (us1 ++ us7) (ss1 ++ ss7) := paired_app2 (hss67.off hst7 o8) (hss7.off hst7 o8)
      have hsp8 := o8.at ssp.symm (s7.at hsp6)
      walk_at "go"
      refine ⟨sp, S1, rfl, SqL.of hsp8, by omega, fun ys p9 pm9 so9 np9 => ?_⟩
      have eys : ys = S7 := sorted_one (pm9.trans pm7.symm) (sorted_pw so9) pw7
      subst eys
      have s9 : Same H8 (upd H8 p9 (.lst (ys.map V.str))) := same_upd np9
      have hp9 : upd H8 p9 (.lst (ys.map V.str)) p9 = some (.lst (ys.map V.str)) := upd_same
      generalize upd H8 p9 (.lst (ys.map V.str)) = H9 at s9 hp9
      have hys : ∀ s ∈ ys, WdN s ∧ Rdc s := fun s hs => hS5 s (pm7.mem_iff.mp hs)
      have lys : ys.length ≤ 61 := by rw [pm7.length_eq]; omega
      walk_at "go"
      refine ⟨p9, ys, rfl, hp9, fun s hs => (hys s hs).1, by omega, fun p10 H10 us10 ss10 np10 s10 hp10 hss10 hul10 go10 => ?_⟩
      have hst10 := s10.at (s9.at hst8)
      refine w_ext hst10 hp10 (line_of (by rw [List.length_append]; omega)) (fun H11 hst11 o11 => ?_)
      have s810 := s9.trans s10
      have p9s : p9 ≠ st := fun z => by rw [z, hst8] at np9; cases np9
      have hss11 : StsAt H11 (us1 ++ us7 ++ us10) (ss1 ++ ss7 ++ ss10) := paired_app2 ((hss8.same s810).off hst10 o11) (hss10.off hst10 o11)
      have hp911 := o11.at p9s (s10.at hp9)
      have T11 : TabsN (lamT Pt) H11 := (T8.same s810).off hst10 o11
      walk_at "go"
      refine ⟨p9, ys, rfl, hp911, by omega, fun p12 H12 np12 s12 hp12 => ?_⟩
      walk_at "go"
      have hti : ∀ s ∈ tipD ys, WdN s ∧ Rdc s := fun s hs => hys s (tipD_sub _ s hs)
      refine ⟨p12, f_Rk, tipD ys, rfl, hp12, raw0 G_Rk b_Rk, k_Rk, fun s hs => (hti s hs).1, by have := (tipD_sublist ys).length_le; omega, fun p13 H13 us13 ss13 S13 np13 s13 hp13 hss13 pm13 pw13 hul13 go13 => ?_⟩
      have s1113 := s12.trans s13
      walk_at "go"
      refine w_cat (s1113.at hst11) hp13 (line_of (by rw [List.length_append, List.length_append]; omega)) (fun p14 H14 hp14 np14 => ?_)
      have hnt := tipD_nodup pw7
      have hn13 : S13.Nodup := pm13.nodup_iff.mpr hnt
      have h13 : ∀ s ∈ S13, WdN s ∧ Rdc s := fun s hs => hti s (pm13.mem_iff.mp hs)
      have goF : Goes x (ss1 ++ ss7 ++ ss10 ++ ss13) (mkS (rowL S13 ++ tl e)) := ((go5.app (go7 _ hle)).app (go10 _ hle)).app (go13 _ hle)
      have hfin := plain_end hx rL mL goF (rises_sort pw13 hn13 fun s hs => (h13 s hs).1.1) (fun s hs => ⟨(h13 s hs).2, fun z => by have := (h13 s hs).1.2.1; rw [z] at this; revert this; decide⟩) rxl (fun a ha b hb h => tipD_two pw7 a (pm13.mem_iff.mp ha) b (pm13.mem_iff.mp hb) h) (by
        obtain ⟨u, hu, hpu⟩ := tipD_all ys s0 (pm7.mem_iff.mpr hs0)
        exact ⟨u, pm13.mem_iff.mpr hu, hpe.trans hpu⟩)
      rw [he] at hfin
      have x14 : ExtN H H14 := fun b o z n => by
        have h8 := x8 b o z n
        have h10 := s810 b o h8
        have h11 := o11.at (fun k => by rw [k] at z; rw [nst0] at z; cases z) h10
        exact np14.at (s1113 b o h11)
      have nn14 : ∀ b, H14 b = none → H b = none := fun b z => by
        have z11 := s1113.free (np14.same.free z)
        have hbs : b ≠ st := fun k => by rw [k, hst11] at z11; cases z11
        rw [o11 b hbs] at z11
        have z8 := s810.free z11
        rw [o8 b hbs] at z8
        exact nst7 b z8
      refine q p14 H14 _ _ L x14 nn14 ((T11.same s1113).same np14.same) ?_ hp14 (paired_app2 ((hss11.same s1113).same np14.same) (hss13.same np14.same)) (by rw [List.length_append, List.length_append, List.length_append]; omega) rL mL (by rw [← hfin]; exact goF) (fun z => absurd z.symm hnp)
      have z13 := np14.nn
      have z11 := s1113.free z13
      have hbs : p14 ≠ st := fun k => by rw [k, hst11] at z11; cases z11
      rw [o11 _ hbs] at z11
      have z8 := s810.free z11
      rw [o8 _ hbs] at z8
      exact nst7 _ z8
end
end Sf
namespace Sf
open PySem PySem.Spec PyProof.Rows L2 TL
def Sp3.Pre : Sp3 → Prop
  | .there _ x => WdN x
  | .back _ x => WdN x
  | .swap _ x y => WdN x ∧ Wd y ∧ y.length ≤ 60
def Sp3.full : Sp3 → Prop
  | .there _ _ => True
  | .back _ _ => True
  | .swap _ _ y => y ≠ Str.ofString ""
theorem nil_len {y : Str} (h : y ≠ Str.ofString "") : 1 ≤ y.length := by
  rcases Nat.eq_zero_or_pos y.length with e | e
  · exact absurd (ext_tl (by rw [len_tl] at e; exact List.length_eq_zero_iff.mp e)) h
  · exact e
theorem len_nil {y : Str} (h : 1 ≤ y.length) : y ≠ Str.ofString "" := fun e => by
  rw [e] at h
  revert h
  decide
theorem Sp3.Pre.ok {s : Sp3} (h : s.Pre) (f : s.full) : s.Ok := by
  cases s with
  | there i x => exact h
  | back i x => exact h
  | swap i x y => exact ⟨h.1, h.2.1, nil_len f, h.2.2⟩
section
variable {H : Hp} {Q : VK} {K : PySem.W.Frag}
theorem eqV_nil {x : Str} : eqV (.str x) (.str (Str.ofString "")) = decide (x = Str.ofString "") := by
  show (x == Str.ofString "") = _
  by_cases h : x = Str.ofString ""
  · rw [h]; decide
  · rw [decide_eq_false h]
    exact beq_eq_false_iff_ne.mpr h
theorem w_inNil1 {p : Addr} {x : Str} (h : H p = some (.tup [.str x])) (hx : x ≠ Str.ofString "") (q : Q (.bl false) H) : rIn K false (.str (Str.ofString "")) (.ref p) H Q := by
  refine ⟨p, _, rfl, .inr (SqT.of h), rfl, rfl, ?_⟩
  have e : inV (.str (Str.ofString "")) [.str x] = false := by
    show (eqV (.str x) (.str (Str.ofString "")) || false) = false
    rw [eqV_nil, decide_eq_false hx]
    rfl
  rw [e]
  exact q
theorem w_inNil2 {p : Addr} {x y : Str} (h : H p = some (.tup [.str x, .str y])) (hx : x ≠ Str.ofString "") (q : Q (.bl (decide (y = Str.ofString ""))) H) : rIn K false (.str (Str.ofString "")) (.ref p) H Q := by
  refine ⟨p, _, rfl, .inr (SqT.of h), rfl, rfl, ?_⟩
  have e : inV (.str (Str.ofString "")) [.str x, .str y] = decide (y = Str.ofString "") := by
    show (eqV (.str x) (.str (Str.ofString "")) || (eqV (.str y) (.str (Str.ofString "")) || false)) = _
    rw [eqV_nil, eqV_nil, decide_eq_false hx, Bool.or_false, Bool.false_or]
  rw [e]
  exact q
end
section
variable {P : Program} {w : World} {K : PySem.W.Frag} {mg : Str → Option Value} {base : Heap} {pT : Addr}
def spLst : Sp := fun vs H Q _ => ∃ (t : Addr) (s : Sp3) (z : Str), vs = [.str z, .ref t] ∧ H t = some (.tup s.vs) ∧ s.Pre ∧ 0 ≤ s.at ∧ z.length ≤ 40000 ∧
  ∀ H', Same H H' → ((s.full ∧ cutS z (some s.at) (some (s.at + s.old.length)) = s.old) → Q (.str (s.does z)) H') ∧ (¬ (s.full ∧ cutS z (some s.at) (some (s.at + s.old.length)) = s.old) → Q .non H')
abbrev HasLst (P : Program) (w : World) (K : PySem.W.Frag) (mg : Str → Option Value) (base : Heap) : Prop := Has P w K mg base 3 "_law_stepped" ["_law_word_here", "_law_step"] spLst
theorem sc_lst : FnScope ["_law_word_here", "_law_step", "_law_at", "_law_x", "_law_trip", "_law_elder", "_law_newer", "_law_more"] ["_law_word_here", "_law_step"] (defScope s__law_stepped) := ⟨rfl, rfl, rfl, by decide +kernel, rfl, by decide +kernel, by decide +kernel⟩
theorem has_lst (F : FnAt K mg "_law_stepped" s__law_stepped ["_law_word_here", "_law_step"]) (B : Blt mg) (h_Ba : HasBack P w K mg base) : HasLst P w K mg base := F.has fun F => by
  obtain ⟨f_Ba, fd_Ba, g_Ba, k_Ba, b_Ba, G_Ba⟩ := h_Ba
  refine F.ok sc_lst (fun vs H Q E h => ?_) (fun cdv A outer s H vs Q E hr h => ?_)
  · obtain ⟨t, s, z, rfl, _⟩ := h
    rfl
  · obtain ⟨t, s3, z, rfl, ht, hp, lo, hz, q⟩ := h
    refine ⟨_, (pss_cons (ps_par (i := 2) (j := 3) (by rfl) sc_lst.nd rfl rfl (by decide) rfl rfl (pa_cons (pe_ix ix_tup (pv 1) pe_int (fun _ _ => rfl)) (pa_cons (pe_ix ix_tup (pv 1) pe_int (fun _ _ => rfl)) pa_nil)) (by rfl)) (pss_cons (ps_set (i := 4) sc_lst.nd rfl (.inl rfl) (pe_op op_addS (pv 3) (pe_call G_Ba (hr.mono (by decide)) (by rfl) g_Ba k_Ba b_Ba .nil pass0 (pa_cons (pv 3) pa_nil)))) (pss_cons (ps_par (i := 5) (j := 6) (by rfl) sc_lst.nd rfl rfl (by decide) rfl rfl (pa_cons (pv 3) (pa_cons (pe_op op_addS (pv 4) (pv 3)) pa_nil)) (by rfl)) (pss_cons (ps_if (pt_cmpR op_eq (pe_ix ix_tup (pv 1) pe_int (fun _ _ => rfl)) pe_str (nomark _)) (pss_one (ps_par (i := 5) (j := 6) (by rfl) sc_lst.nd rfl rfl (by decide) rfl rfl (pa_cons (pv 6) (pa_cons (pv 5) pa_nil)) (by rfl))) pss_nil) (pss_cons (ps_if (pt_cmpR op_eq (pe_ix ix_tup (pv 1) pe_int (fun _ _ => rfl)) pe_str (nomark _)) (pss_cons (ps_set (i := 7) sc_lst.nd rfl (.inl rfl) (pe_op op_addS (pe_ix ix_tup (pv 1) pe_int (fun _ _ => rfl)) (pe_call G_Ba (hr.mono (by decide)) (by rfl) g_Ba k_Ba b_Ba .nil pass0 (pa_cons (pe_ix ix_tup (pv 1) pe_int (fun _ _ => rfl)) pa_nil)))) (pss_one (ps_par (i := 5) (j := 6) (by rfl) sc_lst.nd rfl rfl (by decide) rfl rfl (pa_cons (pe_op op_addS (pv 4) (pv 7)) (pa_cons (pe_op op_addS (pv 7) (pv 4)) pa_nil)) (by rfl)))) pss_nil) (pss_cons (ps_if (PW.pt (pw_or (pt_cmpR op_in_seq pe_str (pe_slice sl_tupA (pv 1) (po_some pe_int) po_none) rfl) (pw_or1 (pt_cmpR op_lt (pv 2) pe_int (nomark _))))) (pss_one (ps_ret pe_non)) pss_nil) (pss_cons (ps_if (pt_cmpR op_ne (pe_slice sl_str (pv 0) (po_some (pv 2)) (po_some (pe_op op_add (pv 2) (pe_callB call_lenS (by rfl) B.len PySem.boot_len (pa_cons (pv 5) pa_nil))))) (pv 5) (nomark _)) (pss_one (ps_ret pe_non)) pss_nil) (pss_one (ps_ret (pe_op op_addS (pe_op op_addS (pe_slice sl_str (pv 0) po_none (po_some (pv 2))) (pv 6)) (pe_slice sl_str (pv 0) (po_some (pe_op op_add (pv 2) (pe_callB call_lenS (by rfl) B.len PySem.boot_len (pa_cons (pv 5) pa_nil)))) po_none))))))))))), ?_⟩
    have ln : ∀ {n : Nat}, n ≤ 90000 → n ≤ sizeLine := fun h => line_of (by omega)
    cases s3 with
    | there i x =>
      obtain ⟨hx, h1, hl⟩ := hp
      have ht : H t = some (.tup [.str (Str.ofString "there"), .int i, .str x]) := ht
      have lo : 0 ≤ i := lo
      walk_at "go"
      refine ⟨x, rfl, hx, by omega, fun H1 s1 => ?_⟩
      refine w_addS (ln (by rw [backT_len]; omega)) ?_
      walk_at "go"
      refine w_addS (ln (by rw [len_app, backT_len]; omega)) ?_
      walk_at "go"
      refine w_if2 (fun z => absurd z (by decide)) fun _ => ?_
      walk_at "go"
      refine w_if2 (fun z => absurd z (by decide)) fun _ => ?_
      walk_at "go"
      refine w_slT2 (s1.at ht) (fun u H2 hu nu => ?_)
      refine w_inNil1 hu (len_nil h1) ?_
      walk_at "go"
      refine w_if2 (fun z => absurd z (by omega)) fun _ => ?_
      walk_at "go"
      refine w_lenS (ln (by omega)) ?_
      walk_at "go"
      refine w_slS (ln (by omega)) ?_
      walk_at "go"
      obtain ⟨q1, q2⟩ := q H2 (s1.nw nu)
      refine w_ifN2 (fun ne => ?_) (fun eq => ?_)
      · walk_at "go"
        exact q2 fun h => ne h.2
      · walk_at "go"
        refine w_slS (ln (by omega)) ?_
        walk_at "go"
        refine w_addS (ln (by have := cut_le z none (some i); rw [len_app, len_app, backT_len]; omega)) ?_
        walk_at "go"
        refine w_lenS (ln (by omega)) ?_
        walk_at "go"
        refine w_slS (ln (by omega)) ?_
        refine w_addS (ln (by have := cut_le z none (some i); have := cut_le z (some (i + (x).length)) none; rw [len_app]; rw [len_app, len_app, backT_len]; omega)) ?_
        exact q1 ⟨trivial, eq⟩
    | back i x =>
      obtain ⟨hx, h1, hl⟩ := hp
      have ht : H t = some (.tup [.str (Str.ofString "back"), .int i, .str x]) := ht
      have lo : 0 ≤ i := lo
      walk_at "go"
      refine ⟨x, rfl, hx, by omega, fun H1 s1 => ?_⟩
      refine w_addS (ln (by rw [backT_len]; omega)) ?_
      walk_at "go"
      refine w_addS (ln (by rw [len_app, backT_len]; omega)) ?_
      walk_at "go"
      refine w_if2 (fun _ => ?_) (fun z => absurd rfl z)
      walk_at "go"
      refine w_if2 (fun z => absurd z (by decide)) fun _ => ?_
      walk_at "go"
      refine w_slT2 (s1.at ht) (fun u H2 hu nu => ?_)
      refine w_inNil1 hu (len_nil h1) ?_
      walk_at "go"
      refine w_if2 (fun z => absurd z (by omega)) fun _ => ?_
      walk_at "go"
      refine w_lenS (ln (by rw [len_app, len_app, backT_len]; omega)) ?_
      walk_at "go"
      refine w_slS (ln (by omega)) ?_
      walk_at "go"
      obtain ⟨q1, q2⟩ := q H2 (s1.nw nu)
      refine w_ifN2 (fun ne => ?_) (fun eq => ?_)
      · walk_at "go"
        exact q2 fun h => ne h.2
      · walk_at "go"
        refine w_slS (ln (by omega)) ?_
        walk_at "go"
        refine w_addS (ln (by have := cut_le z none (some i); omega)) ?_
        walk_at "go"
        refine w_lenS (ln (by rw [len_app, len_app, backT_len]; omega)) ?_
        walk_at "go"
        refine w_slS (ln (by omega)) ?_
        refine w_addS (ln (by have := cut_le z none (some i); have := cut_le z (some (i + (x ++ backT x ++ x).length)) none; rw [len_app]; omega)) ?_
        exact q1 ⟨trivial, eq⟩
    | swap i x y =>
      obtain ⟨⟨hx, h1, hl⟩, hy, hl'⟩ := hp
      have ht : H t = some (.tup [.str (Str.ofString "swap"), .int i, .str x, .str y]) := ht
      have lo : 0 ≤ i := lo
      walk_at "go"
      refine ⟨x, rfl, hx, by omega, fun H1 s1 => ?_⟩
      have ht1 := s1.at ht
      refine w_addS (ln (by rw [backT_len]; omega)) ?_
      walk_at "go"
      refine w_addS (ln (by rw [len_app, backT_len]; omega)) ?_
      walk_at "go"
      refine w_if2 (fun z => absurd z (by decide)) fun _ => ?_
      walk_at "go"
      refine w_if2 (fun _ => ?_) (fun z => absurd rfl z)
      walk_at "go"
      refine ⟨y, rfl, hy, by omega, fun H1' s1' => ?_⟩
      refine w_addS (ln (by rw [backT_len]; omega)) ?_
      walk_at "go"
      refine w_addS (ln (by rw [len_app, len_app, backT_len, backT_len]; omega)) ?_
      walk_at "go"
      refine w_addS (ln (by rw [len_app, len_app, backT_len, backT_len]; omega)) ?_
      walk_at "go"
      refine w_slT2 (s1'.at ht1) (fun u H2 hu nu => ?_)
      refine w_inNil2 hu (len_nil h1) ?_
      obtain ⟨q1, q2⟩ := q H2 ((s1.trans s1').nw nu)
      walk_at "go"
      refine w_or2 (fun e => ?_) (fun hne => ?_)
      · walk_at "go"
        exact q2 fun h => h.1 e
      walk_at "go"
      refine w_if2 (fun z => absurd z (by omega)) fun _ => ?_
      walk_at "go"
      refine w_lenS (ln (by rw [len_app, len_app, len_app, backT_len, backT_len]; omega)) ?_
      walk_at "go"
      refine w_slS (ln (by omega)) ?_
      walk_at "go"
      refine w_ifN2 (fun ne => ?_) (fun eq => ?_)
      · walk_at "go"
        exact q2 fun h => ne h.2
      · walk_at "go"
        refine w_slS (ln (by omega)) ?_
        walk_at "go"
        refine w_addS (ln (by have := cut_le z none (some i); rw [len_app, len_app, len_app, backT_len, backT_len]; omega)) ?_
        walk_at "go"
        refine w_lenS (ln (by rw [len_app, len_app, len_app, backT_len, backT_len]; omega)) ?_
        walk_at "go"
        refine w_slS (ln (by omega)) ?_
        refine w_addS (ln (by have := cut_le z none (some i); have := cut_le z (some (i + (x ++ backT x ++ (y ++ backT y)).length)) none; rw [len_app]; rw [len_app, len_app, len_app, backT_len, backT_len]; omega)) ?_
        exact q1 ⟨hne, eq⟩
end
end Sf
namespace Sf
open PySem PySem.Spec PyProof.Rows L2 TL LamX NdefX
theorem eqv_nils {H : Hp} {n : Nat} {p q : Addr} (hp : H p = some (.lst [])) (hq : H q = some (.lst [])) : Eqv H (n + 1) (.ref p) (.ref q) :=
  .inr ⟨p, q, [], [], rfl, rfl, .inl ⟨hp, hq⟩, rfl, by decide, fun i x y hx hy => by simp at hx⟩
theorem Sp3.Ok.pre {s : Sp3} (h : s.Ok) : s.Pre ∧ s.full := by
  cases s with
  | there i x => exact ⟨h, trivial⟩
  | back i x => exact ⟨h, trivial⟩
  | swap i x y => exact ⟨⟨h.1, h.2.1, h.2.2.2⟩, len_nil h.2.2.1⟩
theorem Goes.oks : ∀ {ss : List Sp3} {x y : Str}, Goes x ss y → ∀ s ∈ ss, s.Ok
  | [], _, _, _, s, hs => by cases hs
  | t :: ss, x, y, ⟨h1, _, _, h4⟩, s, hs => by
    rcases List.mem_cons.mp hs with rfl | hs
    · exact h1.ok
    · exact h4.oks s hs
theorem sts_get {H : Hp} : ∀ {us : List V} {ss : List Sp3} {i : Nat} {v : V}, StsAt H us ss → us[i]? = some v → ∃ s, ss[i]? = some s ∧ StAt H v s
  | _, _, _, _, .nil, e => by simp at e
  | _, _, 0, _, .cons r _, e => by simp at e; subst e; exact ⟨_, rfl, r⟩
  | _, _, i + 1, _, .cons _ t, e => sts_get (i := i) t (by simpa using e)
theorem sts_len {H : Hp} {us : List V} {ss : List Sp3} (h : StsAt H us ss) : us.length = ss.length := Paired.length h
theorem at0' {a : V} {l : List V} : atI (a :: l) 0 = some a := at_of (j := 0) rfl rfl
theorem at1' {a b : V} {l : List V} : atI (a :: b :: l) 1 = some b := at_of (j := 1) rfl rfl
section
variable {P : Program} {w : World} {K : PySem.W.Frag} {mg : Str → Option Value} {base : Heap}
/-! ### _law_walk -/
def spLwk : Sp := fun vs H Q _ => ∃ (a : Addr) (x y : Str) (us : List V) (ss : List Sp3), vs = [.str x, .ref a] ∧ H a = some (.lst us) ∧ StsAt H us ss ∧ Goes x ss y ∧ ∀ H', Same H H' → Q (.str y) H'
theorem sc_lwk : FnScope ["_law_word_here", "_law_steps", "_law_step"] ["_law_word_here", "_law_steps"] (defScope s__law_walk) := ⟨rfl, rfl, rfl, by decide +kernel, rfl, by decide +kernel, by decide +kernel⟩
theorem goes_drop {y : Str} : ∀ {ss : List Sp3} {i : Nat} {x : Str} {s : Sp3}, ss[i]? = some s → Goes x (ss.drop i) y → s.Fits x ∧ x.length ≤ 40000 ∧ Goes (s.does x) (ss.drop (i + 1)) y := fun {ss i x s} hs h => by
  obtain ⟨hi, e⟩ := List.getElem?_eq_some_iff.mp hs
  rw [List.drop_eq_getElem_cons hi, e] at h
  exact ⟨h.1, h.2.2.1, h.2.2.2⟩
theorem has_lwk (F : FnAt K mg "_law_walk" s__law_walk ["_law_word_here", "_law_steps"]) (h_Lst : HasLst P w K mg base) : Has P w K mg base 4 "_law_walk" ["_law_word_here", "_law_steps"] spLwk := F.has fun F => by
  obtain ⟨f_Lst, fd_Lst, g_Lst, k_Lst, b_Lst, G_Lst⟩ := h_Lst
  refine F.ok sc_lwk (fun vs H Q E h => ?_) (fun cdv A outer s H vs Q E hr h => ?_)
  · obtain ⟨a, x, y, us, ss, rfl, _⟩ := h
    rfl
  · obtain ⟨a, x, y, us, ss, rfl, ha, hss, go, q⟩ := h
    refine ⟨_, (pss_cons (ps_for PassesOwn.never rfl (pi_list (pv 1)) (pg_name (i := 2) sc_lwk.nd rfl (.inl rfl)) (pss_one (ps_set (i := 0) sc_lwk.nd rfl (.inl rfl) (pe_ifExp (pt_cmpR op_isNn (pv 0) pe_non (nomark _)) pe_non (pe_call G_Lst (hr.mono (by decide)) (by rfl) g_Lst k_Lst b_Lst .nil pass0 (pa_cons (pv 0) (pa_cons (pv 2) pa_nil))))))) (pss_one (ps_ret (pv 0)))), ?_⟩
    walk_at "go"
    refine w_list (xs := us) (fun i σ H1 => ∃ (y2 : Option V) (z : Str), σ = [some (.str z), some (.ref a), y2] ∧ Same H H1 ∧ Goes z (ss.drop i) y) ⟨none, x, rfl, Same.refl _, go⟩ (fun i σ H1 _ ⟨_, _, _, h, _⟩ => h.at ha) ?_ ?_
    · rintro i v σ H1 hv ⟨y2, z, rfl, s1, go⟩
      obtain ⟨s, hs, t, rfl, ht⟩ := sts_get (hss.same s1) hv
      obtain ⟨hf, hz, go'⟩ := goes_drop hs go
      obtain ⟨hp, hfull⟩ := hf.ok.pre
      walk_at "go"
      rw [decide_eq_false (fun z => by cases z)]
      walk_at "go"
      refine ⟨t, s, z, rfl, ht, hp, hf.lo, hz, fun H2 s2 => ⟨fun _ => ?_, fun h => absurd ⟨hfull, hf.eq⟩ h⟩⟩
      walk_at "go"
      exact ⟨_, _, rfl, s1.trans s2, go'⟩
    · rintro σ H1 ⟨y2, z, rfl, s1, go⟩
      rw [sts_len hss, List.drop_length] at go
      rw [show z = y from go]
      walk_at "go"
      exact q H1 s1
/-! ### _law_good_steps -/
def spGs : Sp := fun vs H Q _ => ∃ (a : Addr) (us : List V) (ss : List Sp3), vs = [.ref a] ∧ H a = some (.lst us) ∧ StsAt H us ss ∧ (∀ s ∈ ss, s.Ok) ∧ ∀ H', Same H H' → Q (.bl true) H'
theorem sc_gs : FnScope ["_law_steps", "_law_step", "_law_thing"] ["_law_steps"] (defScope s__law_good_steps) := ⟨rfl, rfl, rfl, by decide +kernel, rfl, by decide +kernel, by decide +kernel⟩
theorem Sp3.shape {s : Sp3} (h : s.Ok) : ∃ (z : Str) (i : Int) (ws : List Str), s.vs = .str z :: .int i :: ws.map V.str ∧ (∀ x ∈ ws, x.length ≤ 60) ∧ ((ws.length = 1 ∧ (z = Str.ofString "there" ∨ z = Str.ofString "back")) ∨ (ws.length = 2 ∧ z = Str.ofString "swap")) := by
  cases s with
  | there i x => exact ⟨_, i, [x], rfl, fun y hy => by rw [List.mem_singleton.mp hy]; exact h.2.2, .inl ⟨rfl, .inl rfl⟩⟩
  | back i x => exact ⟨_, i, [x], rfl, fun y hy => by rw [List.mem_singleton.mp hy]; exact h.2.2, .inl ⟨rfl, .inr rfl⟩⟩
  | swap i x y => exact ⟨_, i, [x, y], rfl, fun u hu => by
      rcases List.mem_cons.mp hu with rfl | hu
      · exact h.1.2.2
      · rw [List.mem_singleton.mp hu]; exact h.2.2.2, .inr ⟨rfl, rfl⟩⟩
theorem has_gs (F : FnAt K mg "_law_good_steps" s__law_good_steps ["_law_steps"]) (B : Blt mg) : Has P w K mg base 1 "_law_good_steps" ["_law_steps"] spGs := F.has fun F => by
  refine F.ok sc_gs (fun vs H Q E h => ?_) (fun cdv A outer s H vs Q E hr h => ?_)
  · obtain ⟨a, us, ss, rfl, _⟩ := h
    rfl
  · obtain ⟨a, us, ss, rfl, ha, hss, hok, q⟩ := h
    refine ⟨_, (pss_cons (ps_if (pt_not (pt_val (pe_callB call_isi (by rfl) B.isinstance (by decide +kernel) (pa_cons (pv 0) (pa_cons (pe_bltn (v := .ty "list") (by rfl) B.list (by decide +kernel) rfl) pa_nil))))) (pss_one (ps_ret pe_bl)) pss_nil) (pss_cons (ps_for PassesOwn.never rfl (pi_list (pv 0)) (pg_name (i := 1) sc_gs.nd rfl (.inl rfl)) (pss_cons (ps_if (PW.pt (pw_or (pt_not (pt_val (pe_callB call_isi (by rfl) B.isinstance (by decide +kernel) (pa_cons (pv 1) (pa_cons (pe_bltn (v := .ty "tuple") (by rfl) B.tuple (by decide +kernel) rfl) pa_nil))))) (pw_or (pt_cmpR op_lt (pe_callB call_lenQ (by rfl) B.len PySem.boot_len (pa_cons (pv 1) pa_nil)) pe_int (nomark _)) (pw_or1 (pt_cmpR op_notIn_seq (pe_ix ix_tup (pv 1) pe_int (fun _ _ => rfl)) (pe_lst (pa_cons pe_str (pa_cons pe_str (pa_cons pe_str pa_nil)))) rfl))))) (pss_one (ps_ret pe_bl)) pss_nil) (pss_cons (ps_if (PW.pt (pw_or (pt_cmpR op_ne (pe_callB call_lenQ (by rfl) B.len PySem.boot_len (pa_cons (pv 1) pa_nil)) (pe_op op_add pe_int (pe_callTy call_int1 (by rfl) B.int (by decide +kernel) (pa_cons (pe_cmpR op_eq (pe_ix ix_tup (pv 1) pe_int (fun _ _ => rfl)) pe_str (nomark _)) pa_nil))) (nomark _)) (pw_or (pt_not (pt_val (pe_callB call_isi (by rfl) B.isinstance (by decide +kernel) (pa_cons (pe_ix ix_tup (pv 1) pe_int (fun _ _ => rfl)) (pa_cons (pe_bltn (v := .ty "int") (by rfl) B.int (by decide +kernel) rfl) pa_nil))))) (pw_or1 (pt_val (pe_callB call_isi (by rfl) B.isinstance (by decide +kernel) (pa_cons (pe_ix ix_tup (pv 1) pe_int (fun _ _ => rfl)) (pa_cons (pe_bltn (v := .ty "bool") (by rfl) B.bool (by decide +kernel) rfl) pa_nil)))))))) (pss_one (ps_ret pe_bl)) pss_nil) (pss_one (ps_if (pt_not (pt_val (pe_callB (cr_all rfl) (by rfl) B.all (by decide +kernel) (pa_cons (pe_lc (own := [("_law_thing", 2)]) (g := gName 2) (tt := tYes) (te := tAndV (tCB (rIsi K) (tCons (tVar 2) (tCons (tC (.ty "str")) tNil))) (tOp (rI0 fun i j => .bl (decide (i ≤ j))) (tCB rLenStr (tCons (tVar 2) tNil)) (tC (.int 60)))) (by rfl) sc_gs.nd (pi_tup (pe_slice sl_tupA (pv 1) (po_some pe_int) po_none)) (blkOk_by (own := [("_law_thing", 2)]) (N := ["_law_steps", "_law_step", "_law_thing"]) (sc := defScope s__law_good_steps) (by decide +kernel)) (fun _ _ _ _ _ => pg_name (i := 2) sc_gs.nd rfl (.inl rfl)) (fun _ _ _ _ _ => pts_nil) (fun _ _ _ _ _ => by exact (pe_and (pe_callB call_isi (by rfl) B.isinstance (by decide +kernel) (pa_cons (pv 2) (pa_cons (pe_bltn (v := .ty "str") (by rfl) B.str (by decide +kernel) rfl) pa_nil))) (pe_one (pe_cmpR op_le (pe_callB call_lenS (by rfl) B.len PySem.boot_len (pa_cons (pv 2) pa_nil)) pe_int (nomark _)))))) pa_nil)))) (pss_one (ps_ret pe_bl)) pss_nil))))) (pss_one (ps_ret pe_bl)))), ?_⟩
    walk_at "go"
    refine ⟨_, _, _, _, true, rfl, .ty "list", .base (.lst ha), kit_ty (by decide +kernel), ?_⟩
    walk_at "go"
    refine w_list (xs := us) (fun i σ H1 => ∃ (y1 y2 : Option V), σ = [some (.ref a), y1, y2] ∧ Same H H1) ⟨none, none, rfl, Same.refl _⟩ (fun i σ H1 _ ⟨_, _, _, h⟩ => h.at ha) ?_ ?_
    · rintro i v σ H1 hv ⟨y1, y2, rfl, s1⟩
      obtain ⟨s, hs, t, rfl, ht⟩ := sts_get (hss.same s1) hv
      obtain ⟨z, j, ws, ev, hws, hsh⟩ := Sp3.shape (hok s (List.mem_of_getElem? hs))
      rw [ev] at ht
      have hl : (V.str z :: V.int j :: ws.map V.str).length = ws.length + 2 := by rw [List.length_cons, List.length_cons, List.length_map]
      have hw12 : 1 ≤ ws.length ∧ ws.length ≤ 2 := by rcases hsh with ⟨h, _⟩ | ⟨h, _⟩ <;> omega
      walk_at "go"
      refine ⟨_, _, _, _, true, rfl, .ty "tuple", .base (.tup ht), kit_ty (by decide +kernel), ?_⟩
      walk_at "go"
      rw [hl, decide_eq_false (by omega)]
      walk_at "go"
      refine w_ixT ht at0' ?_
      walk_at "go"
      refine w_newL (by walk_at "sz") (fun l2 H2 hl2 nl2 => ?_)
      have hin : inV (V.str z) [V.str (Str.ofString "there"), V.str (Str.ofString "back"), V.str (Str.ofString "swap")] = true := by
        rcases hsh with ⟨_, rfl | rfl⟩ | ⟨_, rfl⟩ <;> decide +kernel
      refine ⟨l2, _, rfl, .inl (SqL.of hl2), rfl, rfl, ?_⟩
      show kB _ (.bl (!inV _ _)) _
      rw [hin, Bool.not_true]
      have ht2 := nl2.at ht
      walk_at "go"
      refine w_ixT ht2 at0' ?_
      walk_at "go"
      refine .inr ⟨_, rfl, ?_⟩
      walk_at "go"
      have e3 : (decide (((V.str z :: V.int j :: ws.map V.str).length : Int) = 3 + (if decide (z = Str.ofString "swap") = true then 1 else 0))) = true := by
        rw [hl]
        rcases hsh with ⟨h1, rfl | rfl⟩ | ⟨h1, rfl⟩
        · rw [h1, if_neg (by decide +kernel)]; rfl
        · rw [h1, if_neg (by decide +kernel)]; rfl
        · rw [h1, if_pos (by decide +kernel)]; rfl
      rw [e3, Bool.not_true]
      walk_at "go"
      refine w_ixT ht2 at1' ?_
      walk_at "go"
      refine w_ixT ht2 at1' ?_
      walk_at "go"
      refine w_slT2 ht2 (fun c3 H3 hc3 nc3 => ?_)
      have s3 : Same H H3 := (s1.nw nl2).nw nc3
      walk_at "go"
      refine w_lcT (xs := ws.map V.str) (fun r k H4 => Same H3 H4 ∧ H3 r = none ∧ H4 r = some (.lst ((((ws.take k).map fun _ => true)).map V.bl))) (fun r H4 hr nr => ⟨nr.same, nr.nn, hr⟩) (fun r k H4 _ h => h.1.at hc3) ?_ ?_
      · rintro r k v H4 hv ⟨s4, nr, hr4⟩
        obtain ⟨u, hu, rfl⟩ : ∃ u, ws[k]? = some u ∧ V.str u = v := by
          rw [List.getElem?_map, Option.map_eq_some_iff] at hv
          exact hv
        have hul := hws u (List.mem_of_getElem? hu)
        walk_at "go"
        refine w_lenS (line_of (by omega)) ?_
        walk_at "go"
        rw [decide_eq_true (by omega : (u.length : Int) ≤ 60)]
        refine w_kIt hr4 (lineLt_of (by rw [List.length_map, List.length_map, List.length_take]; omega)) (fun H5 h5 o5 => ⟨s4.off o5 nr, nr, ?_⟩)
        rw [h5, tk_snoc hu, List.map_append, List.map_append]
        rfl
      · rintro r H4 ⟨s4, nr, hr4⟩
        rw [List.length_map, List.take_length] at hr4
        walk_at "go"
        refine w_all hr4 ?_
        rw [show ((ws.map fun _ => true).all id) = true by rw [List.all_map]; exact List.all_eq_true.mpr fun _ _ => rfl]
        walk_at "go"
        exact ⟨_, _, rfl, s3.trans s4⟩
    · rintro σ H1 ⟨y1, y2, rfl, s1⟩
      walk_at "go"
      exact q H1 s1
end
end Sf
namespace Sf
open PySem PySem.Spec PyProof.Rows L2 TL
section
variable {P : Program} {w : World} {K : PySem.W.Frag} {mg : Str → Option Value} {base : Heap}
/-! ### is_upto -/
def upB : V → Int → Bool
  | .int i, m => decide (0 ≤ i) && decide (i ≤ m)
  | _, _ => false
def flat3 : V → Prop
  | .bl _ => True
  | .int _ => True
  | .str _ => True
  | _ => False
def spUp : Sp := fun vs H Q _ => ∃ (v : V) (m : Int), vs = [v, .int m] ∧ flat3 v ∧ Q (.bl (upB v m)) H
abbrev HasUp (P : Program) (w : World) (K : PySem.W.Frag) (mg : Str → Option Value) (base : Heap) : Prop := Has P w K mg base 1 "is_upto" ["thing", "most"] spUp
theorem sc_up : FnScope ["thing", "most"] ["thing", "most"] (defScope s_is_upto) := ⟨rfl, rfl, rfl, by decide +kernel, rfl, by decide +kernel, by decide +kernel⟩
theorem has_up (F : FnAt K mg "is_upto" s_is_upto ["thing", "most"]) (B : Blt mg) : HasUp P w K mg base := F.has fun F => by
  refine F.ok sc_up (fun vs H Q E h => ?_) (fun cdv A outer s H vs Q E hr h => ?_)
  · obtain ⟨v, m, rfl, _⟩ := h
    rfl
  · obtain ⟨v, m, rfl, hv, q⟩ := h
    refine ⟨_, (pss_one (ps_ret (pe_and (pe_callB call_isi (by rfl) B.isinstance (by decide +kernel) (pa_cons (pv 0) (pa_cons (pe_bltn (v := .ty "int") (by rfl) B.int (by decide +kernel) rfl) pa_nil))) (pe_and (pe_not (pe_callB call_isi (by rfl) B.isinstance (by decide +kernel) (pa_cons (pv 0) (pa_cons (pe_bltn (v := .ty "bool") (by rfl) B.bool (by decide +kernel) rfl) pa_nil)))) (pe_one (pe_chain op_le op_le pe_int (pv 0) (pv 1))))))), ?_⟩
    cases v with
    | int i =>
      walk_at "go"
      refine w_chain2 (fun h0 => ?_) (fun h0 => ?_)
      · walk_at "go"
        rw [upB, decide_eq_true h0, Bool.true_and] at q
        exact q
      · walk_at "go"
        rw [upB, decide_eq_false h0, Bool.false_and] at q
        exact q
    | bl b =>
      walk_at "go"
      exact q
    | str x =>
      walk_at "go"
      exact q
    | non => exact hv.elim
    | byt b => exact hv.elim
    | flt b => exact hv.elim
    | ref b => exact hv.elim
    | ty b => exact hv.elim
end
end Sf
namespace Sf
open PySem PySem.Spec PyProof.Rows L2 TL
/-! ### d.get(k), d a written dict -/
def tKGet (K : PySem.W.Frag) (w : World) (ta tb : TE) : TE := fun σ H Q => ta σ H fun x H1 => ∃ p, x = .ref p ∧ (∃ es n, K.lookup p = some ⟨.type "dict", none, .dict es n, #[]⟩) ∧ (p == sysModules) = false ∧
  tb σ H1 fun y H2 => ∃ z, y = .str z ∧ ((∃ v, KDct K w p z v ∧ Q v H2) ∨ (KMiss K w p z ∧ Q .non H2))
section
variable {X : Cx} {o e : Expr} {apos cpos : Pos} {td ty : TE}
theorem pe_kget1 (ho : PE X o td) (he : PE X e ty) (m : M1 X o "get" apos e cpos) : PE X (.Call (.Attribute o "get" apos) [e] [] cpos) (tKGet X.K X.w td ty) := by
  refine ⟨fun pins s σ H Q I h => ?_⟩
  refine wpAny_Call_method m.base m.few m.line PySem.F.plainAttrs_dict PySem.F.slot_dict_get PySem.F.type_dict_get (thn (ho.run pins s σ H _ I h) fun u s1 ⟨x, H1, I1, rx, p, ex, ⟨es, n, hl⟩, low, q1⟩ => ?_)
  subst ex
  obtain rfl : u = Value.ref p := rx
  refine ⟨⟨_, I1.kIn p _ hl, rfl⟩, fun a e => by cases e; exact ⟨_, I1.kIn p _ hl, rfl⟩, ?_⟩
  rw [m.trees]
  refine Calls.callWith_builtin rfl (Calls.evalArgs_plain (Calls.spliced_cons (thn (he.run pins s1 σ H1 _ I1 q1) fun iv s2 ⟨y, H2, I2, ry, z, ez, q2⟩ => Calls.spliced_nil ?_)))
  subst ez
  obtain ⟨t, rfl⟩ := (show ∃ t, iv = Value.str z t from ry)
  rcases q2 with ⟨v, ⟨es, n, u, hl, hk, e, ru⟩, q⟩ | ⟨⟨es, n, hl, hk, _, e⟩, q⟩
  · have hm := PySem.W.mapOf_K (prog := X.prog) (w := X.w) I2.kIn hl hk
    exact call_meetsIn PySem.F.slot_dict_get hm.typeIs PySem.F.entry_dict_get (PySem.F.args_dict_get_2 _ _) (meets_dict_get (strKind X.prog X.w) p (strKind_is X.prog X.w z t) low) ⟨_, hm, ⟨v, H2, I2.tok _, by rw [PySem.W.find_K hl e]; exact ru, q⟩⟩
  · have hm := PySem.W.mapOf_K (prog := X.prog) (w := X.w) I2.kIn hl hk
    exact call_meetsIn PySem.F.slot_dict_get hm.typeIs PySem.F.entry_dict_get (PySem.F.args_dict_get_2 _ _) (meets_dict_get (strKind X.prog X.w) p (strKind_is X.prog X.w z t) low) ⟨_, hm, ⟨.non, H2, I2.tok _, by rw [PySem.W.find_K hl e]; rfl, q⟩⟩
end
/-- the written dict THINGS -/
structure TH (K : PySem.W.Frag) (mg : Str → Option Value) (w : World) (p : Addr) : Prop where
  gT : mg "THINGS" = some (.ref p)
  lk : ∃ es n, K.lookup p = some ⟨.type "dict", none, .dict es n, #[]⟩
  low : (p == sysModules) = false
  th : KDct K w p "there" (.int 3)
  ba : KDct K w p "back" (.int 3)
  sw : KDct K w p "swap" (.int 4)
theorem th_mk {K : PySem.W.Frag} {h : Heap} {mg : Str → Option Value} {w : World} {p : Addr} {es : Array DictEntry} {n : Nat} {t1 t2 t3 : Tok} (X : K.In h) (G : h.Ns mainGlobals mg) (a : PySem.W.nsIn K mainGlobals "THINGS" = some (some (.ref p)))
    (l : K.lookup p = some ⟨.type "dict", none, .dict es n, #[]⟩) (k : PySem.W.KeysLit w.params es.toList) (low : (p == sysModules) = false) (e1 : PySem.W.nsIn K p "there" = some (some (.int 3 t1))) (e2 : PySem.W.nsIn K p "back" = some (some (.int 3 t2))) (e3 : PySem.W.nsIn K p "swap" = some (some (.int 4 t3))) : TH K mg w p :=
  ⟨PySem.W.mg_of X G a, ⟨es, n, l⟩, low, ⟨es, n, _, l, k, e1, _, rfl⟩, ⟨es, n, _, l, k, e2, _, rfl⟩, ⟨es, n, _, l, k, e3, _, rfl⟩⟩
section
variable {σ : L2.St} {H : Hp} {Q : VK} {K : PySem.W.Frag} {w : World} {mg : Str → Option Value}
def kKG (K : PySem.W.Frag) (w : World) (tb : TE) (σ : L2.St) (Q : VK) : VK := fun x H1 => ∃ p, x = .ref p ∧ (∃ es n, K.lookup p = some ⟨.type "dict", none, .dict es n, #[]⟩) ∧ (p == sysModules) = false ∧
  tb σ H1 fun y H2 => ∃ z, y = .str z ∧ ((∃ v, KDct K w p z v ∧ Q v H2) ∨ (KMiss K w p z ∧ Q .non H2))
def kKG2 (K : PySem.W.Frag) (w : World) (p : Addr) (Q : VK) : VK := fun y H2 => ∃ z, y = .str z ∧ ((∃ v, KDct K w p z v ∧ Q v H2) ∨ (KMiss K w p z ∧ Q .non H2))
theorem w_kget {ta tb : TE} (q : ta σ H (kKG K w tb σ Q)) : tKGet K w ta tb σ H Q := q
theorem w_kkg {tb : TE} {p : Addr} (T : TH K mg w p) (q : tb σ H (kKG2 K w p Q)) : kKG K w tb σ Q (.ref p) H := ⟨p, rfl, T.lk, T.low, q⟩
theorem w_kkg2 {p : Addr} {z : Str} {v : V} (h : KDct K w p z v) (q : Q v H) : kKG2 K w p Q (.str z) H := ⟨z, rfl, .inl ⟨v, h, q⟩⟩
/-- t == (), t a tuple with things -/
theorem w_eqT {p q : Addr} {v : V} {vs : List V} {d : PyData} {ds : List PyData} (h : H p = some (.tup (v :: vs))) (hq : H q = some (.tup [])) (hd : DpAll K H (v :: vs) (d :: ds)) (hs : SeqAt.shaped (.tuple (d :: ds)) = true) (k : Q (.bl false) H) : rEqD K (.ref p) (.ref q) H Q :=
  ⟨_, _, .tup (SqT.of h) hd, .tup (SqT.of hq) .nil, hs, by decide +kernel, by
    rw [show PyData.eqv (.tuple (d :: ds)) (.tuple []) = false by simp [PyData.eqv, PyData.eqvAll]]
    exact k⟩
end
section
variable {P : Program} {w : World} {K : PySem.W.Frag} {mg : Str → Option Value} {base : Heap} {pT : Addr}
def spLo : Sp := fun vs H Q _ => ∃ x : Str, vs = [.str x] ∧ Wd x ∧ x.length ≤ 1000 ∧ Q (.str (rnd x)) H
abbrev HasLo (P : Program) (w : World) (K : PySem.W.Frag) (mg : Str → Option Value) (base : Heap) : Prop := Has P w K mg base 2 "loop" ["way"] spLo
theorem sc_lo : FnScope ["way"] ["way"] (defScope s_loop) := ⟨rfl, rfl, rfl, by decide +kernel, rfl, by decide +kernel, by decide +kernel⟩
theorem has_lo (F : FnAt K mg "loop" s_loop ["way"]) (h_Tu : HasTurned P w K mg base) : HasLo P w K mg base := F.has fun F => by
  obtain ⟨f_Tu, fd_Tu, g_Tu, k_Tu, b_Tu, G_Tu⟩ := h_Tu
  refine F.ok sc_lo (fun vs H Q E h => ?_) (fun cdv A outer s H vs Q E hr h => ?_)
  · obtain ⟨x, rfl, _⟩ := h
    rfl
  · obtain ⟨x, rfl, hx, hl, q⟩ := h
    refine ⟨_, (pss_one (ps_ret (pe_op op_addS (pv 0) (pe_call G_Tu (hr.mono (by decide)) (by rfl) g_Tu k_Tu b_Tu .nil pass0 (pa_cons (pv 0) pa_nil))))), ?_⟩
    walk_at "go"
    refine ⟨x, rfl, hx, by omega, ?_⟩
    refine w_addS (line_of (by rw [backT_len]; omega)) ?_
    exact q
def spIy : Sp := fun vs H Q _ => ∃ x : Str, vs = [.str x] ∧ WdN x ∧ ∀ H', Same H H' → Q (.bl true) H'
abbrev HasIy (P : Program) (w : World) (K : PySem.W.Frag) (mg : Str → Option Value) (base : Heap) : Prop := Has P w K mg base 2 "is_way" ["thing"] spIy
theorem sc_iy : FnScope ["thing"] ["thing"] (defScope s_is_way) := ⟨rfl, rfl, rfl, by decide +kernel, rfl, by decide +kernel, by decide +kernel⟩
theorem has_iy (F : FnAt K mg "is_way" s_is_way ["thing"]) (B : Blt mg) (h_Iw : HasIsWord P w K mg base) : HasIy P w K mg base := F.has fun F => by
  obtain ⟨f_Iw, fd_Iw, g_Iw, k_Iw, b_Iw, G_Iw⟩ := h_Iw
  refine F.ok sc_iy (fun vs H Q E h => ?_) (fun cdv A outer s H vs Q E hr h => ?_)
  · obtain ⟨x, rfl, _⟩ := h
    rfl
  · obtain ⟨x, rfl, ⟨hx, h1, h2⟩, q⟩ := h
    refine ⟨_, (pss_one (ps_ret (pe_and (pe_callB call_isi (by rfl) B.isinstance (by decide +kernel) (pa_cons (pv 0) (pa_cons (pe_bltn (v := .ty "str") (by rfl) B.str (by decide +kernel) rfl) pa_nil))) (pe_and (pe_cmpR op_ne (pv 0) pe_str (nomark _)) (pe_one (pe_call G_Iw (hr.mono (by decide)) (by rfl) g_Iw k_Iw b_Iw .nil pass0 (pa_cons (pv 0) pa_nil))))))), ?_⟩
    walk_at "go"
    refine w_andVB (fun _ => ?_) (fun z => ?_)
    · walk_at "go"
      refine ⟨x, rfl, by omega, fun H' s' => ?_⟩
      rw [isW_true hx h2]
      exact q H' s'
    · exfalso
      have : x = Str.ofString "" := of_decide_eq_true (by simpa using z)
      rw [this] at h1
      revert h1
      decide
/-! ### is_step -/
def spIs (K : PySem.W.Frag) (w : World) (p : Addr) : Sp := fun vs H Q _ => ∃ (t : Addr) (n i : Int) (z : Str) (ws : List Str), vs = [.ref t, .int n] ∧ H t = some (.tup (.str z :: .int i :: ws.map V.str)) ∧ KDct K w p z (.int (2 + ws.length)) ∧ PyData.canLay0 (.str z) = true ∧ (∀ x ∈ ws, WdN x) ∧ ws.length ≤ 2 ∧ 0 ≤ i ∧ i ≤ n ∧
  ∀ H', Same H H' → Q (.bl true) H'
abbrev HasIs (P : Program) (w : World) (K : PySem.W.Frag) (mg : Str → Option Value) (base : Heap) (p : Addr) : Prop := Has P w K mg base 3 "is_step" ["step", "most"] (spIs K w p)
theorem sc_is : FnScope ["step", "most", "thing"] ["step", "most"] (defScope s_is_step) := ⟨rfl, rfl, rfl, by decide +kernel, rfl, by decide +kernel, by decide +kernel⟩
theorem has_is (F : FnAt K mg "is_step" s_is_step ["step", "most"]) (B : Blt mg) (T_TH : TH K mg w pT) (h_Up : HasUp P w K mg base) (h_Iy : HasIy P w K mg base) : HasIs P w K mg base pT := F.has fun F => by
  obtain ⟨f_Up, fd_Up, g_Up, k_Up, b_Up, G_Up⟩ := h_Up
  obtain ⟨f_Iy, fd_Iy, g_Iy, k_Iy, b_Iy, G_Iy⟩ := h_Iy
  refine F.ok sc_is (fun vs H Q E h => ?_) (fun cdv A outer s H vs Q E hr h => ?_)
  · obtain ⟨t, n, i, z, ws, rfl, _⟩ := h
    rfl
  · obtain ⟨t, n, i, z, ws, rfl, ht, hk, hz, hw, hwl, i0, i1, q⟩ := h
    refine ⟨_, (pss_cons (ps_if (PW.pt (pw_or (pt_cmpR (op_eqD hr.units) (pv 0) (pe_tup pa_nil) (nomark _)) (pw_or1 (pt_cmpR op_ne (pe_kget1 (pe_glob (v := .ref pT) (by rfl) T_TH.gT rfl) (pe_ix ix_tup (pv 0) pe_int (fun _ _ => rfl)) ⟨rfl, rfl, rfl, rfl⟩) (pe_callB call_lenQ (by rfl) B.len PySem.boot_len (pa_cons (pv 0) pa_nil)) (nomark _))))) (pss_one (ps_ret pe_bl)) pss_nil) (pss_one (ps_ret (pe_and (pe_call G_Up (hr.mono (by decide)) (by rfl) g_Up k_Up b_Up .nil pass0 (pa_cons (pe_ix ix_tup (pv 0) pe_int (fun _ _ => rfl)) (pa_cons (pv 1) pa_nil))) (pe_one (pe_callB (cr_all rfl) (by rfl) B.all (by decide +kernel) (pa_cons (pe_lc (own := [("thing", 2)]) (g := gName 2) (tt := tYes) (by rfl) sc_is.nd (pi_tup (pe_slice sl_tupA (pv 0) (po_some pe_int) po_none)) (blkOk_by (own := [("thing", 2)]) (N := ["step", "most", "thing"]) (sc := defScope s_is_step) (by decide +kernel)) (fun _ _ _ _ _ => pg_name (i := 2) sc_is.nd rfl (.inl rfl)) (fun _ _ _ _ _ => pts_nil) (fun _ _ _ _ _ => (pe_call G_Iy (hr.mono (by decide)) (by rfl) g_Iy k_Iy b_Iy .nil pass0 (pa_cons (pv 2) pa_nil)))) pa_nil))))))), ?_⟩
    walk_at "go"
    refine w_newT (by walk_at "sz") (fun u H1 hu nu => ?_)
    have ht1 := nu.at ht
    refine w_eqT ht1 hu (.cons (.str z) (.cons (.int i) (dp_strs ws))) (step_shaped hz fun x hx => (hw x hx).1) ?_
    walk_at "go"
    refine w_kget ?_
    walk_at "go"
    refine w_kkg T_TH ?_
    walk_at "go"
    refine w_ixT ht1 (at_of (j := 0) rfl rfl) ?_
    refine w_kkg2 hk ?_
    walk_at "go"
    refine w_ifN2 (fun z => absurd (by simp; omega) z) fun _ => ?_
    walk_at "go"
    refine w_ixT ht1 (at_of (j := 1) rfl rfl) ?_
    walk_at "go"
    refine ⟨_, _, rfl, trivial, ?_⟩
    rw [show upB (.int i) n = true by show (decide (0 ≤ i) && decide (i ≤ n)) = true; rw [decide_eq_true i0, decide_eq_true i1]; rfl]
    walk_at "go"
    refine w_slT2 ht1 (fun u2 H2 hu2 nu2 => ?_)
    refine w_kTupI hu2 ?_
    refine w_lcT (xs := ws.map V.str) (fun r j H' => Same H2 H' ∧ H2 r = none ∧ H' r = some (.lst ((ws.take j).map fun _ => V.bl true))) (fun r H' hr nr => ⟨nr.same, nr.nn, hr⟩) (fun r j H' _ h => h.1.at hu2) ?_ ?_
    · rintro r j v H3 hv ⟨s3, nr, hr3⟩
      obtain ⟨x, hx, rfl⟩ : ∃ x, ws[j]? = some x ∧ V.str x = v := by
        rw [List.getElem?_map, Option.map_eq_some_iff] at hv
        exact hv
      walk_at "go"
      refine ⟨x, rfl, hw x (List.mem_of_getElem? hx), fun H4 s4 => ?_⟩
      refine w_kIt (s4.at hr3) ?_ (fun H5 h5 o5 => ⟨(s3.trans s4).off o5 nr, nr, ?_⟩)
      · rw [List.length_map, List.length_take]
        exact lineLt_of (by omega)
      · rw [h5, tk_snoc hx, List.map_append]
        rfl
    · rintro r H3 ⟨s3, nr, hr3⟩
      rw [List.length_map, List.take_length] at hr3
      walk_at "go"
      refine w_all (bs := ws.map fun _ => true) (by rw [List.map_map]; exact hr3) ?_
      rw [show (ws.map fun _ => true).all id = true by simp]
      exact q _ ((nu.same.nw nu2).trans s3)
/-! ### sides -/
def spSds : Sp := fun vs H Q _ => ∃ (t : Addr) (s : Sp3), vs = [.ref t] ∧ H t = some (.tup s.vs) ∧ s.Ok ∧ ∀ (u : Addr) (H' : Hp), Same H H' → H' u = some (.tup [.str s.old, .str s.new]) → Q (.ref u) H'
abbrev HasSds (P : Program) (w : World) (K : PySem.W.Frag) (mg : Str → Option Value) (base : Heap) : Prop := Has P w K mg base 3 "sides" ["step"] spSds
theorem sc_sds : FnScope ["step", "way", "other"] ["step"] (defScope s_sides) := ⟨rfl, rfl, rfl, by decide +kernel, rfl, by decide +kernel, by decide +kernel⟩
theorem has_sds (F : FnAt K mg "sides" s_sides ["step"]) (h_Lo : HasLo P w K mg base) : HasSds P w K mg base := F.has fun F => by
  obtain ⟨f_Lo, fd_Lo, g_Lo, k_Lo, b_Lo, G_Lo⟩ := h_Lo
  refine F.ok sc_sds (fun vs H Q E h => ?_) (fun cdv A outer s H vs Q E hr h => ?_)
  · obtain ⟨t, s, rfl, _⟩ := h
    rfl
  · obtain ⟨t, s3, rfl, ht, hs, q⟩ := h
    refine ⟨_, (pss_cons (ps_set (i := 1) sc_sds.nd rfl (.inl rfl) (pe_ix ix_tup (pv 0) pe_int (fun _ _ => rfl))) (pss_cons (ps_if (pt_cmpR op_eq (pe_ix ix_tup (pv 0) pe_int (fun _ _ => rfl)) pe_str (nomark _)) (pss_cons (ps_set (i := 2) sc_sds.nd rfl (.inl rfl) (pe_ix ix_tup (pv 0) pe_int (fun _ _ => rfl))) (pss_one (ps_ret (pe_tup (pa_cons (pe_op op_addS (pe_call G_Lo (hr.mono (by decide)) (by rfl) g_Lo k_Lo b_Lo .nil pass0 (pa_cons (pv 1) pa_nil)) (pe_call G_Lo (hr.mono (by decide)) (by rfl) g_Lo k_Lo b_Lo .nil pass0 (pa_cons (pv 2) pa_nil))) (pa_cons (pe_op op_addS (pe_call G_Lo (hr.mono (by decide)) (by rfl) g_Lo k_Lo b_Lo .nil pass0 (pa_cons (pv 2) pa_nil)) (pe_call G_Lo (hr.mono (by decide)) (by rfl) g_Lo k_Lo b_Lo .nil pass0 (pa_cons (pv 1) pa_nil))) pa_nil)))))) pss_nil) (pss_cons (ps_if (pt_cmpR op_eq (pe_ix ix_tup (pv 0) pe_int (fun _ _ => rfl)) pe_str (nomark _)) (pss_one (ps_ret (pe_tup (pa_cons (pv 1) (pa_cons (pe_op op_addS (pe_call G_Lo (hr.mono (by decide)) (by rfl) g_Lo k_Lo b_Lo .nil pass0 (pa_cons (pv 1) pa_nil)) (pv 1)) pa_nil))))) pss_nil) (pss_one (ps_ret (pe_tup (pa_cons (pe_op op_addS (pe_call G_Lo (hr.mono (by decide)) (by rfl) g_Lo k_Lo b_Lo .nil pass0 (pa_cons (pv 1) pa_nil)) (pv 1)) (pa_cons (pv 1) pa_nil)))))))), ?_⟩
    have ln : ∀ {n : Nat}, n ≤ 1000 → n ≤ sizeLine := fun h => line_of (by omega)
    cases s3 with
    | there i x =>
      obtain ⟨hx, _, hl⟩ := hs
      have ht : H t = some (.tup [.str (Str.ofString "there"), .int i, .str x]) := ht
      walk_at "go"
      refine w_if2 (fun z => absurd z (by decide)) fun _ => ?_
      walk_at "go"
      refine w_if2 (fun _ => ?_) (fun z => absurd rfl z)
      walk_at "go"
      refine ⟨x, rfl, hx, by omega, ?_⟩
      walk_at "go"
      refine w_addS (ln (by rw [rnd_len]; omega)) ?_
      walk_at "go"
      refine w_newT (by walk_at "sz") (fun u H1 hu nu => ?_)
      exact q u H1 nu.same hu
    | back i x =>
      obtain ⟨hx, _, hl⟩ := hs
      have ht : H t = some (.tup [.str (Str.ofString "back"), .int i, .str x]) := ht
      walk_at "go"
      refine w_if2 (fun z => absurd z (by decide)) fun _ => ?_
      walk_at "go"
      refine w_if2 (fun z => absurd z (by decide)) fun _ => ?_
      walk_at "go"
      refine ⟨x, rfl, hx, by omega, ?_⟩
      walk_at "go"
      refine w_addS (ln (by rw [rnd_len]; omega)) ?_
      walk_at "go"
      refine w_newT (by walk_at "sz") (fun u H1 hu nu => ?_)
      exact q u H1 nu.same hu
    | swap i x y =>
      obtain ⟨⟨hx, _, hl⟩, hy, _, hl'⟩ := hs
      have ht : H t = some (.tup [.str (Str.ofString "swap"), .int i, .str x, .str y]) := ht
      walk_at "go"
      refine w_if2 (fun _ => ?_) (fun z => absurd rfl z)
      walk_at "go"
      refine ⟨x, rfl, hx, by omega, ?_⟩
      walk_at "go"
      refine ⟨y, rfl, hy, by omega, ?_⟩
      refine w_addS (ln (by rw [rnd_len, rnd_len]; omega)) ?_
      walk_at "go"
      refine ⟨y, rfl, hy, by omega, ?_⟩
      walk_at "go"
      refine ⟨x, rfl, hx, by omega, ?_⟩
      refine w_addS (ln (by rw [rnd_len, rnd_len]; omega)) ?_
      walk_at "go"
      refine w_newT (by walk_at "sz") (fun u H1 hu nu => ?_)
      exact q u H1 nu.same hu
/-! ### replaced, stepped -/
def spRp : Sp := fun vs H Q _ => ∃ (t : Addr) (s : Sp3) (z : Str) (k : Int), vs = [.str z, .ref t, .int k] ∧ H t = some (.tup s.vs) ∧ s.Fits z ∧ z.length ≤ 40000 ∧ ∀ H', Same H H' → Q (.str (s.does z)) H'
abbrev HasRp (P : Program) (w : World) (K : PySem.W.Frag) (mg : Str → Option Value) (base : Heap) : Prop := Has P w K mg base 4 "replaced" ["word", "step", "number"] spRp
theorem Sp3.vs_at (s : Sp3) : ∃ (z : Str) (ws : List Str), s.vs = .str z :: .int s.at :: ws.map V.str := by
  cases s with
  | there i x => exact ⟨_, [x], rfl⟩
  | back i x => exact ⟨_, [x], rfl⟩
  | swap i x y => exact ⟨_, [x, y], rfl⟩
theorem sc_rp : FnScope ["word", "step", "number", "old", "new", "at", "behind"] ["word", "step", "number"] (defScope s_replaced) := ⟨rfl, rfl, rfl, by decide +kernel, rfl, by decide +kernel, by decide +kernel⟩
theorem has_rp (F : FnAt K mg "replaced" s_replaced ["word", "step", "number"]) (B : Blt mg) (T_TH : TH K mg w pT) (h_Is : HasIs P w K mg base pT) (h_Sds : HasSds P w K mg base) : HasRp P w K mg base := F.has fun F => by
  obtain ⟨f_Is, fd_Is, g_Is, k_Is, b_Is, G_Is⟩ := h_Is
  obtain ⟨f_Sds, fd_Sds, g_Sds, k_Sds, b_Sds, G_Sds⟩ := h_Sds
  refine F.ok sc_rp (fun vs H Q E h => ?_) (fun cdv A outer s H vs Q E hr h => ?_)
  · obtain ⟨t, s, z, k, rfl, _⟩ := h
    rfl
  · obtain ⟨t, s3, z, k, rfl, ht, ⟨ok, lo, hi, eq⟩, hz, q⟩ := h
    refine ⟨_, (pss_cons (ps_if (pt_not (pt_val (pe_call G_Is (hr.mono (by decide)) (by rfl) g_Is k_Is b_Is .nil pass0 (pa_cons (pv 1) (pa_cons (pe_callB call_lenS (by rfl) B.len PySem.boot_len (pa_cons (pv 0) pa_nil)) pa_nil))))) (pss_one (ps_never)) pss_nil) (pss_cons (ps_asg (pe_call G_Sds (hr.mono (by decide)) (by rfl) g_Sds k_Sds b_Sds .nil pass0 (pa_cons (pv 1) pa_nil)) (pg_tup rfl (pgs_cons (pg_name (i := 3) sc_rp.nd rfl (.inl rfl)) (pgs_cons (pg_name (i := 4) sc_rp.nd rfl (.inl rfl)) pgs_nil)))) (pss_cons (ps_set (i := 5) sc_rp.nd rfl (.inl rfl) (pe_ix ix_tup (pv 1) pe_int (fun _ _ => rfl))) (pss_cons (ps_set (i := 6) sc_rp.nd rfl (.inl rfl) (pe_op op_add (pv 5) (pe_callB call_lenS (by rfl) B.len PySem.boot_len (pa_cons (pv 3) pa_nil)))) (pss_cons (ps_if (pt_cmpR op_ne (pe_slice sl_str (pv 0) (po_some (pv 5)) (po_some (pv 6))) (pv 3) (nomark _)) (pss_one (ps_never)) pss_nil) (pss_one (ps_ret (pe_op op_addS (pe_op op_addS (pe_slice sl_str (pv 0) po_none (po_some (pv 5))) (pv 4)) (pe_slice sl_str (pv 0) (po_some (pv 6)) po_none))))))))), ?_⟩
    have ln : ∀ {n : Nat}, n ≤ 90000 → n ≤ sizeLine := fun h => line_of (by omega)
    obtain ⟨lo1, lo2⟩ := Sp3.len_old ok
    walk_at "go"
    refine w_lenS (ln (by omega)) ?_
    walk_at "go"
    have isSp : ∀ {Q' : VK}, (∀ H', Same H H' → Q' (.bl true) H') → spIs K w pT [.ref t, .int z.length] H Q' E0 := fun {Q'} q' => by
      cases s3 with
      | there i x => exact ⟨t, _, i, _, [x], rfl, ht, T_TH.th, by decide +kernel, fun y hy => by rw [List.mem_singleton.mp hy]; exact ok, (by show 1 ≤ 2; decide), lo, hi, q'⟩
      | back i x => exact ⟨t, _, i, _, [x], rfl, ht, T_TH.ba, by decide +kernel, fun y hy => by rw [List.mem_singleton.mp hy]; exact ok, (by show 1 ≤ 2; decide), lo, hi, q'⟩
      | swap i x y =>
        refine ⟨t, _, i, _, [x, y], rfl, ht, T_TH.sw, by decide +kernel, fun u hu => ?_, (by show 2 ≤ 2; decide), lo, hi, q'⟩
        rcases List.mem_cons.mp hu with rfl | hu
        · exact ok.1
        · rw [List.mem_singleton.mp hu]; exact ok.2
    refine isSp fun H1 s1 => ?_
    walk_at "go"
    refine ⟨t, s3, rfl, s1.at ht, ok, fun u H2 s2 hu => ?_⟩
    obtain ⟨zz, ws, ev⟩ := Sp3.vs_at s3
    have ht2 := s2.at (s1.at ht)
    rw [ev] at ht2
    walk_at "go"
    refine w_ixT ht2 (at_of (j := 1) rfl rfl) ?_
    walk_at "go"
    refine w_lenS (ln (by omega)) ?_
    walk_at "go"
    refine w_slS (ln (by omega)) ?_
    rw [eq]
    walk_at "go"
    refine w_ifN2 (fun z => absurd rfl z) fun _ => ?_
    walk_at "go"
    refine w_slS (ln (by omega)) ?_
    walk_at "go"
    have c1 := cut_le z none (some s3.at)
    have c2 := cut_le z (some (s3.at + s3.old.length)) none
    refine w_addS (ln (by omega)) ?_
    walk_at "go"
    refine w_slS (ln (by omega)) ?_
    refine w_addS (ln (by rw [len_app]; omega)) ?_
    exact q H2 (s1.trans s2)
end
end Sf
namespace Sf
open PySem PySem.Spec PyProof.Rows L2 TL
/-- words of one track -/
structure SameT (x y : Str) : Prop where
  sp : ∀ s, spotP x s ↔ spotP y s
  en : shortT x = shortT y
theorem SameT.refl (x : Str) : SameT x x := ⟨fun _ => Iff.rfl, rfl⟩
theorem SameT.trans {x y z : Str} (a : SameT x y) (b : SameT y z) : SameT x z := ⟨fun s => (a.sp s).trans (b.sp s), a.en.trans b.en⟩
theorem cut3 (z : Str) {a b : Int} (h0 : 0 ≤ a) (h1 : a ≤ b) (h2 : b ≤ z.length) : z = cutS z none (some a) ++ cutS z (some a) (some b) ++ cutS z (some b) none ∧ cutS z none (some b) = cutS z none (some a) ++ cutS z (some a) (some b) := by
  have hz : z.length = (tl z).length := len_tl z
  have ix : ∀ c : Int, 0 ≤ c → c ≤ z.length → HT.sIx z.length 0 (some c) = c.toNat ∧ HT.sIx z.length z.length (some c) = c.toNat := fun c c0 c1 => by
    have e : (if c < 0 then (c + (z.length : Int)).toNat else min c.toNat z.length) = c.toNat := by
      rw [if_neg (by omega)]
      omega
    exact ⟨e, e⟩
  have e0 : HT.sIx z.length 0 none = 0 := rfl
  have en : HT.sIx z.length z.length none = z.length := rfl
  obtain ⟨a1, a2⟩ := ix a h0 (by omega)
  obtain ⟨b1, b2⟩ := ix b (by omega) h2
  have t1 : tl (cutS z none (some a)) = (tl z).take a.toNat := by rw [tl_cut, e0, a2, Nat.sub_zero, List.drop_zero]
  have t2 : tl (cutS z (some a) (some b)) = ((tl z).drop a.toNat).take (b.toNat - a.toNat) := by rw [tl_cut, a1, b2]
  have t3 : tl (cutS z (some b) none) = (tl z).drop b.toNat := by
    rw [tl_cut, b1, en, List.take_of_length_le]
    rw [List.length_drop]
    omega
  have t4 : tl (cutS z none (some b)) = (tl z).take b.toNat := by rw [tl_cut, e0, b2, Nat.sub_zero, List.drop_zero]
  have hab : (tl z).take a.toNat ++ ((tl z).drop a.toNat).take (b.toNat - a.toNat) = (tl z).take b.toNat := by
    rw [← List.take_add]
    congr 1
    omega
  constructor
  · refine ext_tl ?_
    rw [tl_append, tl_append, t1, t2, t3, hab, List.take_append_drop]
  · refine ext_tl ?_
    rw [tl_append, t1, t2, t4, hab]
section
variable {P : Program} {w : World} {K : PySem.W.Frag} {mg : Str → Option Value} {base : Heap} {C C2 : Addr}
/-! ### _law_round_ways -/
def spRw : Sp := fun vs H Q _ => ∃ (b l : Addr) (x : Str) (n : Int), vs = [.ref b, .str x, .int n] ∧ Bag H b l ∧ Wd x ∧ x.length ≤ 60 ∧ 0 ≤ n ∧ n ≤ 1000 ∧
  ∀ (y : Str) (H' : Hp), Wd y → y.length ≤ 60 → SameT y x → Bag H' b l → Fx b H H' → Q (.str y) H'
abbrev HasRw (P : Program) (w : World) (K : PySem.W.Frag) (mg : Str → Option Value) (base : Heap) : Prop := Has P w K mg base 3 "_law_round_ways" ["_law_bag", "_law_word_here", "_law_many"] spRw
theorem sc_rw : FnScope ["_law_bag", "_law_word_here", "_law_many", "_law_turn", "_law_at", "_law_to", "_law_part"] ["_law_bag", "_law_word_here", "_law_many"] (defScope s__law_round_ways) := ⟨rfl, rfl, rfl, by decide +kernel, rfl, by decide +kernel, by decide +kernel⟩
theorem has_rw (F : FnAt K mg "_law_round_ways" s__law_round_ways ["_law_bag", "_law_word_here", "_law_many"]) (B : Blt mg) (h_Pu : HasPull P w K mg base) (h_Ba : HasBack P w K mg base) : HasRw P w K mg base := F.has fun F => by
  obtain ⟨f_Pu, fd_Pu, g_Pu, k_Pu, b_Pu, G_Pu⟩ := h_Pu
  obtain ⟨f_Ba, fd_Ba, g_Ba, k_Ba, b_Ba, G_Ba⟩ := h_Ba
  refine F.ok sc_rw (fun vs H Q E h => ?_) (fun cdv A outer s H vs Q E hr h => ?_)
  · obtain ⟨b, l, x, n, rfl, _⟩ := h
    rfl
  · obtain ⟨b, l, x, n, rfl, hB, hx, hxl, n0, n1, q⟩ := h
    refine ⟨_, (pss_cons (ps_for PassesOwn.never rfl (pi_range1 rfl B.range (pa_cons (pv 2) pa_nil)) (pg_name (i := 3) sc_rw.nd rfl (.inl rfl)) (pss_cons (ps_set (i := 4) sc_rw.nd rfl (.inl rfl) (pe_call G_Pu (hr.mono (by decide)) (by rfl) g_Pu k_Pu b_Pu .nil pass0 (pa_cons (pv 0) (pa_cons (pe_op op_add (pe_callB call_lenS (by rfl) B.len PySem.boot_len (pa_cons (pv 1) pa_nil)) pe_int) pa_nil)))) (pss_cons (ps_set (i := 5) sc_rw.nd rfl (.inl rfl) (pe_op op_add (pv 4) (pe_call G_Pu (hr.mono (by decide)) (by rfl) g_Pu k_Pu b_Pu .nil pass0 (pa_cons (pv 0) (pa_cons (pe_op op_add (pe_callB (call_min2N rfl) (by rfl) B.min (by decide +kernel) (pa_cons pe_int (pa_cons (pe_op op_sub (pe_callB call_lenS (by rfl) B.len PySem.boot_len (pa_cons (pv 1) pa_nil)) (pv 4)) pa_nil))) pe_int) pa_nil))))) (pss_cons (ps_set (i := 6) sc_rw.nd rfl (.inl rfl) (pe_slice sl_str (pv 1) (po_some (pv 4)) (po_some (pv 5)))) (pss_one (ps_if (pt_cmpR op_le (pe_op op_add (pe_callB call_lenS (by rfl) B.len PySem.boot_len (pa_cons (pv 1) pa_nil)) (pe_op op_mul pe_int (pe_callB call_lenS (by rfl) B.len PySem.boot_len (pa_cons (pv 6) pa_nil)))) pe_int (nomark _)) (pss_one (ps_set (i := 1) sc_rw.nd rfl (.inl rfl) (pe_op op_addS (pe_op op_addS (pe_op op_addS (pe_slice sl_str (pv 1) po_none (po_some (pv 5))) (pe_call G_Ba (hr.mono (by decide)) (by rfl) g_Ba k_Ba b_Ba .nil pass0 (pa_cons (pv 6) pa_nil))) (pv 6)) (pe_slice sl_str (pv 1) (po_some (pv 5)) po_none)))) pss_nil)))))) (pss_one (ps_ret (pv 1)))), ?_⟩
    walk_at "go"
    refine w_kRng1 (by omega) (by omega) ?_
    refine w_range (fun i σ H2 => ∃ (y3 y4 y5 y6 : Option V) (y : Str), σ = [some (.ref b), some (.str y), some (.int n), y3, y4, y5, y6] ∧ Wd y ∧ y.length ≤ 60 ∧ SameT y x ∧ Bag H2 b l ∧ Fx b H H2) ⟨none, none, none, none, x, rfl, hx, hxl, .refl x, hB, .refl⟩ ?_ ?_
    · rintro i σ H2 hi ⟨y3, y4, y5, y6, y, rfl, hy, hyl, hT, B2, f2⟩
      have ln : ∀ {k : Nat}, k ≤ 200 → k ≤ sizeLine := fun h => line_of (by omega)
      walk_at "go"
      refine w_lenS (ln (by omega)) ?_
      walk_at "go"
      refine ⟨b, l, _, rfl, B2, by omega, by omega, fun a H3 a0 a1 B3 f3 => ?_⟩
      walk_at "go"
      refine w_lenS (ln (by omega)) ?_
      walk_at "go"
      refine ⟨b, l, _, rfl, B3, by split <;> omega, by split <;> omega, fun c H4 c0 c1 B4 f4 => ?_⟩
      have c2 : c ≤ y.length - a := by
        split at c1 <;> omega
      walk_at "go"
      refine w_slS (ln (by omega)) ?_
      obtain ⟨e1, e2⟩ := cut3 y a0 (show a ≤ a + c by omega) (by omega)
      have hv : Wd (cutS y (some a) (some (a + c))) := hy.cut
      have hu : Wd (cutS y none (some a)) := hy.cut
      have hr' : Wd (cutS y (some (a + c)) none) := hy.cut
      have lv : (cutS y (some a) (some (a + c))).length ≤ 60 := by
        have := congrArg Str.length e1
        rw [len_app, len_app] at this
        omega
      have lt : (cutS y none (some (a + c))).length + (cutS y (some (a + c)) none).length ≤ 60 := by
        have := congrArg Str.length e1
        rw [← e2, len_app] at this
        omega
      walk_at "go"
      refine w_lenS (ln (by omega)) ?_
      walk_at "go"
      refine w_lenS (ln (by omega)) ?_
      walk_at "go"
      refine w_i (.inr ⟨by omega, by omega⟩) ?_
      walk_at "go"
      refine w_if2 (fun hle => ?_) (fun _ => ?_)
      · walk_at "go"
        refine w_slS (ln (by omega)) ?_
        walk_at "go"
        refine ⟨_, rfl, hv, by omega, fun H5 s5 => ?_⟩
        have lb := backT_len (cutS y (some a) (some (a + c)))
        refine w_addS (ln (by omega)) ?_
        walk_at "go"
        refine w_addS (ln (by rw [len_app]; omega)) ?_
        walk_at "go"
        refine w_slS (ln (by omega)) ?_
        refine w_addS (ln (by rw [len_app, len_app]; omega)) ?_
        walk_at "go"
        refine ⟨_, _, _, _, _, rfl, ?_, ?_, ?_, B4.same s5, ((f2.trans f3).trans f4).same s5⟩
        · exact ((hy.cut.app (backT_wd hv)).app hv).app hr'
        · have := congrArg Str.length e1
          rw [← e2, len_app] at this
          rw [len_app, len_app, len_app]
          omega
        · refine SameT.trans ?_ hT
          have key : cutS y none (some (a + c)) ++ backT (cutS y (some a) (some (a + c))) ++ cutS y (some a) (some (a + c)) ++ cutS y (some (a + c)) none = cutS y none (some a) ++ (cutS y (some a) (some (a + c)) ++ backT (cutS y (some a) (some (a + c))) ++ cutS y (some a) (some (a + c))) ++ cutS y (some (a + c)) none := by
            rw [e2]
            refine ext_tl ?_
            simp only [tl_append, List.append_assoc]
          rw [key]
          have h1 := spot_put hu hv hr'
          have h2 := short_put hu hv hr'
          rw [← e1] at h1 h2
          exact ⟨h1, h2⟩
      · walk_at "go"
        exact ⟨_, _, _, _, y, rfl, hy, hyl, hT, B4, (f2.trans f3).trans f4⟩
    · rintro σ H2 ⟨y3, y4, y5, y6, y, rfl, hy, hyl, hT, B2, f2⟩
      walk_at "go"
      exact q y H2 hy hyl hT B2 f2
/-! ### the law -/
end
end Sf
namespace Sf
open PySem PySem.Spec PyProof.Rows L2 TL
section
variable {P : Program} {w : World} {K : PySem.W.Frag} {mg : Str → Option Value} {base : Heap}
/-! ### _law_pick, of a list of things -/
def spLpk : Sp := fun vs H Q _ => ∃ (b l p : Addr) (us : List V), vs = [.ref b, .ref p] ∧ Bag H b l ∧ H p = some (.lst us) ∧ p ≠ b ∧ 1 ≤ us.length ∧ us.length ≤ 10000 ∧
  ∀ (v : V) (H' : Hp), v ∈ us → Bag H' b l → Fx b H H' → Q v H'
abbrev HasLpk (P : Program) (w : World) (K : PySem.W.Frag) (mg : Str → Option Value) (base : Heap) : Prop := Has P w K mg base 2 "_law_pick" ["_law_bag", "_law_row"] spLpk
theorem sc_lpk : FnScope ["_law_bag", "_law_row"] ["_law_bag", "_law_row"] (defScope s__law_pick) := ⟨rfl, rfl, rfl, by decide +kernel, rfl, by decide +kernel, by decide +kernel⟩
theorem has_lpk (F : FnAt K mg "_law_pick" s__law_pick ["_law_bag", "_law_row"]) (B : Blt mg) (h_Pu : HasPull P w K mg base) : HasLpk P w K mg base := F.has fun F => by
  obtain ⟨f_Pu, fd_Pu, g_Pu, k_Pu, b_Pu, G_Pu⟩ := h_Pu
  refine F.ok sc_lpk (fun vs H Q E h => ?_) (fun cdv A outer s H vs Q E hr h => ?_)
  · obtain ⟨b, l, p, us, rfl, _⟩ := h
    rfl
  · obtain ⟨b, l, p, us, rfl, hB, hp, npb, l1, l2, q⟩ := h
    refine ⟨_, (pss_one (ps_ret (pe_ix ix_list (pv 1) (pe_call G_Pu (hr.mono (by decide)) (by rfl) g_Pu k_Pu b_Pu .nil pass0 (pa_cons (pv 0) (pa_cons (pe_callB call_lenQ (by rfl) B.len PySem.boot_len (pa_cons (pv 1) pa_nil)) pa_nil))) (fun _ _ => rfl)))), ?_⟩
    walk_at "go"
    refine ⟨b, l, _, rfl, hB, by omega, by omega, fun d H1 d0 d1 B1 f1 => ?_⟩
    have hd : d.toNat < us.length := by omega
    refine w_ixL (f1.at npb hp) (at_of (j := d.toNat) (by omega) (List.getElem?_eq_getElem hd)) ?_
    exact q _ H1 (List.getElem_mem hd) B1 f1
end
end Sf
namespace Sf
open PySem PySem.Spec PyProof.Rows L2 TL
theorem eqv_strD : ∀ l m : List Str, PyData.eqvAll (l.map .str) (m.map .str) = decide (l = m)
  | [], [] => by simp [PyData.eqvAll]
  | [], _ :: _ => by simp [PyData.eqvAll]
  | _ :: _, [] => by simp [PyData.eqvAll]
  | x :: l, y :: m => by
    rw [List.map_cons, List.map_cons, PyData.eqvAll, eqv_strD l m]
    by_cases h : x = y
    · subst h
      simp [PyData.eqv]
    · have hb : (x == y) = false := beq_eq_false_iff_ne.mpr h
      simp [PyData.eqv, hb, h]
theorem strs_shaped {l : List Str} (h : ∀ x ∈ l, Wd x) : SeqAt.shaped (.list (l.map .str)) = true := shaped_list (fun x hx => strOk_wd (h x hx)) fun x _ => by rw [PyData.depth]; omega
theorem w_neStrs {K : PySem.W.Frag} {H : Hp} {Q : VK} {p q : Addr} {l m : List Str} (h1 : H p = some (.lst (l.map V.str))) (h2 : H q = some (.lst (m.map V.str))) (w1 : ∀ x ∈ l, Wd x) (w2 : ∀ x ∈ m, Wd x) (k : Q (.bl (!decide (l = m))) H) : rNeD K (.ref p) (.ref q) H Q :=
  ⟨_, _, .lst (SqL.of h1) (dp_strs l), .lst (SqL.of h2) (dp_strs m), strs_shaped w1, strs_shaped w2, by
    rw [show PyData.eqv (.list (l.map .str)) (.list (m.map .str)) = PyData.eqvAll (l.map .str) (m.map .str) from by simp [PyData.eqv], eqv_strD]
    exact k⟩
end Sf
namespace Sf
open PySem PySem.Spec PyProof.Rows L2 TL LamX NdefX
/-! ### steps taken back -/
theorem Goes.len0 : ∀ {ss : List Sp3} {x y : Str}, Goes x ss y → y.length ≤ 40000 → x.length ≤ 40000
  | [], x, y, h, hy => by rw [show x = y from h]; exact hy
  | _ :: _, _, _, ⟨_, _, h, _⟩, _ => h
theorem does_len {s : Sp3} {z : Str} (h : s.Fits z) (hb : s.at + s.old.length ≤ z.length) : s.undo.at + s.undo.old.length ≤ ((s.does z).length : Int) := by
  have h0 := h.lo
  have eo : s.undo.old = s.new := by cases s <;> rfl
  have ea : s.undo.at = s.at := by cases s <;> rfl
  have lu : ((cutS z none (some s.at)).length : Int) = s.at := by
    rw [len_tl, tl_cut, List.length_take, List.length_drop, sIx_lo h.lo (by omega), show HT.sIx z.length 0 none = 0 from rfl]
    have := len_tl z
    omega
  rw [ea, eo]
  unfold Sp3.does
  rw [len_app, len_app]
  omega
theorem Goes.rev : ∀ {ss : List Sp3} {x y : Str}, Goes x ss y → y.length ≤ 40000 → Goes y (ss.reverse.map Sp3.undo) x
  | [], x, y, h, _ => (show x = y from h).symm
  | s :: ss, x, y, ⟨h1, h2, h3, h4⟩, hy => by
    rw [List.reverse_cons, List.map_append]
    refine (h4.rev hy).app ?_
    obtain ⟨u1, u2⟩ := h1.undone h2
    exact ⟨u1, does_len h1 h2, h4.len0 hy, u2⟩
theorem plain_len {L : List Str} {x : Str} (hx : x.length ≤ 60) (hL : Rises L) (hm : ∀ s, s ∈ L ↔ spotP x s) : (plainT L (shortT x)).length ≤ 40000 := by
  have hsub : ∀ s ∈ L, s ∈ (List.range (x.length + 1)).map fun j => mkS (shortL ((tl x).take j)) := fun s hs => by
    obtain ⟨i, hi, e⟩ := (hm s).mp hs
    rw [len_tl] 
    exact List.mem_map.mpr ⟨i, List.mem_range.mpr (by omega), e.symm⟩
  have hl := nodup_le (rises_nodup hL) hsub
  rw [List.length_map, List.length_range] at hl
  have hs : ∀ s ∈ L, s.length ≤ 60 := fun s hs => by
    obtain ⟨i, hi, e⟩ := (hm s).mp hs
    rw [e, mkS_len]
    have := shortL_le ((tl x).take i)
    rw [List.length_take, ← len_tl] at this
    omega
  have he : (tl (shortT x)).length ≤ 60 := by
    have := shortL_le (tl x)
    unfold shortT
    rw [tl_mkS]
    rw [← len_tl] at this
    omega
  have ht : (tips L).length ≤ 61 := by
    unfold tips
    exact Nat.le_trans (List.length_filter_le _ L) (by omega)
  have := st_len (n := 61) (S := tips L) (fun s h => hs s (List.mem_filter.mp h).1) ht (tl (shortT x))
  unfold plainT
  omega
theorem w_lcRev {K : PySem.W.Frag} {σ : L2.St} {H : Hp} {Q : VK} {a : Addr} {xs : List V} {g : TG} {tt : TT} {te : TE} {vs : List Nat} (Pv : Addr → Nat → Hp → Prop) (h0 : ∀ p H1, H1 p = some (.lst []) → Nw p H H1 → Pv p 0 H1)
    (hl : ∀ p i H, i ≤ xs.length → Pv p i H → H a = some (.lst xs)) (hs : ∀ p i x H, i < xs.length → xs[xs.length - 1 - i]? = some x → Pv p i H → g x (wipe σ vs) H (kEach tt te vs σ p (Pv p (i + 1)))) (hd : ∀ p H, Pv p xs.length H → Q (.ref p) H) : kLc g tt te vs σ Q (Itv K a xs.length) H := by
  refine w_lcG (n := xs.length) Pv h0 (fun p i H hi h => ⟨hi, xs, _, SqL.of (hl p i H (Nat.le_of_lt hi) h), List.getElem?_eq_getElem (show xs.length - 1 - i < xs.length by omega)⟩) (fun p H h => Nat.le_refl _) ?_ hd
  rintro p i x H H' hi h ⟨rfl, hx⟩
  exact hs p i x H' hi (hx xs (SqL.of (hl p i H' (Nat.le_of_lt hi) h))) h
def kRevA (K : PySem.W.Frag) (R : It → Hp → Prop) : List V → Hp → Prop := fun vs H1 => ∃ (a : Addr) (xs : List V), vs = [.ref a] ∧ SqL K H1 a xs ∧ R (Itv K a xs.length) H1
theorem w_irev {K : PySem.W.Frag} {σ : L2.St} {H : Hp} {ta : TA} {R : It → Hp → Prop} (q : ta σ H (kRevA K R)) : iRev K ta σ H R := q
theorem w_kRev {K : PySem.W.Frag} {H : Hp} {R : It → Hp → Prop} {a : Addr} {xs : List V} (h : H a = some (.lst xs)) (q : R (Itv K a xs.length) H) : kRevA K R [.ref a] H := ⟨a, xs, rfl, SqL.of h, q⟩
theorem sts_rev {ss : List Sp3} {i n : Nat} {s : Sp3} (hn : n = ss.length) (hi : i < n) (h : ss[n - 1 - i]? = some s) : (ss.reverse.map Sp3.undo)[i]? = some s.undo := by
  rw [List.getElem?_map, List.getElem?_reverse (by omega), ← hn, h]
  rfl
section
variable {P : Program} {w : World} {K : PySem.W.Frag} {mg : Str → Option Value} {base : Heap} {C Pt : Addr}
/-! ### walked -/
def spWkT : Sp := fun vs H Q _ => ∃ (a : Addr) (x y : Str) (us : List V) (ss : List Sp3), vs = [.str x, .ref a] ∧ H a = some (.lst us) ∧ Wd x ∧ x.length ≤ 60 ∧ StsAt H us ss ∧ Goes x ss y ∧ ∀ H', Same H H' → Q (.str y) H'
theorem sc_wk : FnScope ["word", "steps", "here", "number", "step"] ["word", "steps"] (defScope s_walked) := ⟨rfl, rfl, rfl, by decide +kernel, rfl, by decide +kernel, by decide +kernel⟩
theorem has_wk (F : FnAt K mg "walked" s_walked ["word", "steps"]) (Be : mg "enumerate" = none) (h_Ne : HasNeed P w K mg base) (h_Rp : HasRp P w K mg base) : Has P w K mg base 5 "walked" ["word", "steps"] spWkT := F.has fun F => by
  obtain ⟨f_Ne, fd_Ne, g_Ne, k_Ne, b_Ne, G_Ne⟩ := h_Ne
  obtain ⟨f_Rp, fd_Rp, g_Rp, k_Rp, b_Rp, G_Rp⟩ := h_Rp
  refine F.ok sc_wk (fun vs H Q E h => ?_) (fun cdv A outer s H vs Q E hr h => ?_)
  · obtain ⟨a, x, y, us, ss, rfl, _⟩ := h
    rfl
  · obtain ⟨a, x, y, us, ss, rfl, ha, hx, hl, hss, go, q⟩ := h
    refine ⟨_, (pss_cons (ps_expr (pe_call G_Ne (hr.mono (by decide)) (by rfl) g_Ne k_Ne b_Ne .nil pass0 (pa_cons (pv 0) pa_nil))) (pss_cons (ps_set (i := 2) sc_wk.nd rfl (.inl rfl) (pv 0)) (pss_cons (ps_for PassesOwn.never rfl (pi_enum (by rfl) Be (pa_cons (pv 1) pa_nil)) (pg_tup rfl (pgs_cons (pg_name (i := 3) sc_wk.nd rfl (.inl rfl)) (pgs_cons (pg_name (i := 4) sc_wk.nd rfl (.inl rfl)) pgs_nil))) (pss_one (ps_set (i := 2) sc_wk.nd rfl (.inl rfl) (pe_call G_Rp (hr.mono (by decide)) (by rfl) g_Rp k_Rp b_Rp .nil pass0 (pa_cons (pv 2) (pa_cons (pv 4) (pa_cons (pv 3) pa_nil))))))) (pss_one (ps_ret (pv 2)))))), ?_⟩
    walk_at "go"
    refine ⟨x, rfl, hx, hl, fun H1 s1 => ?_⟩
    walk_at "go"
    refine w_enum (xs := us) (fun i σ H' => ∃ (y2 y3 : Option V) (z : Str), σ = [some (.str x), some (.ref a), some (.str z), y2, y3] ∧ Goes z (ss.drop i) y ∧ Same H H') ⟨none, none, x, rfl, go, s1⟩ (fun i σ H' _ ⟨_, _, _, _, _, h⟩ => h.at ha) ?_ ?_
    · rintro i v t σ H2 H3 hv ⟨y2, y3, z, rfl, go, s2⟩ ht nt
      have s3 : Same H H3 := s2.nw nt
      obtain ⟨s0, hs0, t0, rfl, ht0⟩ := sts_get (hss.same s3) hv
      obtain ⟨hf, hz, go'⟩ := goes_drop hs0 go
      walk_at "go"
      refine ⟨t0, s0, z, _, rfl, ht0, hf, hz, fun H4 s4 => ?_⟩
      walk_at "go"
      exact ⟨_, _, _, rfl, go', s3.trans s4⟩
    · rintro σ H2 ⟨y2, y3, z, rfl, go, s2⟩
      rw [sts_len hss, List.drop_length] at go
      rw [show z = y from go]
      walk_at "go"
      exact q H2 s2
/-! ### against -/
def spAg : Sp := fun vs H Q _ => ∃ (t : Addr) (s : Sp3), vs = [.ref t] ∧ H t = some (.tup s.vs) ∧ ∀ (u : Addr) (H' : Hp), H u = none → Same H H' → H' u = some (.tup s.undo.vs) → Q (.ref u) H'
theorem sc_ag : FnScope ["step"] ["step"] (defScope s_against) := ⟨rfl, rfl, rfl, by decide +kernel, rfl, by decide +kernel, by decide +kernel⟩
theorem has_ag (F : FnAt K mg "against" s_against ["step"]) : Has P w K mg base 1 "against" ["step"] spAg := F.has fun F => by
  refine F.ok sc_ag (fun vs H Q E h => ?_) (fun cdv A outer s H vs Q E hr h => ?_)
  · obtain ⟨t, s, rfl, _⟩ := h
    rfl
  · obtain ⟨t, s3, rfl, ht, q⟩ := h
    refine ⟨_, (pss_cons (ps_if (pt_cmpR op_eq (pe_ix ix_tup (pv 0) pe_int (fun _ _ => rfl)) pe_str (nomark _)) (pss_one (ps_ret (pe_tup (pa_cons pe_str (pa_cons (pe_ix ix_tup (pv 0) pe_int (fun _ _ => rfl)) (pa_cons (pe_ix ix_tup (pv 0) pe_int (fun _ _ => rfl)) (pa_cons (pe_ix ix_tup (pv 0) pe_int (fun _ _ => rfl)) pa_nil))))))) pss_nil) (pss_one (ps_ret (pe_tup (pa_cons (pe_ifExp (pt_cmpR op_eq (pe_ix ix_tup (pv 0) pe_int (fun _ _ => rfl)) pe_str (nomark _)) pe_str pe_str) (pa_cons (pe_ix ix_tup (pv 0) pe_int (fun _ _ => rfl)) (pa_cons (pe_ix ix_tup (pv 0) pe_int (fun _ _ => rfl)) pa_nil))))))), ?_⟩
    cases s3 with
    | there i x =>
      have ht : H t = some (.tup [.str (Str.ofString "there"), .int i, .str x]) := ht
      walk_at "go"
      refine w_if2 (fun z => absurd z (by decide)) fun _ => ?_
      walk_at "go"
      refine w_ifE2 (fun _ => ?_) (fun z => absurd rfl z)
      walk_at "go"
      refine w_newT (by walk_at "sz") (fun u H1 hu nu => ?_)
      exact q u H1 nu.nn nu.same hu
    | back i x =>
      have ht : H t = some (.tup [.str (Str.ofString "back"), .int i, .str x]) := ht
      walk_at "go"
      refine w_if2 (fun z => absurd z (by decide)) fun _ => ?_
      walk_at "go"
      refine w_ifE2 (fun z => absurd z (by decide)) (fun _ => ?_)
      walk_at "go"
      refine w_newT (by walk_at "sz") (fun u H1 hu nu => ?_)
      exact q u H1 nu.nn nu.same hu
    | swap i x y =>
      have ht : H t = some (.tup [.str (Str.ofString "swap"), .int i, .str x, .str y]) := ht
      walk_at "go"
      refine w_if2 (fun _ => ?_) (fun z => absurd rfl z)
      walk_at "go"
      refine w_newT (by walk_at "sz") (fun u H1 hu nu => ?_)
      exact q u H1 nu.nn nu.same hu
/-! ### between -/
def spBt (Pt : Addr) : Sp := fun vs H Q _ => ∃ x y : Str, vs = [.str x, .str y] ∧ Wd x ∧ x.length ≤ 60 ∧ Wd y ∧ y.length ≤ 60 ∧ TabsN (lamT Pt) H ∧
  (SameT x y → ∀ (p : Addr) (H' : Hp) (us : List V) (ss : List Sp3), ExtN H H' → (∀ b, H' b = none → H b = none) → TabsN (lamT Pt) H' → H p = none → H' p = some (.lst us) → StsAt H' us ss → (∀ s ∈ ss, s.Ok) → Goes x ss y → (x = Str.ofString "" → y = Str.ofString "" → ss = []) → Q (.ref p) H') ∧
  (¬ SameT x y → ∀ H', Same H H' → Q .non H')
theorem sc_bt : FnScope ["one", "other", "step"] ["one", "other"] (defScope s_between) := ⟨rfl, rfl, rfl, by decide +kernel, rfl, by decide +kernel, by decide +kernel⟩
theorem has_bt (F : FnAt K mg "between" s_between ["one", "other"]) (B : Blt mg) (Nreversed : mg "reversed" = none) (T_Track : TC K mg C) (mk : PySem.W.makesIn K C = true) (kc : PySem.W.keepIn K (.ref C) = true)
    (h_Ne : HasNeed P w K mg base) (h_TI : HasM P w K mg base C 3 "__init__" ["self", "word"] (spInit C)) (h_TEq : HasM P w K mg base C 1 "__eq__" ["self", "other"] (spEqF K C)) (h_Tp : Has P w K mg base 7 "to_plain" ["word"] (spTp Pt)) (h_Ag : Has P w K mg base 1 "against" ["step"] spAg) :
    Has P w K mg base 8 "between" ["one", "other"] (spBt Pt) := F.has fun F => by
  obtain ⟨f_Ne, fd_Ne, g_Ne, k_Ne, b_Ne, G_Ne⟩ := h_Ne
  obtain ⟨f_Tp, fd_Tp, g_Tp, k_Tp, b_Tp, G_Tp⟩ := h_Tp
  obtain ⟨f_Ag, fd_Ag, g_Ag, k_Ag, b_Ag, G_Ag⟩ := h_Ag
  obtain ⟨f_TI, fd_TI, m_TI, b_TI, G_TI⟩ := h_TI
  obtain ⟨f_TEq, fd_TEq, m_TEq, b_TEq, G_TEq⟩ := h_TEq
  have M_TI : Mk K C f_TI := ⟨mk, m_TI.at_, m_TI.fn, kc⟩
  have g_Track := T_Track.mgC
  refine F.ok sc_bt (fun vs H Q E h => ?_) (fun cdv A outer s H vs Q E hr h => ?_)
  · obtain ⟨x, y, rfl, _⟩ := h
    rfl
  · obtain ⟨x, y, rfl, hx, hxl, hy, hyl, hT, qs, qn⟩ := h
    refine ⟨_, (pss_cons (ps_expr (pe_call G_Ne (hr.mono (by decide)) (by rfl) g_Ne k_Ne b_Ne .nil pass0 (pa_cons (pv 0) pa_nil))) (pss_cons (ps_expr (pe_call G_Ne (hr.mono (by decide)) (by rfl) g_Ne k_Ne b_Ne .nil pass0 (pa_cons (pv 1) pa_nil))) (pss_cons (ps_if (pt_cmpR (op_neN G_TEq m_TEq.at_ m_TEq.fn b_TEq T_Track.ne T_Track.hm (hr.mono (by decide))) (pe_make M_TI G_TI (hr.mono (by decide)) (by rfl) g_Track b_TI .nil pass0 (pa_cons (pv 0) pa_nil)) (pe_make M_TI G_TI (hr.mono (by decide)) (by rfl) g_Track b_TI .nil pass0 (pa_cons (pv 1) pa_nil)) (nomark _)) (pss_one (ps_ret pe_non)) pss_nil) (pss_one (ps_ret (pe_op op_cat (pe_call G_Tp (hr.mono (by decide)) (by rfl) g_Tp k_Tp b_Tp .nil pass0 (pa_cons (pv 0) pa_nil)) (pe_lc (own := [("step", 2)]) (g := gName 2) (tt := tYes) (by rfl) sc_bt.nd (pi_reversed (by rfl) Nreversed (pa_cons (pe_call G_Tp (hr.mono (by decide)) (by rfl) g_Tp k_Tp b_Tp .nil pass0 (pa_cons (pv 1) pa_nil)) pa_nil)) (blkOk_by (own := [("step", 2)]) (N := ["one", "other", "step"]) (sc := defScope s_between) (by decide +kernel)) (fun _ _ _ _ _ => pg_name (i := 2) sc_bt.nd rfl (.inl rfl)) (fun _ _ _ _ _ => pts_nil) (fun _ _ _ _ _ => (pe_call G_Ag (hr.mono (by decide)) (by rfl) g_Ag k_Ag b_Ag .nil pass0 (pa_cons (pv 2) pa_nil)))))))))), ?_⟩
    walk_at "go"
    refine ⟨x, rfl, hx, hxl, fun H1 s1 => ?_⟩
    walk_at "go"
    refine ⟨y, rfl, hy, hyl, fun H2 s2 => ?_⟩
    walk_at "go"
    refine w_track hx hxl (fun tp H3 trk s3 => ?_)
    walk_at "go"
    refine w_track hy hyl (fun tq H4 trk2 s4 => ?_)
    have s04 : Same H H4 := ((s1.trans s2).trans s3).trans s4
    have t34 := trk.same s4
    have ⟨dx1, dd1, ks1, htp, _⟩ := t34
    have ⟨dx2, dd2, ks2, htq, _⟩ := trk2
    refine w_neOwn htp htq ⟨tp, _, _, _, _, rfl, t34, .inl ⟨tq, _, _, _, rfl, trk2, fun t ht => ?_⟩⟩
    refine w_kNeOwn ?_
    by_cases h : SameT x y
    · have e : t = true := ht.mpr ⟨h.sp, h.en⟩
      subst e
      rw [Bool.not_true]
      walk_at "go"
      refine ⟨x, rfl, hx, hxl, hT.same s04, fun p H5 us ss L x5 nn5 T5 np5 hp5 hss hul rL mL go ge => ?_⟩
      refine w_lc (w_irev ?_)
      walk_at "go"
      refine ⟨y, rfl, hy, hyl, T5, fun p' H6 us' ss' L' x6 nn6 T6 np6 hp6 hss' hul' rL' mL' go' ge' => ?_⟩
      have eL : L' = L := rises_ext rL' rL fun s => (mL' s).trans ((h.sp s).symm.trans (mL s).symm)
      subst eL
      rw [← h.en] at go' ge'
      have npp : p' ≠ p := fun z => by rw [z, hp5] at np6; cases np6
      walk_at "go"
      refine w_kRev hp6 ?_
      have hul2 : us'.length = ss'.length := sts_len hss'
      have gR := go'.rev (plain_len hxl rL mL)
      have x05 : ExtN H H5 := s04.ext.trans x5
      have x06 : ExtN H H6 := x05.trans x6
      have n06 : ∀ b, H6 b = none → H b = none := fun b z => s04.free (nn5 b (nn6 b z))
      have hok' := go'.oks
      refine w_lcRev (a := p') (xs := us') (fun r i H7 => Same H6 H7 ∧ H6 r = none ∧ ∃ ts, H7 r = some (.lst ts) ∧ StsAt H7 ts ((ss'.reverse.map Sp3.undo).take i)) (fun r H7 hr nr => ⟨nr.same, nr.nn, [], hr, .nil⟩) (fun r i H7 _ h => h.1.at hp6) ?_ ?_
      · rintro r i v H7 hi hv ⟨s7, nr, ts, hr7, hts⟩
        obtain ⟨s0, hs0, t0, rfl, ht0⟩ := sts_get hss' hv
        have hsr := sts_rev hul2 hi hs0
        walk_at "go"
        refine ⟨t0, s0, rfl, s7.at ht0, fun u H8 nu s8 hu => ?_⟩
        have hr8 := s8.at hr7
        have lts : ts.length ≤ i := by
          have := sts_len hts
          rw [List.length_take] at this
          omega
        refine w_kIt hr8 (lineLt_of (by omega)) (fun H9 h9 o9 => ⟨(s7.trans s8).off o9 nr, nr, _, h9, ?_⟩)
        have hur : u ≠ r := fun z => by rw [z, hr7] at nu; cases nu
        rw [tk_snoc hsr]
        exact paired_snoc ⟨u, rfl, o9.at hur hu⟩ ((hts.same s8).off hr8 o9)
      · rintro r H7 ⟨s7, nr, ts, hr7, hts⟩
        rw [List.take_of_length_le (by rw [List.length_map, List.length_reverse]; omega)] at hts
        have lts : ts.length = ss'.length := by rw [sts_len hts, List.length_map, List.length_reverse]
        have hp7 := s7.at (x6.at hp5)
        refine w_cat hp7 hr7 (Nat.le_trans (show us.length + ts.length ≤ 200000 by omega) (by decide)) (fun p8 H8 hp8 np8 => ?_)
        have s68 := s7.trans np8.same
        have n08 : ∀ b, H8 b = none → H b = none := fun b z => n06 b (s68.free z)
        refine qs h p8 H8 _ _ (x06.same s68) n08 (T6.same s68) (n06 p8 (s7.free np8.nn)) hp8 (paired_app2 ((hss.ext x6).same s68) (hts.same np8.same)) (fun s hs => ?_) (go.app gR) (fun ex ey => ?_)
        · rcases List.mem_append.mp hs with z | z
          · exact go.oks s z
          · exact gR.oks s z
        · subst ex ey
          have e0 := plain_nil rL mL
          rw [ge e0, ge' e0]
          rfl
    · have e : t = false := by
        cases t with
        | false => rfl
        | true => exact absurd ⟨(ht.mp rfl).1, (ht.mp rfl).2⟩ h
      subst e
      walk_at "go"
      exact qn h H4 s04
end
end Sf
namespace Sf
open PySem PySem.Spec PyProof.Rows L2 TL LamX NdefX
theorem wd_ab {z : Str} (h : tl z = [97, 98] ∨ tl z = [97] ∨ tl z = []) : Wd z := fun c hc => by
  rcases h with h | h | h <;> rw [h] at hc <;> simp only [List.mem_cons, List.not_mem_nil, or_false] at hc
  · rcases hc with rfl | rfl <;> decide
  · subst hc; decide
section
variable {P : Program} {w : World} {K : PySem.W.Frag} {mg : Str → Option Value} {base : Heap} {Pt : Addr}
/-! ### _law_led_there -/
def spLdt (Pt : Addr) : Sp := fun vs H Q _ => ∃ x y : Str, vs = [.str x, .str y] ∧ Wd x ∧ x.length ≤ 60 ∧ Wd y ∧ y.length ≤ 60 ∧ TabsN (lamT Pt) H ∧ ∀ H', ExtN H H' → TabsN (lamT Pt) H' → Q (.bl true) H'
theorem sc_ldt : FnScope ["_law_one", "_law_other", "_law_found"] ["_law_one", "_law_other"] (defScope s__law_led_there) := ⟨rfl, rfl, rfl, by decide +kernel, rfl, by decide +kernel, by decide +kernel⟩
theorem has_ldt (F : FnAt K mg "_law_led_there" s__law_led_there ["_law_one", "_law_other"]) (h_Bt : Has P w K mg base 8 "between" ["one", "other"] (spBt Pt)) (h_Lsp : HasLSpots P w K mg base) (h_Sh : HasShort P w K mg base)
    (h_Gs : Has P w K mg base 1 "_law_good_steps" ["_law_steps"] spGs) (h_Lwk : Has P w K mg base 4 "_law_walk" ["_law_word_here", "_law_steps"] spLwk) (h_Wk : Has P w K mg base 5 "walked" ["word", "steps"] spWkT) : Has P w K mg base 9 "_law_led_there" ["_law_one", "_law_other"] (spLdt Pt) := F.has fun F => by
  obtain ⟨f_Bt, fd_Bt, g_Bt, k_Bt, b_Bt, G_Bt⟩ := h_Bt
  obtain ⟨f_Lsp, fd_Lsp, g_Lsp, k_Lsp, b_Lsp, G_Lsp⟩ := h_Lsp
  obtain ⟨f_Sh, fd_Sh, g_Sh, k_Sh, b_Sh, G_Sh⟩ := h_Sh
  obtain ⟨f_Gs, fd_Gs, g_Gs, k_Gs, b_Gs, G_Gs⟩ := h_Gs
  obtain ⟨f_Lwk, fd_Lwk, g_Lwk, k_Lwk, b_Lwk, G_Lwk⟩ := h_Lwk
  obtain ⟨f_Wk, fd_Wk, g_Wk, k_Wk, b_Wk, G_Wk⟩ := h_Wk
  refine F.ok sc_ldt (fun vs H Q E h => ?_) (fun cdv A outer s H vs Q E hr h => ?_)
  · obtain ⟨x, y, rfl, _⟩ := h
    rfl
  · obtain ⟨x, y, rfl, hx, hxl, hy, hyl, hT, q⟩ := h
    refine ⟨_, (pss_cons (ps_set (i := 2) sc_ldt.nd rfl (.inl rfl) (pe_call G_Bt (hr.mono (by decide)) (by rfl) g_Bt k_Bt b_Bt .nil pass0 (pa_cons (pv 0) (pa_cons (pv 1) pa_nil)))) (pss_cons (ps_if (PW.pt (pw_or (pt_cmpR (op_neD hr.units) (pe_call G_Lsp (hr.mono (by decide)) (by rfl) g_Lsp k_Lsp b_Lsp .nil pass0 (pa_cons (pv 0) pa_nil)) (pe_call G_Lsp (hr.mono (by decide)) (by rfl) g_Lsp k_Lsp b_Lsp .nil pass0 (pa_cons (pv 1) pa_nil)) (nomark _)) (pw_or1 (pt_cmpR op_ne (pe_call G_Sh (hr.mono (by decide)) (by rfl) g_Sh k_Sh b_Sh .nil pass0 (pa_cons (pv 0) pa_nil)) (pe_call G_Sh (hr.mono (by decide)) (by rfl) g_Sh k_Sh b_Sh .nil pass0 (pa_cons (pv 1) pa_nil)) (nomark _))))) (pss_one (ps_ret (pe_cmpR op_isNn (pv 2) pe_non (nomark _)))) pss_nil) (pss_one (ps_ret (pe_and (pe_call G_Gs (hr.mono (by decide)) (by rfl) g_Gs k_Gs b_Gs .nil pass0 (pa_cons (pv 2) pa_nil)) (pe_and (pe_cmpR op_eq (pe_call G_Lwk (hr.mono (by decide)) (by rfl) g_Lwk k_Lwk b_Lwk .nil pass0 (pa_cons (pv 0) (pa_cons (pv 2) pa_nil))) (pv 1) (nomark _)) (pe_one (pe_cmpR op_eq (pe_call G_Wk (hr.mono (by decide)) (by rfl) g_Wk k_Wk b_Wk .nil pass0 (pa_cons (pv 0) (pa_cons (pv 2) pa_nil))) (pv 1) (nomark _))))))))), ?_⟩
    have wln : ∀ {x : Str}, Wd x → ∀ s, spotP x s → Wd s := fun {x} hx s ⟨i, _, e⟩ => by
      rw [e]; exact (short_rdc fun c hc => hx c (List.mem_of_mem_take hc)).1
    walk_at "go"
    refine ⟨x, y, rfl, hx, hxl, hy, hyl, hT, fun h p H1 us ss x1 nn1 T1 np1 hp1 hss hok go _ => ?_, fun h H1 s1 => ?_⟩
    · walk_at "go"
      refine ⟨x, rfl, hx, by omega, fun p2 H2 L2 np2 s2 hp2 rL2 mL2 lL2 => ?_⟩
      walk_at "go"
      refine ⟨y, rfl, hy, by omega, fun p3 H3 L3 np3 s3 hp3 rL3 mL3 lL3 => ?_⟩
      have eL : L2 = L3 := rises_ext rL2 rL3 fun s => (mL2 s).trans ((h.sp s).trans (mL3 s).symm)
      refine w_neStrs (s3.at hp2) hp3 (fun s hs => wln hx s ((mL2 s).mp hs)) (fun s hs => wln hy s ((mL3 s).mp hs)) ?_
      rw [decide_eq_true eL, Bool.not_true]
      walk_at "go"
      refine ⟨x, rfl, hx, by omega, fun H4 s4 => ?_⟩
      walk_at "go"
      refine ⟨y, rfl, hy, by omega, fun H5 s5 => ?_⟩
      walk_at "go"
      refine w_ifN2 (fun z => absurd h.en z) fun _ => ?_
      have s15 := ((s2.trans s3).trans s4).trans s5
      have hp5 := s15.at hp1
      walk_at "go"
      refine ⟨p, us, ss, rfl, hp5, hss.same s15, hok, fun H6 s6 => ?_⟩
      walk_at "go"
      refine ⟨p, x, y, us, ss, rfl, s6.at hp5, (hss.same s15).same s6, go, fun H7 s7 => ?_⟩
      walk_at "go"
      refine w_andV2 (fun _ => ?_) (fun z => absurd rfl z)
      walk_at "go"
      refine ⟨p, x, y, us, ss, rfl, s7.at (s6.at hp5), hx, hxl, ((hss.same s15).same s6).same s7, go, fun H8 s8 => ?_⟩
      walk_at "go"
      rw [decide_eq_true rfl]
      have s18 := ((s15.trans s6).trans s7).trans s8
      exact q H8 (x1.same s18) (T1.same s18)
    · walk_at "go"
      refine ⟨x, rfl, hx, by omega, fun p2 H2 L2 np2 s2 hp2 rL2 mL2 lL2 => ?_⟩
      walk_at "go"
      refine ⟨y, rfl, hy, by omega, fun p3 H3 L3 np3 s3 hp3 rL3 mL3 lL3 => ?_⟩
      refine w_neStrs (s3.at hp2) hp3 (fun s hs => wln hx s ((mL2 s).mp hs)) (fun s hs => wln hy s ((mL3 s).mp hs)) ?_
      by_cases eL : L2 = L3
      · rw [decide_eq_true eL, Bool.not_true]
        walk_at "go"
        refine ⟨x, rfl, hx, by omega, fun H4 s4 => ?_⟩
        walk_at "go"
        refine ⟨y, rfl, hy, by omega, fun H5 s5 => ?_⟩
        walk_at "go"
        have hne : shortT x ≠ shortT y := fun e => h ⟨fun s => (mL2 s).symm.trans (by rw [eL]; exact mL3 s), e⟩
        refine w_ifN2 (fun _ => ?_) fun z => absurd z hne
        walk_at "go"
        have s15 := (((s1.trans s2).trans s3).trans s4).trans s5
        exact q H5 s15.ext (hT.same s15)
      · rw [decide_eq_false eL, Bool.not_false]
        walk_at "go"
        have s13 := (s1.trans s2).trans s3
        exact q H3 s13.ext (hT.same s13)
/-! ### the law -/
def spLaw (K : PySem.W.Frag) (Pt : Addr) : Sp := fun vs H Q _ => ∃ (a : Addr) (ns : List Int), vs = [.ref a] ∧ SqL K H a (ns.map V.int) ∧ ns.length ≤ 63 ∧ H Pt = some (.tbl #[]) ∧ ∀ H', Q (.bl true) H'
theorem sc_law : FnScope ["_law_script", "_law_bag", "_law_turn", "_law_one", "_law_at", "_law_sign_here", "_law_menu", "_law_other"] ["_law_script"] (defScope s_law) := ⟨rfl, rfl, rfl, by decide +kernel, rfl, by decide +kernel, by decide +kernel⟩
theorem ok_law {f Pt : Addr} {fd : FuncData} (F : Fun K "law" "law" s_law f fd) (B : Blt mg) (h_Be : HasBegin P w K mg base) (h_Pu : HasPull P w K mg base) (h_An : HasAny P w K mg base) (h_Si : HasSign P w K mg base) (h_Fl : HasFlip P w K mg base) (h_Rw : HasRw P w K mg base) (h_Lpk : HasLpk P w K mg base) (h_Sa : HasSame P w K mg base 1)
    (h_Bt : Has P w K mg base 8 "between" ["one", "other"] (spBt Pt)) (h_Ldt : Has P w K mg base 9 "_law_led_there" ["_law_one", "_law_other"] (spLdt Pt)) : FnOk P w K mg base CX0 10 f fd ["_law_script"] (spLaw K Pt) := by
  obtain ⟨f_Be, fd_Be, g_Be, k_Be, b_Be, G_Be⟩ := h_Be
  obtain ⟨f_Pu, fd_Pu, g_Pu, k_Pu, b_Pu, G_Pu⟩ := h_Pu
  obtain ⟨f_An, fd_An, g_An, k_An, b_An, G_An⟩ := h_An
  obtain ⟨f_Si, fd_Si, g_Si, k_Si, b_Si, G_Si⟩ := h_Si
  obtain ⟨f_Fl, fd_Fl, g_Fl, k_Fl, b_Fl, G_Fl⟩ := h_Fl
  obtain ⟨f_Rw, fd_Rw, g_Rw, k_Rw, b_Rw, G_Rw⟩ := h_Rw
  obtain ⟨f_Lpk, fd_Lpk, g_Lpk, k_Lpk, b_Lpk, G_Lpk⟩ := h_Lpk
  obtain ⟨f_Sa, fd_Sa, g_Sa, k_Sa, b_Sa, G_Sa⟩ := h_Sa
  obtain ⟨f_Bt, fd_Bt, g_Bt, k_Bt, b_Bt, G_Bt⟩ := h_Bt
  obtain ⟨f_Ldt, fd_Ldt, g_Ldt, k_Ldt, b_Ldt, G_Ldt⟩ := h_Ldt
  refine F.ok sc_law (fun vs H Q E h => ?_) (fun cdv A outer s H vs Q E hr h => ?_)
  · obtain ⟨a, ns, rfl, _⟩ := h
    rfl
  · obtain ⟨a, ns, rfl, hS, hlen, hPt, q⟩ := h
    refine ⟨_, (pss_cons (ps_set (i := 1) sc_law.nd rfl (.inl rfl) (pe_call G_Be (hr.mono (by decide)) (by rfl) g_Be k_Be b_Be .nil pass0 (pa_cons (pv 0) pa_nil))) (pss_cons (ps_for PassesOwn.never rfl (pi_range1 rfl B.range (pa_cons pe_int pa_nil)) (pg_name (i := 2) sc_law.nd rfl (.inl rfl)) (pss_cons (ps_set (i := 3) sc_law.nd rfl (.inl rfl) (pe_call G_An (hr.mono (by decide)) (by rfl) g_An k_An b_An .nil pass0 (pa_cons (pv 1) (pa_cons pe_int pa_nil)))) (pss_cons (ps_set (i := 4) sc_law.nd rfl (.inl rfl) (pe_call G_Pu (hr.mono (by decide)) (by rfl) g_Pu k_Pu b_Pu .nil pass0 (pa_cons (pv 1) (pa_cons (pe_op op_add (pe_callB call_lenS (by rfl) B.len PySem.boot_len (pa_cons (pv 3) pa_nil)) pe_int) pa_nil)))) (pss_cons (ps_set (i := 5) sc_law.nd rfl (.inl rfl) (pe_call G_Si (hr.mono (by decide)) (by rfl) g_Si k_Si b_Si .nil pass0 (pa_cons (pv 1) (pa_cons pe_int pa_nil)))) (pss_cons (ps_set (i := 6) sc_law.nd rfl (.inl rfl) (pe_lst (pa_cons (pe_call G_Rw (hr.mono (by decide)) (by rfl) g_Rw k_Rw b_Rw .nil pass0 (pa_cons (pv 1) (pa_cons (pv 3) (pa_cons pe_int pa_nil)))) (pa_cons (pe_call G_Rw (hr.mono (by decide)) (by rfl) g_Rw k_Rw b_Rw .nil pass0 (pa_cons (pv 1) (pa_cons (pv 3) (pa_cons pe_int pa_nil)))) (pa_cons (pv 3) pa_nil))))) (pss_cons (ps_set (i := 6) sc_law.nd rfl (.inl rfl) (pe_op op_cat (pv 6) (pe_lst (pa_cons (pe_op op_addS (pe_op op_addS (pe_slice sl_str (pv 3) po_none (po_some (pv 4))) (pv 5)) (pe_slice sl_str (pv 3) (po_some (pe_op op_add (pv 4) pe_int)) po_none)) (pa_cons (pe_op op_addS (pe_op op_addS (pe_op op_addS (pe_slice sl_str (pv 3) po_none (po_some (pv 4))) (pv 5)) (pe_call G_Fl (hr.mono (by decide)) (by rfl) g_Fl k_Fl b_Fl .nil pass0 (pa_cons (pv 5) pa_nil))) (pe_slice sl_str (pv 3) (po_some (pv 4)) po_none)) pa_nil))))) (pss_cons (ps_expr (pe_bm PySem.F.plainAttrs_list PySem.F.slot_list_append PySem.F.type_list_append mt_append (pv 6) (pa_cons (pe_call G_An (hr.mono (by decide)) (by rfl) g_An k_An b_An .nil pass0 (pa_cons (pv 1) (pa_cons pe_int pa_nil))) pa_nil))) (pss_cons (ps_set (i := 7) sc_law.nd rfl (.inl rfl) (pe_call G_Lpk (hr.mono (by decide)) (by rfl) g_Lpk k_Lpk b_Lpk .nil pass0 (pa_cons (pv 1) (pa_cons (pv 6) pa_nil)))) (pss_one (ps_if (PW.pt (pw_or (pt_not (pt_val (pe_call G_Ldt (hr.mono (by decide)) (by rfl) g_Ldt k_Ldt b_Ldt .nil pass0 (pa_cons (pv 3) (pa_cons (pv 7) pa_nil))))) (pw_or1 (pt_not (pt_val (pe_call G_Ldt (hr.mono (by decide)) (by rfl) g_Ldt k_Ldt b_Ldt .nil pass0 (pa_cons (pv 7) (pa_cons (pv 3) pa_nil)))))))) (pss_one (ps_ret pe_bl)) pss_nil)))))))))) (pss_one (ps_ret (pe_and (pe_cmpR op_isNn (pe_call G_Bt (hr.mono (by decide)) (by rfl) g_Bt k_Bt b_Bt .nil pass0 (pa_cons pe_str (pa_cons pe_str pa_nil))) pe_non (nomark _)) (pe_one (pe_call G_Sa (hr.mono (by decide)) (by rfl) g_Sa k_Sa b_Sa .nil pass0 (pa_cons (pe_call G_Bt (hr.mono (by decide)) (by rfl) g_Bt k_Bt b_Bt .nil pass0 (pa_cons pe_str (pa_cons pe_str pa_nil))) (pa_cons (pe_lst pa_nil) pa_nil))))))))), ?_⟩
    have T0 : TabsN (lamT Pt) H := fun p hp => by
      rw [List.mem_singleton.mp hp]
      exact TabN.nil hPt
    walk_at "go"
    refine ⟨a, ns, rfl, hS, fun b l H1 nb B1 s1 => ?_⟩
    have T1 := T0.same s1
    walk_at "go"
    refine w_kRng1 (by decide) (by decide) ?_
    refine w_range (fun i σ H2 => ∃ (y2 y3 y4 y5 y6 y7 : Option V), σ = [some (.ref a), some (.ref b), y2, y3, y4, y5, y6, y7] ∧ Bag H2 b l ∧ TabsN (lamT Pt) H2) ⟨none, none, none, none, none, none, rfl, B1, T1⟩ ?_ ?_
    · rintro i σ H2 hi ⟨y2, y3, y4, y5, y6, y7, rfl, B2, T2⟩
      walk_at "go"
      refine ⟨b, l, 12, rfl, B2, by decide, by decide, fun x H3 hx hxl B3 f3 => ?_⟩
      have hxl : x.length ≤ 12 := hxl
      have T3 := T2.fx B2 f3
      have ln : ∀ {k : Nat}, k ≤ 200 → k ≤ sizeLine := fun h => line_of (by omega)
      walk_at "go"
      refine w_lenS (ln (by omega)) ?_
      walk_at "go"
      refine ⟨b, l, _, rfl, B3, by omega, by omega, fun d H4 d0 d1 B4 f4 => ?_⟩
      have T4 := T3.fx B3 f4
      walk_at "go"
      refine ⟨b, l, 2, rfl, B4, by decide, by decide, fun c H5 hc B5 f5 => ?_⟩
      have T5 := T4.fx B4 f5
      have hcf := flip_sgn hc
      walk_at "go"
      refine ⟨b, l, x, 4, rfl, B5, hx, by omega, by decide, by decide, fun z1 H6 hz1 hz1l _ B6 f6 => ?_⟩
      have T6 := T5.fx B5 f6
      walk_at "go"
      refine ⟨b, l, x, 1, rfl, B6, hx, by omega, by decide, by decide, fun z2 H7 hz2 hz2l _ B7 f7 => ?_⟩
      have T7 := T6.fx B6 f7
      walk_at "go"
      refine w_newL (by walk_at "sz") (fun l1 H8 hl1 nl1 => ?_)
      have B8 := B7.nw nl1
      have T8 := T7.same nl1.same
      walk_at "go"
      have k1 : (cutS x none (some d)).length ≤ 12 := Nat.le_trans (cut_le _ _ _) hxl
      have k2 : (cutS x (some d) none).length ≤ 12 := Nat.le_trans (cut_le _ _ _) hxl
      have k3 : (cutS x (some (d + 1)) none).length ≤ 12 := Nat.le_trans (cut_le _ _ _) hxl
      have o1 : (one c).length = 1 := len_one c
      have o2 : (one (flipC c)).length = 1 := len_one _
      refine w_slS (ln (by omega)) ?_
      walk_at "go"
      refine w_addS (ln (by omega)) ?_
      walk_at "go"
      refine w_slS (ln (by omega)) ?_
      refine w_addS (ln (by rw [len_app]; omega)) ?_
      walk_at "go"
      refine w_slS (ln (by omega)) ?_
      walk_at "go"
      refine w_addS (ln (by omega)) ?_
      walk_at "go"
      refine ⟨c, rfl, hc, ?_⟩
      refine w_addS (ln (by rw [len_app]; omega)) ?_
      walk_at "go"
      refine w_slS (ln (by omega)) ?_
      refine w_addS (ln (by rw [len_app, len_app]; omega)) ?_
      walk_at "go"
      refine w_newL (by walk_at "sz") (fun l2 H9 hl2 nl2 => ?_)
      refine w_cat (nl2.at hl1) hl2 (ln (by show 3 + 2 ≤ 200; decide)) (fun l3 H10 hl3 nl3 => ?_)
      walk_at "go"
      have B10 := (B8.nw nl2).nw nl3
      have T10 := (T8.same nl2.same).same nl3.same
      have l3b := (B8.nw nl2).ne nl3.nn
      have l3l := (B8.nw nl2).neL nl3.nn
      refine ⟨b, l, 12, rfl, B10, by decide, by decide, fun z3 H11 hz3 hz3l B11 f11 => ?_⟩
      have hz3l : z3.length ≤ 12 := hz3l
      have T11 := T10.fx B10 f11
      walk_at "go"
      refine w_append (f11.at l3b hl3) (lineLt_of (by show 5 ≤ 100000; decide)) (fun H12 hl12 o12 => ?_)
      have T12 := T11.off (f11.at l3b hl3) o12
      have B12 : Bag H12 b l := B11.off l3b l3l o12
      walk_at "go"
      refine ⟨b, l, l3, _, rfl, B12, hl12, l3b, by show 1 ≤ 6; decide, by show 6 ≤ 10000; decide, fun v H13 hv B13 f13 => ?_⟩
      have T13 := T12.fx B12 f13
      obtain ⟨y, rfl, hy, hyl⟩ : ∃ y : Str, v = .str y ∧ Wd y ∧ y.length ≤ 60 := by
        simp only [List.mem_append, List.mem_cons, List.not_mem_nil, or_false] at hv
        rcases hv with ((rfl | rfl | rfl) | (rfl | rfl)) | rfl
        · exact ⟨_, rfl, hz1, hz1l⟩
        · exact ⟨_, rfl, hz2, hz2l⟩
        · exact ⟨_, rfl, hx, by omega⟩
        · exact ⟨_, rfl, (hx.cut.app (wd_one hc)).app hx.cut, by rw [len_app, len_app]; omega⟩
        · exact ⟨_, rfl, ((hx.cut.app (wd_one hc)).app (wd_one hcf)).app hx.cut, by rw [len_app, len_app, len_app]; omega⟩
        · exact ⟨_, rfl, hz3, by omega⟩
      walk_at "go"
      refine ⟨x, y, rfl, hx, by omega, hy, hyl, T13, fun H14 x14 T14 => ?_⟩
      have B14 := B13.ext x14
      walk_at "go"
      refine ⟨y, x, rfl, hy, hyl, hx, by omega, T14, fun H15 x15 T15 => ?_⟩
      have B15 := B14.ext x15
      walk_at "go"
      exact ⟨_, _, _, _, _, _, rfl, B15, T15⟩
    · rintro σ H2 ⟨y2, y3, y4, y5, y6, y7, rfl, B2, T2⟩
      walk_at "go"
      refine ⟨_, _, rfl, wd_ab (.inl (by decide +kernel)), by decide +kernel, wd_ab (.inr (.inl (by decide +kernel))), by decide +kernel, T2, fun h => absurd h.en (by decide +kernel), fun _ H3 s3 => ?_⟩
      walk_at "go"
      refine ⟨_, _, rfl, wd_ab (.inr (.inr (by decide +kernel))), by decide +kernel, wd_ab (.inr (.inr (by decide +kernel))), by decide +kernel, T2.same s3, fun h p H4 us ss x4 nn4 T4 np4 hp4 hss hok go e0 => ?_, fun h => absurd (.refl _) h⟩
      have e1 := e0 rfl rfl
      subst e1
      cases hss
      walk_at "go"
      refine w_newL (by walk_at "sz") (fun l5 H5 hl5 nl5 => ?_)
      walk_at "go"
      exact ⟨_, _, rfl, eqv_nils (nl5.at hp4) hl5, fun H6 s6 => q _⟩
end
end Sf
namespace Sf
open PySem PySem.Spec PyProof.Rows L2 TL
theorem fnAtC_mk {K : PySem.W.Frag} {h : Heap} {mg : Str → Option Value} {x : Str} {st : Stmt} {ps : List Str} {c f : Addr} {oc : Value} {od an : Option Addr} {osl : Array (Option Value)} {kV doc pm ct : Value} (X : K.In h) (G : h.Ns mainGlobals mg)
    (a : PySem.W.nsIn K mainGlobals x = some (some (.ref f))) (l : K.lookup f = some ⟨oc, od, .func (PySem.W.fnOf x x (defArgs st) (defBody st) (defScope st) .none kV doc pm an (.ref c) ct), osl⟩)
    (cc : PySem.W.codeIn K (.ref c) x = true) (k : PySem.W.keepIn K (.ref f) = true)
    (b : ∀ (kV doc pm : Value) (an : Option Addr) (cdv ct : Value) (us : List Value), us.length = ps.length → bindArgs (PySem.W.fnOf x x (defArgs st) (defBody st) (defScope st) .none kV doc pm an cdv ct) ⟨us, []⟩ = pure (ps.zip us)) : FnAtC K mg x st ps c :=
  ⟨f, oc, od, kV, doc, pm, an, ct, osl, PySem.W.mg_of X G a, l, cc, k, (fun_mk l cc k).binds b⟩
theorem lawAt_of {l : PySem.W.OpenLaw} {w : World} {K : PySem.W.Frag} {mg : Str → Option Value} {h : Heap} {fa c Pt : Addr} {oc : Value} {od : Option Addr} {vs : Array Value} {sl : Array (Option Value)} (KX : K.In h) (hd : K.lookup c = some ⟨oc, od, .fields vs, sl⟩) (h11 : vs[11]? = some (.ref Pt)) (hn : PySem.W.codeHdIn K c Pt = true ∧ K.lookup Pt = none)
    (A : ∃ fd : FuncData, (∀ (s : Shared) (v : Value), BindsTo s fd ⟨[v], []⟩ [("_law_script", v)]) ∧ ∀ base : Heap, K.In base → base.Ns mainGlobals mg → LamX.TabB base mg c Pt → FnOk l.prog w K mg base CX0 10 fa fd ["_law_script"] (spLaw K Pt)) {ts : List Addr} (hT : Pt ∈ ts → h.get? Pt = some (PySem.W.tabObj #[])) (hm : Pt ∈ ts) : LamX.LawAtS l w K CX0 10 63 "_law_script" mg fa h := by
  obtain ⟨fd, bf, hF⟩ := A
  refine ⟨fd, [(c, Pt)], spLaw K Pt, fun p hp => ?_, fun p hp => ?_, fun p hp => ?_, bf, fun H a ns hl _ hH hS => ⟨a, ns, rfl, hS, hl, hH (c, Pt) (List.mem_singleton.mpr rfl), fun _ => rfl⟩, fun base kb gb TB => hF base kb gb (TB (c, Pt) (List.mem_singleton.mpr rfl))⟩
  · rw [List.mem_singleton.mp hp]
    exact hT hm
  · rw [List.mem_singleton.mp hp]
    exact hn.2
  · rw [List.mem_singleton.mp hp]
    exact PySem.W.codeHd_of_K KX hn.1
theorem all_mk {P : Program} {w : World} {K : PySem.W.Frag} {h : Heap} {mg : Str → Option Value} {fa f : Addr} (X : K.In h) (G : h.Ns mainGlobals mg) (hfa : mg "law" = some (.ref fa))
    {od an : Option Addr} {sl : Array (Option Value)} {oc kV dc pm cd ct : Value}
    (aL : PySem.W.nsIn K mainGlobals "law" = some (some (.ref f))) (lL : K.lookup f = some ⟨oc, od, .func (PySem.W.fnOf "law" "law" (defArgs s_law) (defBody s_law) (defScope s_law) .none kV dc pm an cd ct), sl⟩) (cL : PySem.W.codeIn K cd "law" = true) (kL : PySem.W.keepIn K (.ref f) = true)
    (F_law_pull : FnAt K mg "_law_pull" s__law_pull ["_law_bag", "_law_many"])
    (F_law_begin : FnAt K mg "_law_begin" s__law_begin ["_law_script"])
    (F_law_flip : FnAt K mg "_law_flip" s__law_flip ["_law_sign_here"])
    (F_law_sign : FnAt K mg "_law_sign" s__law_sign ["_law_bag", "_law_many"])
    (F_law_word : FnAt K mg "_law_word" s__law_word ["_law_bag", "_law_upto", "_law_many"])
    (F_law_any_word : FnAt K mg "_law_any_word" s__law_any_word ["_law_bag", "_law_upto"])
    (Fis_word : FnAt K mg "is_word" s_is_word ["text"])
    (Fneed_word : FnAt K mg "need_word" s_need_word ["text"])
    (Fis_upto : FnAt K mg "is_upto" s_is_upto ["thing", "most"])
    (Fglued : FnAt K mg "glued" s_glued ["one", "other"])
    (Fturned : FnAt K mg "turned" s_turned ["word"])
    (Frank : FnAt K mg "rank" s_rank ["word"])
    (F_law_rank : FnAt K mg "_law_rank" s__law_rank ["_law_word_here"])
    (F_law_rise : FnAt K mg "_law_rise" s__law_rise ["_law_words"])
    (F_law_short : FnAt K mg "_law_short" s__law_short ["_law_word_here"])
    (F_law_spots : FnAt K mg "_law_spots" s__law_spots ["_law_word_here"])
    (F_law_back : FnAt K mg "_law_back" s__law_back ["_law_word_here"])
    (Fwidth : FnAt K mg "width" s_width ["spots"])
    (Funrolled : FnAt K mg "unrolled" s_unrolled ["word"])
    (Fswaps : FnAt K mg "swaps" s_swaps ["spots", "key"])
    (Fbacks : FnAt K mg "backs" s_backs ["spots"])
    (Ftips : FnAt K mg "tips" s_tips ["spots"])
    (F_law_stepped : FnAt K mg "_law_stepped" s__law_stepped ["_law_word_here", "_law_step"])
    (F_law_walk : FnAt K mg "_law_walk" s__law_walk ["_law_word_here", "_law_steps"])
    (F_law_good_steps : FnAt K mg "_law_good_steps" s__law_good_steps ["_law_steps"])
    (F_law_same : FnAt K mg "_law_same" s__law_same ["_law_found", "_law_due"])
    (Floop : FnAt K mg "loop" s_loop ["way"])
    (Fis_way : FnAt K mg "is_way" s_is_way ["thing"])
    (Fis_step : FnAt K mg "is_step" s_is_step ["step", "most"])
    (Fsides : FnAt K mg "sides" s_sides ["step"])
    (Freplaced : FnAt K mg "replaced" s_replaced ["word", "step", "number"])
    (Fwalked : FnAt K mg "walked" s_walked ["word", "steps"])
    (Fagainst : FnAt K mg "against" s_against ["step"])
    (Fbetween : FnAt K mg "between" s_between ["one", "other"])
    (F_law_pick : FnAt K mg "_law_pick" s__law_pick ["_law_bag", "_law_row"])
    (F_law_round_ways : FnAt K mg "_law_round_ways" s__law_round_ways ["_law_bag", "_law_word_here", "_law_many"])
    (F_law_led_there : FnAt K mg "_law_led_there" s__law_led_there ["_law_one", "_law_other"])
    (B : Blt mg) (Nsum : mg "sum" = none) (Nany : mg "any" = none) (Nreversed : mg "reversed" = none) (Nenumerate : mg "enumerate" = none) {t_MOST_WORD : Tok} (C_MOST_WORD : mg "MOST_WORD" = some (.int 60 t_MOST_WORD)) {t_SIGNS : Tok} (C_SIGNS : mg "SIGNS" = some (.str (Str.ofString "aAbBcCdDeEfFgGhH") t_SIGNS)) {CTrack : Addr} (TTrack : TC K mg CTrack) (mkTrack : PySem.W.makesIn K CTrack = true) (kcTrack : PySem.W.keepIn K (.ref CTrack) = true)
    (MTrack___init__ : MAt K CTrack "__init__" "Track.__init__" s_Track___init__ ["self", "word"])
    (MTrack_spots : MAt K CTrack "spots" "Track.spots" s_Track_spots ["self"])
    (MTrack_plain : MAt K CTrack "plain" "Track.plain" s_Track_plain ["self"])
    (MTrack___eq__ : MAt K CTrack "__eq__" "Track.__eq__" s_Track___eq__ ["self", "other"])
    {pT : Addr} (T_TH : TH K mg w pT)
    {cTp Pt : Addr} (Fto_plain : FnAtC K mg "to_plain" s_to_plain ["word"] cTp) :
    ∃ fd : FuncData, (∀ (s : Shared) (v : Value), BindsTo s fd ⟨[v], []⟩ [("_law_script", v)]) ∧ ∀ base : Heap, K.In base → base.Ns mainGlobals mg → LamX.TabB base mg cTp Pt → FnOk P w K mg base CX0 10 fa fd ["_law_script"] (spLaw K Pt) := by
  have e := hfa.symm.trans (PySem.W.mg_of X G aL)
  cases e
  have FL := fun_mk (st := s_law) lL cL kL
  refine ⟨PySem.W.fnOf "law" "law" (defArgs s_law) (defBody s_law) (defScope s_law) .none kV dc pm an cd ct, fun s v => .of_eq rfl, fun base _ _ TB => ?_⟩
  have h_Pu := has_pull (P := P) (w := w) (base := base) F_law_pull B
  have h_Be := has_begin (P := P) (w := w) (base := base) F_law_begin B
  have h_Fl := has_flip (P := P) (w := w) (base := base) F_law_flip
  have h_Si := has_sign (P := P) (w := w) (base := base) F_law_sign h_Pu
  have h_Wo := has_word (P := P) (w := w) (base := base) F_law_word B h_Pu h_Si h_Fl
  have h_An := has_any (P := P) (w := w) (base := base) F_law_any_word h_Pu h_Wo
  have h_Iw := has_isword (P := P) (w := w) (base := base) Fis_word B C_MOST_WORD C_SIGNS
  have h_Ne := has_need (P := P) (w := w) (base := base) Fneed_word h_Iw
  have h_Up := has_up (P := P) (w := w) (base := base) Fis_upto B
  have hG := has_glued (P := P) (w := w) (base := base) Fglued B B.min
  have hT := has_turned (P := P) (w := w) (base := base) Fturned
  have hRk := has_rank (P := P) (w := w) (base := base) Frank B
  have hRl := has_rankL (P := P) (w := w) (base := base) F_law_rank B
  have hRi := has_rise (P := P) (w := w) (base := base) F_law_rise B hRl
  have h_Sh := has_short (P := P) (w := w) (base := base) F_law_short h_Fl
  have h_Lsp := has_lspots (P := P) (w := w) (base := base) F_law_spots B hRi h_Sh
  have h_Ba := has_back (P := P) (w := w) (base := base) F_law_back h_Fl
  have h_TI := has_init (P := P) (w := w) (base := base) MTrack___init__ TTrack h_Ne hG
  have h_TSp := has_spots (P := P) (w := w) (base := base) MTrack_spots TTrack B hRk
  have h_TPl := has_plain (P := P) (w := w) (base := base) MTrack_plain TTrack h_TSp hT
  have h_Wi := has_wi (P := P) (w := w) (base := base) Fwidth B Nsum
  have h_Ur := has_ur (P := P) (w := w) (base := base) Funrolled B h_Wi hT
  have h_Sw := has_swA (P := P) (w := w) (base := base) Fswaps B h_Wi
  have h_Sw2 := has_swB (P := P) (w := w) (base := base) Fswaps B h_Wi
  have h_Bk := has_bk (P := P) (w := w) (base := base) Fbacks B Nreversed h_Wi
  have h_Ti := has_ti (P := P) (w := w) (base := base) Ftips B Nenumerate
  have h_Tp := has_tp (P := P) (w := w) (base := base) Fto_plain B Nany TB TTrack mkTrack kcTrack h_Ne h_TI h_TPl h_Wi h_Ur h_Sw h_Sw2 h_Bk h_Ti hRk
  have h_Lst := has_lst (P := P) (w := w) (base := base) F_law_stepped B h_Ba
  have h_Lwk := has_lwk (P := P) (w := w) (base := base) F_law_walk h_Lst
  have h_Gs := has_gs (P := P) (w := w) (base := base) F_law_good_steps B
  have h_Lo := has_lo (P := P) (w := w) (base := base) Floop hT
  have h_Iy := has_iy (P := P) (w := w) (base := base) Fis_way B h_Iw
  have h_Is := has_is (P := P) (w := w) (base := base) Fis_step B T_TH h_Up h_Iy
  have h_Sds := has_sds (P := P) (w := w) (base := base) Fsides h_Lo
  have h_Rp := has_rp (P := P) (w := w) (base := base) Freplaced B T_TH h_Is h_Sds
  have h_Wk := has_wk (P := P) (w := w) (base := base) Fwalked Nenumerate h_Ne h_Rp
  have h_Ag := has_ag (P := P) (w := w) (base := base) Fagainst
  have h_TEq := has_eqF (P := P) (w := w) (base := base) MTrack___eq__ TTrack B
  have h_Bt := has_bt (P := P) (w := w) (base := base) Fbetween B Nreversed TTrack mkTrack kcTrack h_Ne h_TI h_TEq h_Tp h_Ag
  have h_Lpk := has_lpk (P := P) (w := w) (base := base) F_law_pick B h_Pu
  have h_Rw := has_rw (P := P) (w := w) (base := base) F_law_round_ways B h_Pu h_Ba
  have h_Ldt := has_ldt (P := P) (w := w) (base := base) F_law_led_there h_Bt h_Lsp h_Sh h_Gs h_Lwk h_Wk
  have h_Sa := has_same (P := P) (w := w) (base := base) F_law_same B
  exact ok_law FL B h_Be h_Pu h_An h_Si h_Fl h_Rw h_Lpk (h_Sa 1) h_Bt h_Ldt
end Sf
open PySem PySem.W PyProof.Rows
set_option maxRecDepth 100000 in
set_option maxHeartbeats 0 in
theorem PySem.Challenge.cw_spoorfold_k15_whole_steps_between_words_holds : PySem.Challenge.rw_spoorfold_k15_whole_steps_between_words.Holds := by
  w_on; o_law; k_head; (case hw => w_witness2)
  k_fill
  refine LamX.walk_ofTs (l := PySem.Challenge.rw_spoorfold_k15_whole_steps_between_words) (n := 63) (k := 10) (x := "_law_script") (CX := fun _ => L2.CX0) rfl (by decide) rfl ⟨rfl, by decide, by decide⟩ (fun w h Y => PySem.W.km_in_of Y) ?F (fun _ _ _ _ _ h => h)
  case F =>
    intro w mg fa h Y KX G hmg
    have hT8 := PySem.W.km_tabs_of Y
    refine' Sf.lawAt_of KX ?hd ?h11 ?hn (Sf.all_mk KX G hmg ?aL ?lL ?cL ?kL (Sf.fnAt_mk KX G ?a0 ?l0 ?c0 ?k0 (fun _ _ _ _ _ _ us hl => match us, hl with | [_, _], _ => rfl)) (Sf.fnAt_mk KX G ?a1 ?l1 ?c1 ?k1 (fun _ _ _ _ _ _ us hl => match us, hl with | [_], _ => rfl)) (Sf.fnAt_mk KX G ?a2 ?l2 ?c2 ?k2 (fun _ _ _ _ _ _ us hl => match us, hl with | [_], _ => rfl)) (Sf.fnAt_mk KX G ?a3 ?l3 ?c3 ?k3 (fun _ _ _ _ _ _ us hl => match us, hl with | [_, _], _ => rfl)) (Sf.fnAt_mk KX G ?a4 ?l4 ?c4 ?k4 (fun _ _ _ _ _ _ us hl => match us, hl with | [_, _, _], _ => rfl)) (Sf.fnAt_mk KX G ?a5 ?l5 ?c5 ?k5 (fun _ _ _ _ _ _ us hl => match us, hl with | [_, _], _ => rfl)) (Sf.fnAt_mk KX G ?a6 ?l6 ?c6 ?k6 (fun _ _ _ _ _ _ us hl => match us, hl with | [_], _ => rfl)) (Sf.fnAt_mk KX G ?a7 ?l7 ?c7 ?k7 (fun _ _ _ _ _ _ us hl => match us, hl with | [_], _ => rfl)) (Sf.fnAt_mk KX G ?a8 ?l8 ?c8 ?k8 (fun _ _ _ _ _ _ us hl => match us, hl with | [_, _], _ => rfl)) (Sf.fnAt_mk KX G ?a9 ?l9 ?c9 ?k9 (fun _ _ _ _ _ _ us hl => match us, hl with | [_, _], _ => rfl)) (Sf.fnAt_mk KX G ?a10 ?l10 ?c10 ?k10 (fun _ _ _ _ _ _ us hl => match us, hl with | [_], _ => rfl)) (Sf.fnAt_mk KX G ?a11 ?l11 ?c11 ?k11 (fun _ _ _ _ _ _ us hl => match us, hl with | [_], _ => rfl)) (Sf.fnAt_mk KX G ?a12 ?l12 ?c12 ?k12 (fun _ _ _ _ _ _ us hl => match us, hl with | [_], _ => rfl)) (Sf.fnAt_mk KX G ?a13 ?l13 ?c13 ?k13 (fun _ _ _ _ _ _ us hl => match us, hl with | [_], _ => rfl)) (Sf.fnAt_mk KX G ?a14 ?l14 ?c14 ?k14 (fun _ _ _ _ _ _ us hl => match us, hl with | [_], _ => rfl)) (Sf.fnAt_mk KX G ?a15 ?l15 ?c15 ?k15 (fun _ _ _ _ _ _ us hl => match us, hl with | [_], _ => rfl)) (Sf.fnAt_mk KX G ?a16 ?l16 ?c16 ?k16 (fun _ _ _ _ _ _ us hl => match us, hl with | [_], _ => rfl)) (Sf.fnAt_mk KX G ?a17 ?l17 ?c17 ?k17 (fun _ _ _ _ _ _ us hl => match us, hl with | [_], _ => rfl)) (Sf.fnAt_mk KX G ?a18 ?l18 ?c18 ?k18 (fun _ _ _ _ _ _ us hl => match us, hl with | [_], _ => rfl)) (Sf.fnAt_mk KX G ?a19 ?l19 ?c19 ?k19 (fun _ _ _ _ _ _ us hl => match us, hl with | [_, _], _ => rfl)) (Sf.fnAt_mk KX G ?a20 ?l20 ?c20 ?k20 (fun _ _ _ _ _ _ us hl => match us, hl with | [_], _ => rfl)) (Sf.fnAt_mk KX G ?a21 ?l21 ?c21 ?k21 (fun _ _ _ _ _ _ us hl => match us, hl with | [_], _ => rfl)) (Sf.fnAt_mk KX G ?a22 ?l22 ?c22 ?k22 (fun _ _ _ _ _ _ us hl => match us, hl with | [_, _], _ => rfl)) (Sf.fnAt_mk KX G ?a23 ?l23 ?c23 ?k23 (fun _ _ _ _ _ _ us hl => match us, hl with | [_, _], _ => rfl)) (Sf.fnAt_mk KX G ?a24 ?l24 ?c24 ?k24 (fun _ _ _ _ _ _ us hl => match us, hl with | [_], _ => rfl)) (Sf.fnAt_mk KX G ?a25 ?l25 ?c25 ?k25 (fun _ _ _ _ _ _ us hl => match us, hl with | [_, _], _ => rfl)) (Sf.fnAt_mk KX G ?a26 ?l26 ?c26 ?k26 (fun _ _ _ _ _ _ us hl => match us, hl with | [_], _ => rfl)) (Sf.fnAt_mk KX G ?a27 ?l27 ?c27 ?k27 (fun _ _ _ _ _ _ us hl => match us, hl with | [_], _ => rfl)) (Sf.fnAt_mk KX G ?a28 ?l28 ?c28 ?k28 (fun _ _ _ _ _ _ us hl => match us, hl with | [_, _], _ => rfl)) (Sf.fnAt_mk KX G ?a29 ?l29 ?c29 ?k29 (fun _ _ _ _ _ _ us hl => match us, hl with | [_], _ => rfl)) (Sf.fnAt_mk KX G ?a30 ?l30 ?c30 ?k30 (fun _ _ _ _ _ _ us hl => match us, hl with | [_, _, _], _ => rfl)) (Sf.fnAt_mk KX G ?a31 ?l31 ?c31 ?k31 (fun _ _ _ _ _ _ us hl => match us, hl with | [_, _], _ => rfl)) (Sf.fnAt_mk KX G ?a32 ?l32 ?c32 ?k32 (fun _ _ _ _ _ _ us hl => match us, hl with | [_], _ => rfl)) (Sf.fnAt_mk KX G ?a33 ?l33 ?c33 ?k33 (fun _ _ _ _ _ _ us hl => match us, hl with | [_, _], _ => rfl)) (Sf.fnAt_mk KX G ?a34 ?l34 ?c34 ?k34 (fun _ _ _ _ _ _ us hl => match us, hl with | [_, _], _ => rfl)) (Sf.fnAt_mk KX G ?a35 ?l35 ?c35 ?k35 (fun _ _ _ _ _ _ us hl => match us, hl with | [_, _, _], _ => rfl)) (Sf.fnAt_mk KX G ?a36 ?l36 ?c36 ?k36 (fun _ _ _ _ _ _ us hl => match us, hl with | [_, _], _ => rfl)) ⟨PySem.W.mg_none_of KX G ?z0, PySem.W.mg_none_of KX G ?z1, PySem.W.mg_none_of KX G ?z2, PySem.W.mg_none_of KX G ?z3, PySem.W.mg_none_of KX G ?z4, PySem.W.mg_none_of KX G ?z5, PySem.W.mg_none_of KX G ?z6, PySem.W.mg_none_of KX G ?z7, PySem.W.mg_none_of KX G ?z8, PySem.W.mg_none_of KX G ?z9, PySem.W.mg_none_of KX G ?z10, PySem.W.mg_none_of KX G ?z11⟩ (PySem.W.mg_none_of KX G ?y0) (PySem.W.mg_none_of KX G ?y1) (PySem.W.mg_none_of KX G ?y2) (PySem.W.mg_none_of KX G ?y3) (PySem.W.mg_of KX G ?d0) (PySem.W.mg_of KX G ?d1) (Sf.TC.mk ⟨?wTrackpg, ?wTrackhd, ?wTrackpo, ?wTracksa⟩ ?wTrackf0 ?wTrackf1 (PySem.W.mg_of KX G ?wTrackaC) ?wTrackha ?wTrackhn ?wTrackhtk ?wTrackhm ?wTrackne) ?wTrackmk ?wTrackkc (Sf.mAt_mk ?wTracka0 ?wTracki0 ?wTrackl0 ?wTrackc0 ?wTrackk0 (fun _ _ _ _ _ _ us hl => match us, hl with | [_, _], _ => rfl)) (Sf.mAt_mk ?wTracka1 ?wTracki1 ?wTrackl1 ?wTrackc1 ?wTrackk1 (fun _ _ _ _ _ _ us hl => match us, hl with | [_], _ => rfl)) (Sf.mAt_mk ?wTracka2 ?wTracki2 ?wTrackl2 ?wTrackc2 ?wTrackk2 (fun _ _ _ _ _ _ us hl => match us, hl with | [_], _ => rfl)) (Sf.mAt_mk ?wTracka3 ?wTracki3 ?wTrackl3 ?wTrackc3 ?wTrackk3 (fun _ _ _ _ _ _ us hl => match us, hl with | [_, _], _ => rfl)) (Sf.th_mk KX G ?thA ?thL ?thK ?thW ?th1 ?th2 ?th3) (Sf.fnAtC_mk KX G ?ta ?tl ?tc ?tk (fun _ _ _ _ _ _ us hl => match us, hl with | [_], _ => rfl))) (fun hp => hT8 _ hp) ?hm
    (case aL => k_is)
    (case lL => k_is)
    (case cL => k_is)
    (case kL => k_is)
    (case a0 => k_is)
    (case l0 => k_is)
    (case c0 => k_is)
    (case k0 => k_is)
    (case a1 => k_is)
    (case l1 => k_is)
    (case c1 => k_is)
    (case k1 => k_is)
    (case a2 => k_is)
    (case l2 => k_is)
    (case c2 => k_is)
    (case k2 => k_is)
    (case a3 => k_is)
    (case l3 => k_is)
    (case c3 => k_is)
    (case k3 => k_is)
    (case a4 => k_is)
    (case l4 => k_is)
    (case c4 => k_is)
    (case k4 => k_is)
    (case a5 => k_is)
    (case l5 => k_is)
    (case c5 => k_is)
    (case k5 => k_is)
    (case a6 => k_is)
    (case l6 => k_is)
    (case c6 => k_is)
    (case k6 => k_is)
    (case a7 => k_is)
    (case l7 => k_is)
    (case c7 => k_is)
    (case k7 => k_is)
    (case a8 => k_is)
    (case l8 => k_is)
    (case c8 => k_is)
    (case k8 => k_is)
    (case a9 => k_is)
    (case l9 => k_is)
    (case c9 => k_is)
    (case k9 => k_is)
    (case a10 => k_is)
    (case l10 => k_is)
    (case c10 => k_is)
    (case k10 => k_is)
    (case a11 => k_is)
    (case l11 => k_is)
    (case c11 => k_is)
    (case k11 => k_is)
    (case a12 => k_is)
    (case l12 => k_is)
    (case c12 => k_is)
    (case k12 => k_is)
    (case a13 => k_is)
    (case l13 => k_is)
    (case c13 => k_is)
    (case k13 => k_is)
    (case a14 => k_is)
    (case l14 => k_is)
    (case c14 => k_is)
    (case k14 => k_is)
    (case a15 => k_is)
    (case l15 => k_is)
    (case c15 => k_is)
    (case k15 => k_is)
    (case a16 => k_is)
    (case l16 => k_is)
    (case c16 => k_is)
    (case k16 => k_is)
    (case a17 => k_is)
    (case l17 => k_is)
    (case c17 => k_is)
    (case k17 => k_is)
    (case a18 => k_is)
    (case l18 => k_is)
    (case c18 => k_is)
    (case k18 => k_is)
    (case a19 => k_is)
    (case l19 => k_is)
    (case c19 => k_is)
    (case k19 => k_is)
    (case a20 => k_is)
    (case l20 => k_is)
    (case c20 => k_is)
    (case k20 => k_is)
    (case a21 => k_is)
    (case l21 => k_is)
    (case c21 => k_is)
    (case k21 => k_is)
    (case a22 => k_is)
    (case l22 => k_is)
    (case c22 => k_is)
    (case k22 => k_is)
    (case a23 => k_is)
    (case l23 => k_is)
    (case c23 => k_is)
    (case k23 => k_is)
    (case a24 => k_is)
    (case l24 => k_is)
    (case c24 => k_is)
    (case k24 => k_is)
    (case a25 => k_is)
    (case l25 => k_is)
    (case c25 => k_is)
    (case k25 => k_is)
    (case a26 => k_is)
    (case l26 => k_is)
    (case c26 => k_is)
    (case k26 => k_is)
    (case a27 => k_is)
    (case l27 => k_is)
    (case c27 => k_is)
    (case k27 => k_is)
    (case a28 => k_is)
    (case l28 => k_is)
    (case c28 => k_is)
    (case k28 => k_is)
    (case a29 => k_is)
    (case l29 => k_is)
    (case c29 => k_is)
    (case k29 => k_is)
    (case a30 => k_is)
    (case l30 => k_is)
    (case c30 => k_is)
    (case k30 => k_is)
    (case a31 => k_is)
    (case l31 => k_is)
    (case c31 => k_is)
    (case k31 => k_is)
    (case a32 => k_is)
    (case l32 => k_is)
    (case c32 => k_is)
    (case k32 => k_is)
    (case a33 => k_is)
    (case l33 => k_is)
    (case c33 => k_is)
    (case k33 => k_is)
    (case a34 => k_is)
    (case l34 => k_is)
    (case c34 => k_is)
    (case k34 => k_is)
    (case a35 => k_is)
    (case l35 => k_is)
    (case c35 => k_is)
    (case k35 => k_is)
    (case a36 => k_is)
    (case l36 => k_is)
    (case c36 => k_is)
    (case k36 => k_is)
    (case z0 => k_is)
    (case z1 => k_is)
    (case z2 => k_is)
    (case z3 => k_is)
    (case z4 => k_is)
    (case z5 => k_is)
    (case z6 => k_is)
    (case z7 => k_is)
    (case z8 => k_is)
    (case z9 => k_is)
    (case z10 => k_is)
    (case z11 => k_is)
    (case y0 => k_is)
    (case y1 => k_is)
    (case y2 => k_is)
    (case y3 => k_is)
    (case d0 => k_is)
    (case d1 => k_is)
    (case wTrackaC => k_is)
    (case wTrackpg => k_is)
    (case wTrackhd => k_is)
    (case wTrackpo => k_is)
    (case wTracksa => k_is)
    (case wTrackf0 => k_is)
    (case wTrackf1 => k_is)
    (case wTrackha => k_is)
    (case wTrackhn => k_is)
    (case wTrackhtk => k_is)
    (case wTrackhm => k_is)
    (case wTrackne => k_is)
    (case wTrackmk => k_is)
    (case wTrackkc => k_is)
    (case wTracka0 => k_is)
    (case wTracki0 => k_is)
    (case wTrackl0 => k_is)
    (case wTrackc0 => k_is)
    (case wTrackk0 => k_is)
    (case wTracka1 => k_is)
    (case wTracki1 => k_is)
    (case wTrackl1 => k_is)
    (case wTrackc1 => k_is)
    (case wTrackk1 => k_is)
    (case wTracka2 => k_is)
    (case wTracki2 => k_is)
    (case wTrackl2 => k_is)
    (case wTrackc2 => k_is)
    (case wTrackk2 => k_is)
    (case wTracka3 => k_is)
    (case wTracki3 => k_is)
    (case wTrackl3 => k_is)
    (case wTrackc3 => k_is)
    (case wTrackk3 => k_is)
    (case thA => k_is)
    (case thL => k_is)
    (case thK => k_keys)
    (case thW => decide)
    (case th1 => k_is)
    (case th2 => k_is)
    (case th3 => k_is)
    (case ta => k_is)
    (case tl => k_is)
    (case tc => k_is)
    (case tk => k_is)
    (case hd => k_is)
    (case h11 => rfl)
    (case hn => exact ⟨by kernel_rfl, by kernel_rfl⟩)
    (case hm => decide)
