import PyProof.Rows.All
import Wide.All
import OpenK.AllK
import Wide.FinOn
import HandS.ForMost
import HandS.IsInst
import HandS.Zip
import HandS.More
import KE.LtData
import HandS.DictComp
import KE.SortKeyHeap
import HandS.SortKw
import HandS.OwnEq
import HandS.Conv
import HandS.TupAny
import PySem.Challenge.RW_spoorfold_k18_words_lead_from_places
import HandS.ExcInit
import HandS.ExcField
import HandS.WordsExc
import HandS.ExcOwn
import HandS.FStr
import HandS.RaiseMore
import KE.DataFind
import KE.KTryMore
import HandS.TryOnly
import HandS.HotCalls
import HandS.ExcIs
import KE.KExcInit
import KE.KExcIs
import KE.KExcLine
set_option Elab.async false
set_option linter.all false
set_option maxRecDepth 100000
set_option maxHeartbeats 4000000
namespace Sf
open PySem PySem.Spec PyProof.Rows L2
/-! the text of the law by places -/
def topS (i : Nat) : Stmt := PySem.Challenge.pw_spoorfold_k18_words_lead_from_places.main.body.getD i (.Pass ⟨0, 0, 0, 0⟩)
abbrev s__wall : Stmt := topS 0
abbrev s_SpoorError___init__ : Stmt := inClass (topS 2) 0
abbrev s_BadWord___init__ : Stmt := inClass (topS 3) 0
abbrev s_BadWorld___init__ : Stmt := inClass (topS 4) 0
abbrev s_Lacking___init__ : Stmt := inClass (topS 5) 0
abbrev s_NoPlace___init__ : Stmt := inClass (topS 6) 0
abbrev s_NoName___init__ : Stmt := inClass (topS 7) 0
abbrev s_is_upto : Stmt := topS 9
abbrev s_is_word : Stmt := topS 14
abbrev s_need_word : Stmt := topS 15
abbrev s_World___init__ : Stmt := inClass (topS 18) 0
abbrev s_World_moves : Stmt := inClass (topS 18) 1
abbrev s_World_letters : Stmt := inClass (topS 18) 2
abbrev s_World_go : Stmt := inClass (topS 18) 3
abbrev s_World_motion : Stmt := inClass (topS 18) 4
abbrev s_World_seen : Stmt := inClass (topS 18) 5
abbrev s_World_ways : Stmt := inClass (topS 18) 6
abbrev s_World_is_whole : Stmt := inClass (topS 18) 7
abbrev s_World_widened : Stmt := inClass (topS 18) 8
abbrev s_World_breaks : Stmt := inClass (topS 18) 9
abbrev s_World___eq__ : Stmt := inClass (topS 18) 10
abbrev s_World___len__ : Stmt := inClass (topS 18) 11
abbrev s_World___repr__ : Stmt := inClass (topS 18) 12
abbrev s_World_need_place : Stmt := inClass (topS 18) 13
abbrev s_World_led : Stmt := inClass (topS 18) 14
abbrev s_World_come_to : Stmt := inClass (topS 18) 15
abbrev s_leads_by : Stmt := topS 19
abbrev s_is_move : Stmt := topS 20
abbrev s__law_begin : Stmt := topS 22
abbrev s__law_pull : Stmt := topS 23
abbrev s__law_world : Stmt := topS 24
abbrev s__law_sign : Stmt := topS 25
abbrev s__law_flip : Stmt := topS 26
abbrev s__law_word : Stmt := topS 27
abbrev s__law_led : Stmt := topS 28
abbrev s__law_same : Stmt := topS 29
abbrev s__law_motion : Stmt := topS 30
abbrev s__law_gone : Stmt := topS 31
abbrev s_law : Stmt := topS 32
end Sf
namespace Sf
open PySem PySem.Spec PyProof.Rows L2 TL
/-! ### helpers of heaps and blocks -/
theorem same_upd {H : Hp} {p : Addr} {o : HO} (h : H p = none) : Same H (upd H p o) := fun b x e => by
  rw [upd_ne (ne_of_none e h)]
  exact e
/-- all but what stands at b stands -/
def Fx (b : Addr) (H H' : Hp) : Prop := ∀ a o, H a = some o → a ≠ b → H' a = some o
theorem Fx.refl {b : Addr} {H : Hp} : Fx b H H := fun _ _ h _ => h
theorem Fx.of {b : Addr} {H H' : Hp} (h : Same H H') : Fx b H H' := fun a o e _ => h a o e
theorem Fx.trans {b : Addr} {H H1 H2 : Hp} (h : Fx b H H1) (k : Fx b H1 H2) : Fx b H H2 := fun a o e n => k a o (h a o e n) n
theorem Fx.same {b : Addr} {H H1 H2 : Hp} (h : Fx b H H1) (k : Same H1 H2) : Fx b H H2 := h.trans (.of k)
theorem Fx.upd {b : Addr} {H H1 : Hp} {o : HO} (h : Fx b H H1) : Fx b H (upd H1 b o) := fun a u e n => by
  rw [upd_ne n]
  exact h a u e n
theorem Fx.new {b p : Addr} {H H1 : Hp} {o : HO} (h : Fx b H H1) (n : H1 p = none) : Fx b H (L2.upd H1 p o) := h.same (same_upd n)
theorem Fx.seq {b a : Addr} {H H1 : Hp} {xs : List V} {K : PySem.W.Frag} (h : Fx b H H1) (n : a ≠ b) (s : SqL K H a xs) : SqL K H1 a xs := by
  rcases s with (s | ⟨o, s⟩) | s
  · exact .inl (.inl (h _ _ s n))
  · exact .inl (.inr ⟨o, h _ _ s n⟩)
  · exact .inr s
theorem seq_by {X : Cx} {st : Stmt} {rest : List Stmt} {D : Ends} {σ : L2.St} {H : Hp} (J : L2.St → Hp → Prop) (hr : ∃ u, PSs X rest u ∧ ∀ σ' H', J σ' H' → u D σ' H')
    (hs : ∀ u : TS, (∀ σ' H', J σ' H' → u D σ' H') → ∃ t, PS X st t ∧ t { D with nx := u D } σ H) : ∃ t, PSs X (st :: rest) t ∧ t D σ H := by
  obtain ⟨u, hu, k⟩ := hr
  obtain ⟨t, ht, h⟩ := hs u k
  exact ⟨tSeq t u, pss_cons ht hu, h⟩
theorem line_of {n : Nat} (h : n ≤ 100000) : n ≤ sizeLine := Nat.le_trans h (by decide)
theorem lineLt_of {n : Nat} (h : n ≤ 100000) : n < sizeLine := Nat.lt_of_le_of_lt h (by decide)
/-! ### the bag of the laws: its list at l, three numbers -/
structure BagL (H : Hp) (b l : Addr) (ns : List Int) (k z r : Int) : Prop where
  hb : H b = some (.lst [.ref l, .int k, .int z, .int r])
  hl : H l = some (.lst (ns.map V.int))
  k0 : 0 ≤ k
  z0 : 0 ≤ z
  r0 : 0 ≤ r
  r1 : r < 2147483647
def Bag (H : Hp) (b l : Addr) : Prop := ∃ (ns : List Int) (k z r : Int), BagL H b l ns k z r
theorem bag_ne {l : Addr} {ns : List Int} {vs : List V} : HO.lst (.ref l :: vs) ≠ HO.lst (ns.map V.int) := fun e => by
  cases ns with
  | nil => cases e
  | cons x r => cases e
theorem BagL.ne {H : Hp} {b l : Addr} {ns : List Int} {k z r : Int} (h : BagL H b l ns k z r) : l ≠ b := fun e => by
  have h1 := h.hb
  have h2 := h.hl
  rw [e, h1] at h2
  exact bag_ne (Option.some.inj h2)
theorem BagL.set {H : Hp} {b l : Addr} {ns : List Int} {k z r k' z' r' : Int} (h : BagL H b l ns k z r) (hk : 0 ≤ k') (hz : 0 ≤ z') (h0 : 0 ≤ r') (h1 : r' < 2147483647) :
    BagL (upd H b (.lst [.ref l, .int k', .int z', .int r'])) b l ns k' z' r' :=
  ⟨upd_same, by rw [upd_ne h.ne]; exact h.hl, hk, hz, h0, h1⟩
theorem Bag.same {H H' : Hp} {b l : Addr} (s : Same H H') : Bag H b l → Bag H' b l
  | ⟨ns, k, z, r, h⟩ => ⟨ns, k, z, r, s _ _ h.hb, s _ _ h.hl, h.k0, h.z0, h.r0, h.r1⟩
theorem Bag.new {H : Hp} {b l p : Addr} {o : HO} (h : Bag H b l) (n : H p = none) : Bag (upd H p o) b l := h.same (same_upd n)
theorem Bag.ne {H : Hp} {b l p : Addr} (h : Bag H b l) (n : H p = none) : p ≠ b := fun e => by
  obtain ⟨ns, k, z, r, h⟩ := h
  rw [e, h.hb] at n
  cases n
theorem Bag.neL {H : Hp} {b l p : Addr} (h : Bag H b l) (n : H p = none) : p ≠ l := fun e => by
  obtain ⟨ns, k, z, r, h⟩ := h
  rw [e, h.hl] at n
  cases n
theorem len_eq {α : Type} {xs : List α} {n : Nat} (h : xs.length = n) : ((xs.length : Nat) : Int) = (n : Int) := by rw [h]
theorem int_at {ns : List Int} {k : Int} (h0 : 0 ≤ k) (h1 : k < ((ns.map V.int).length : Nat)) : ∃ v : Int, atI (ns.map V.int) k = some (.int v) := by
  rw [List.length_map] at h1
  refine ⟨ns[k.toNat]'(by omega), at_of (j := k.toNat) (by omega) ?_⟩
  rw [List.getElem?_map, List.getElem?_eq_getElem (by omega)]
  rfl
end Sf
namespace Sf
open PySem PySem.Spec PyProof.Rows L2 TL
/-! ### what stands at the top: a def of the text; a def that keeps a promise; a constant; built-in names -/
def FnAt (K : PySem.W.Frag) (mg : Str → Option Value) (x : Str) (st : Stmt) (ps : List Str) : Prop := ∃ (f : Addr) (fd : FuncData), mg x = some (.ref f) ∧ Fun K x x st f fd ∧ Binds K fd ps []
def Has (P : Program) (w : World) (K : PySem.W.Frag) (mg : Str → Option Value) (base : Heap) (k : Nat) (x : Str) (ps : List Str) (sp : Sp) : Prop :=
  ∃ (f : Addr) (fd : FuncData), mg x = some (.ref f) ∧ PySem.W.keepIn K (.ref f) = true ∧ Binds K fd ps [] ∧ FnOk P w K mg base CX0 k f fd ps sp
theorem FnAt.has {P : Program} {w : World} {K : PySem.W.Frag} {mg : Str → Option Value} {base : Heap} {k : Nat} {x : Str} {st : Stmt} {ps : List Str} {sp : Sp} (h : FnAt K mg x st ps)
    (ok : ∀ {f : Addr} {fd : FuncData}, Fun K x x st f fd → FnOk P w K mg base CX0 k f fd ps sp) : Has P w K mg base k x ps sp := by
  obtain ⟨f, fd, g, F, b⟩ := h
  exact ⟨f, fd, g, F.kp, b, ok F⟩
theorem fnAt_mk {K : PySem.W.Frag} {h : Heap} {mg : Str → Option Value} {x : Str} {st : Stmt} {ps : List Str} {f : Addr} {oc : Value} {od an : Option Addr} {osl : Array (Option Value)} {kV doc pm cdv ct : Value} (X : K.In h) (G : h.Ns mainGlobals mg)
    (a : PySem.W.nsIn K mainGlobals x = some (some (.ref f))) (l : K.lookup f = some ⟨oc, od, .func (PySem.W.fnOf x x (defArgs st) (defBody st) (defScope st) .none kV doc pm an cdv ct), osl⟩)
    (c : PySem.W.codeIn K cdv x = true) (k : PySem.W.keepIn K (.ref f) = true)
    (b : ∀ (kV doc pm : Value) (an : Option Addr) (cdv ct : Value) (us : List Value), us.length = ps.length → bindArgs (PySem.W.fnOf x x (defArgs st) (defBody st) (defScope st) .none kV doc pm an cdv ct) ⟨us, []⟩ = pure (ps.zip us)) : FnAt K mg x st ps :=
  ⟨f, _, PySem.W.mg_of X G a, fun_mk l c k, (fun_mk l c k).binds b⟩
structure Blt (mg : Str → Option Value) : Prop where
  len : mg "len" = none
  range : mg "range" = none
  isinstance : mg "isinstance" = none
  list : mg "list" = none
  tuple : mg "tuple" = none
  bool : mg "bool" = none
  int : mg "int" = none
  str : mg "str" = none
  all : mg "all" = none
  zip : mg "zip" = none
  min : mg "min" = none
  sorted : mg "sorted" = none
theorem lc_gen {J : It} {n : Nat} {g : TG} {tt : TT} {te : TE} {vs : List Nat} {σ : L2.St} {H1 : Hp} {D : Addr} {Qd : Hp → Prop} (Pv : Nat → Hp → Prop) (h0 : Pv 0 (upd H1 D (.lst [])))
    (hgo : ∀ i H, i < n → Pv i H → J.go i H) (hst : ∀ H, Pv n H → J.stop n H)
    (hs : ∀ i x H H', i < n → Pv i H → J.yld i H x H' → g x (wipe σ vs) H' fun σ2 H2 => wipe σ2 vs = wipe σ vs ∧ tt σ2 H2 fun b H3 =>
      if b = true then te σ2 H3 fun y H4 => ∃ acc, H4 D = some (.lst acc) ∧ acc.length < sizeLine ∧ Pv (i + 1) (upd H4 D (.lst (acc ++ [y]))) else Pv (i + 1) H3) (hd : ∀ H, Pv n H → Qd H) :
    ∃ W : Nat → Nat → Hp → Prop, (∃ m, W 0 m (upd H1 D (.lst []))) ∧ ∀ i m H, W i m H →
      (J.stop i H ∧ Qd H) ∨ (J.go i H ∧ ∃ Nx : Hp → Prop, (∀ H', Nx H' → ∃ m', m' < m ∧ W (i + 1) m' H') ∧ ∀ x H', J.yld i H x H' → g x (wipe σ vs) H' fun σ2 H2 => wipe σ2 vs = wipe σ vs ∧ tt σ2 H2 fun b H3 =>
        if b = true then te σ2 H3 fun y H4 => ∃ acc, H4 D = some (.lst acc) ∧ acc.length < sizeLine ∧ Nx (upd H4 D (.lst (acc ++ [y]))) else Nx H3) := by
  refine ⟨fun i m H => m = n - i ∧ i ≤ n ∧ Pv i H, ⟨n, rfl, Nat.zero_le _, h0⟩, ?_⟩
  rintro i m H ⟨rfl, hi, p⟩
  by_cases hlt : i < n
  · exact .inr ⟨hgo i H hlt p, Pv (i + 1), fun H' p' => ⟨n - (i + 1), by omega, rfl, hlt, p'⟩, fun x H' y => hs i x H H' hlt p y⟩
  · have e : i = n := by omega
    subst e
    exact .inl ⟨hst H p, hd H p⟩
theorem for_gen {J : It} {n : Nat} {g : TG} {tb : TS} {D : Ends} {σ : L2.St} {H : Hp} (Pv : Nat → L2.St → Hp → Prop) (h0 : Pv 0 σ H) (hgo : ∀ i σ H, i < n → Pv i σ H → J.go i H) (hst : ∀ σ H, Pv n σ H → J.stop n H)
    (hs : ∀ i x σ H H', i < n → Pv i σ H → J.yld i H x H' → g x σ H' fun σ2 H2 => tb { D with nx := Pv (i + 1), ct := Pv (i + 1), bk := D.nx } σ2 H2) (hd : ∀ σ H, Pv n σ H → D.nx σ H) :
    ∃ W : Nat → Nat → L2.St → Hp → Prop, (∃ m, W 0 m σ H) ∧ ∀ i m σ H, W i m σ H →
      (J.stop i H ∧ D.nx σ H) ∨ (J.go i H ∧ ∃ N : L2.St → Hp → Prop, (∀ σ' H', N σ' H' → ∃ m', m' < m ∧ W (i + 1) m' σ' H') ∧ ∀ x H', J.yld i H x H' → g x σ H' fun σ2 H2 => tb { D with nx := N, ct := N, bk := D.nx } σ2 H2) := by
  refine ⟨fun i m σ H => m = n - i ∧ i ≤ n ∧ Pv i σ H, ⟨n, rfl, Nat.zero_le _, h0⟩, ?_⟩
  rintro i m σ H ⟨rfl, hi, p⟩
  by_cases hlt : i < n
  · exact .inr ⟨hgo i σ H hlt p, Pv (i + 1), fun σ' H' p' => ⟨n - (i + 1), by omega, rfl, hlt, p'⟩, fun x H' y => hs i x σ H H' hlt p y⟩
  · have e : i = n := by omega
    subst e
    exact .inl ⟨hst σ H p, hd σ H p⟩
theorem yes_if {σ : L2.St} {H : Hp} {A B : Hp → Prop} (h : A H) : tYes σ H (fun b H3 => if b = true then A H3 else B H3) := by
  show if true = true then A H else B H
  exact iteT h
/-! ### signs and words -/
def sgn (c : Nat) : Bool := (decide (97 ≤ c) && decide (c ≤ 104)) || (decide (65 ≤ c) && decide (c ≤ 72))
theorem sgn_iff {c : Nat} : sgn c = true ↔ (97 ≤ c ∧ c ≤ 104) ∨ (65 ≤ c ∧ c ≤ 72) := by
  unfold sgn
  simp only [Bool.or_eq_true, Bool.and_eq_true, decide_eq_true_eq]
def flipC (c : Nat) : Nat := if 97 ≤ c then c - 32 else c + 32
def Wd (x : Str) : Prop := ∀ c ∈ tl x, sgn c = true
abbrev one (c : Nat) : Str := ⟨#[c]⟩
theorem tl_one (c : Nat) : tl (one c) = [c] := rfl
theorem len_one (c : Nat) : (one c).length = 1 := rfl
theorem len_app (x y : Str) : (x ++ y).length = x.length + y.length := by
  rw [len_tl, len_tl, len_tl, tl_append, List.length_append]
theorem Wd.app {x y : Str} (hx : Wd x) (hy : Wd y) : Wd (x ++ y) := fun c hc => by
  rw [tl_append, List.mem_append] at hc
  exact hc.elim (hx c) (hy c)
theorem wd_one {c : Nat} (h : sgn c = true) : Wd (one c) := fun d hd => by
  rw [tl_one, List.mem_singleton] at hd
  rw [hd]
  exact h
theorem tl_small : (Str.ofString "abcdefgh").cps.toList = [97, 98, 99, 100, 101, 102, 103, 104] := by decide +kernel
theorem tl_great : (Str.ofString "ABCDEFGH").cps.toList = [65, 66, 67, 68, 69, 70, 71, 72] := by decide +kernel
theorem tl_signs : (Str.ofString "aAbBcCdDeEfFgGhH").cps.toList = [97, 65, 98, 66, 99, 67, 100, 68, 101, 69, 102, 70, 103, 71, 104, 72] := by decide +kernel
theorem in_small {c : Nat} : (c ∈ (Str.ofString "abcdefgh").cps.toList) ↔ (97 ≤ c ∧ c ≤ 104) := by
  rw [tl_small]
  simp only [List.mem_cons, List.not_mem_nil, or_false]
  omega
theorem in_signs {c : Nat} : (c ∈ (Str.ofString "aAbBcCdDeEfFgGhH").cps.toList) ↔ sgn c = true := by
  rw [tl_signs, sgn_iff]
  simp only [List.mem_cons, List.not_mem_nil, or_false]
  omega
theorem upper_one {c : Nat} (h : 97 ≤ c ∧ c ≤ 104) : Txt.upper (one c) = one (c - 32) := by
  have : c = 97 ∨ c = 98 ∨ c = 99 ∨ c = 100 ∨ c = 101 ∨ c = 102 ∨ c = 103 ∨ c = 104 := by omega
  rcases this with rfl | rfl | rfl | rfl | rfl | rfl | rfl | rfl <;> decide +kernel
theorem lower_one {c : Nat} (h : 65 ≤ c ∧ c ≤ 72) : Txt.lower (one c) = one (c + 32) := by
  have : c = 65 ∨ c = 66 ∨ c = 67 ∨ c = 68 ∨ c = 69 ∨ c = 70 ∨ c = 71 ∨ c = 72 := by omega
  rcases this with rfl | rfl | rfl | rfl | rfl | rfl | rfl | rfl <;> decide +kernel
theorem flip_sgn {c : Nat} (h : sgn c = true) : sgn (flipC c) = true := by
  rw [sgn_iff] at h ⊢
  unfold flipC
  split <;> omega
theorem at_small {e : Int} (h0 : 0 ≤ e) (h1 : e < 8) : atI (Str.ofString "abcdefgh").cps.toList e = some (97 + e.toNat) := by
  have : e = 0 ∨ e = 1 ∨ e = 2 ∨ e = 3 ∨ e = 4 ∨ e = 5 ∨ e = 6 ∨ e = 7 := by omega
  rw [tl_small]
  rcases this with rfl | rfl | rfl | rfl | rfl | rfl | rfl | rfl <;> rfl
theorem at_great {e : Int} (h0 : 0 ≤ e) (h1 : e < 8) : atI (Str.ofString "ABCDEFGH").cps.toList e = some (65 + e.toNat) := by
  have : e = 0 ∨ e = 1 ∨ e = 2 ∨ e = 3 ∨ e = 4 ∨ e = 5 ∨ e = 6 ∨ e = 7 := by omega
  rw [tl_great]
  rcases this with rfl | rfl | rfl | rfl | rfl | rfl | rfl | rfl <;> rfl
theorem at_end {x : List Nat} (h : x ≠ []) : ∃ c, atI x (-1) = some c ∧ c ∈ x := by
  refine ⟨x.getLast h, ?_, List.getLast_mem h⟩
  have e := atI_last x.dropLast (x.getLast h)
  rw [List.dropLast_concat_getLast h] at e
  exact e
theorem str_ne {x : Str} (h : ¬ V.str x = V.str "") : tl x ≠ [] := fun e => h (by
  have : x = "" := ext_tl (by rw [e]; decide +kernel)
  rw [this])
theorem wd_nil : Wd "" := fun c hc => by
  have e : tl "" = [] := by decide +kernel
  rw [e] at hc
  cases hc
/-! ### two values of the same data -/
def flat4 : V → Bool
  | .non => true
  | .bl _ => true
  | .int _ => true
  | .str _ => true
  | _ => false
def Eqv (H : Hp) : Nat → V → V → Prop
  | 0, x, y => flat4 x = true ∧ x = y
  | n + 1, x, y => (flat4 x = true ∧ x = y) ∨ ∃ (p q : Addr) (xs ys : List V), x = .ref p ∧ y = .ref q ∧ ((H p = some (.lst xs) ∧ H q = some (.lst ys)) ∨ (H p = some (.tup xs) ∧ H q = some (.tup ys))) ∧
      xs.length = ys.length ∧ xs.length ≤ 100000 ∧ ∀ (i : Nat) (x y : V), xs[i]? = some x → ys[i]? = some y → Eqv H n x y
theorem Eqv.same {H H' : Hp} (s : Same H H') : ∀ {n : Nat} {x y : V}, Eqv H n x y → Eqv H' n x y
  | 0, _, _, h => h
  | _ + 1, _, _, .inl h => .inl h
  | _ + 1, _, _, .inr ⟨p, q, xs, ys, ex, ey, hp, hl, hz, k⟩ => .inr ⟨p, q, xs, ys, ex, ey, hp.elim (fun h => .inl ⟨s _ _ h.1, s _ _ h.2⟩) (fun h => .inr ⟨s _ _ h.1, s _ _ h.2⟩), hl, hz, fun i x y hx hy => Eqv.same s (k i x y hx hy)⟩
theorem Eqv.flat {H : Hp} {n : Nat} {x : V} (h : flat4 x = true) : Eqv H n x x := by
  cases n with
  | zero => exact ⟨h, rfl⟩
  | succ n => exact .inl ⟨h, rfl⟩
theorem flat_kit {K : PySem.W.Frag} {H : Hp} {x : V} (h : flat4 x = true) : ∃ (T : String) (b1 b2 b3 : Bool), TyX K H x (.type T) ∧ kitB T "list" = some false ∧ kitB T "tuple" = some false ∧ kitB T "bool" = some b1 ∧ kitB T "int" = some b2 ∧ kitB T "str" = some b3 := by
  cases x with
  | non => exact ⟨"NoneType", false, false, false, .base .non, by decide +kernel, by decide +kernel, by decide +kernel, by decide +kernel, by decide +kernel⟩
  | bl b => exact ⟨"bool", true, true, false, .base (.bl b), by decide +kernel, by decide +kernel, by decide +kernel, by decide +kernel, by decide +kernel⟩
  | int b => exact ⟨"int", false, true, false, .base (.int b), by decide +kernel, by decide +kernel, by decide +kernel, by decide +kernel, by decide +kernel⟩
  | str b => exact ⟨"str", false, false, true, .base (.str b), by decide +kernel, by decide +kernel, by decide +kernel, by decide +kernel, by decide +kernel⟩
  | byt b => cases h
  | flt b => cases h
  | ref b => cases h
  | ty b => cases h
theorem TyX.same {K : PySem.W.Frag} {H H' : Hp} {x : V} {T : String} (s : Same H H') (f : flat4 x = true) (h : TyX K H x (.type T)) : TyX K H' x (.type T) := by
  cases x with
  | non => cases h with | base h => cases h with | non => exact .base .non
  | bl b => cases h with | base h => cases h with | bl => exact .base (.bl b)
  | int b => cases h with | base h => cases h with | int => exact .base (.int b)
  | str b => cases h with | base h => cases h with | str => exact .base (.str b)
  | byt b => cases f
  | flt b => cases f
  | ref b => cases f
  | ty b => cases f
theorem kit2 {K : PySem.W.Frag} {T : String} (h1 : kitB T "list" = some false) (h2 : kitB T "tuple" = some false) : PySem.W.kitAny K (.type T) [.type "list", .type "tuple"] = some false :=
  kitAny_cons (kit_ty h1) (fun _ => kitAny_cons (kit_ty h2) (fun _ => kitAny_nil) (fun q => nomatch q)) (fun q => nomatch q)
theorem scal_flat {x : V} (h : flat4 x = true) : scal x x = true := by
  cases x <;> first | rfl | cases h
theorem ne_bl (b : Bool) : (!decide (V.bl b = V.bl b)) = false := by simp
end Sf
namespace Sf
open PySem PySem.Spec PyProof.Rows L2 TL
/-! ### blocks by what holds ahead and behind -/
def Stp {ι : Type} (X : Cx) (st : Stmt) (pre post : ι → L2.St → Hp → Prop) : Prop := ∃ t, PS X st t ∧ ∀ (i : ι) (D : Ends) (σ : L2.St) (H : Hp), pre i σ H → (∀ σ' H', post i σ' H' → D.nx σ' H') → t D σ H
def Blk {ι : Type} (X : Cx) (sts : List Stmt) (pre post : ι → L2.St → Hp → Prop) : Prop := ∃ t, PSs X sts t ∧ ∀ (i : ι) (D : Ends) (σ : L2.St) (H : Hp), pre i σ H → (∀ σ' H', post i σ' H' → D.nx σ' H') → t D σ H
theorem Blk.cons {ι : Type} {X : Cx} {st : Stmt} {rest : List Stmt} {pre post : ι → L2.St → Hp → Prop} (mid : ι → L2.St → Hp → Prop) (a : Stp X st pre mid) (b : Blk X rest mid post) : Blk X (st :: rest) pre post := by
  obtain ⟨t, ht, h⟩ := a
  obtain ⟨u, hu, k⟩ := b
  exact ⟨tSeq t u, pss_cons ht hu, fun i D σ H hp hq => h i _ σ H hp fun σ' H' hm => k i D σ' H' hm hq⟩
theorem Blk.one {ι : Type} {X : Cx} {st : Stmt} {pre post : ι → L2.St → Hp → Prop} (a : Stp X st pre post) : Blk X [st] pre post := by
  obtain ⟨t, ht, h⟩ := a
  exact ⟨t, pss_one ht, h⟩
/-- the same within a block -/
theorem Stp.rng {ι : Type} {X : Cx} {tg iter : Expr} {body : List Stmt} {pos : Pos} {wi : TI} {k : Nat} {pre post : ι → L2.St → Hp → Prop} (Pv : ι → Nat → Nat → L2.St → Hp → Prop) (hp : PassesOwn (model X.prog X.w) X.A X.env X.xe) (hc : X.calm = true) (hi : PI X tg iter wi) (hg : PG X tg (gName k))
    (hk : ∀ (j : ι) (σ : L2.St) (H : Hp) (R : It → Hp → Prop), pre j σ H → (∀ n H1, Pv j n 0 σ H1 → R (Itr 0 n) H1) → wi σ H R)
    (hb : Blk (ι := ι × Nat × Nat) X body (fun i σ H => i.2.2 < i.2.1 ∧ ∃ σ0, Pv i.1 i.2.1 i.2.2 σ0 H ∧ σ = σ0.set k (some (.int (0 + (i.2.2 : Int))))) (fun i σ H => Pv i.1 i.2.1 (i.2.2 + 1) σ H))
    (hr : ∀ j n σ H, Pv j n n σ H → post j σ H) (hs : ∀ x, foldedSetIterable iter X.env x = pure x := by intro _; rfl) : Stp X (.For tg iter body [] pos) pre post := by
  obtain ⟨tb, hb, kb⟩ := hb
  refine ⟨_, ps_for hp hc hi hg hb hs, fun j D σ H h0 hq => ?_⟩
  refine hk j σ H _ h0 fun n H1 h0 => ?_
  exact for_range (lo := 0) (n := n) (Pv j n) h0 (fun i σ1 H2 hlt hv => kb (j, n, i) _ _ _ ⟨hlt, σ1, hv, rfl⟩ fun σ' H' h => h) (fun σ1 H2 hv => hq σ1 H2 (hr j n σ1 H2 hv))
/-- the rest of a def's body -/
def Tl (X : Cx) (sts : List Stmt) (D : Ends) (J : L2.St → Hp → Prop) : Prop := ∃ u, PSs X sts u ∧ ∀ σ H, J σ H → u D σ H
theorem Tl.start {X : Cx} {sts : List Stmt} {D : Ends} {σ : L2.St} {H : Hp} (h : Tl X sts D (fun σ' H' => σ' = σ ∧ H' = H)) : ∃ t, PSs X sts t ∧ t D σ H := by
  obtain ⟨u, hu, k⟩ := h
  exact ⟨u, hu, k σ H ⟨rfl, rfl⟩⟩
theorem Tl.cons {X : Cx} {st : Stmt} {rest : List Stmt} {D : Ends} {J : L2.St → Hp → Prop} (mid : L2.St → Hp → Prop) (a : Stp (ι := Unit) X st (fun _ => J) (fun _ => mid)) (b : Tl X rest D mid) : Tl X (st :: rest) D J := by
  obtain ⟨t, ht, h⟩ := a
  obtain ⟨u, hu, k⟩ := b
  exact ⟨tSeq t u, pss_cons ht hu, fun σ H hj => h () _ σ H hj k⟩
end Sf
namespace Sf
open PySem PySem.Spec PyProof.Rows L2 TL
section
variable {P : Program} {w : World} {K : PySem.W.Frag} {mg : Str → Option Value} {base : Heap}
/-! ### _law_pull: some number below many -/
def spPull : Sp := fun vs H Q _ => ∃ (b l : Addr) (n : Int), vs = [.ref b, .int n] ∧ Bag H b l ∧ 0 < n ∧ n < 1073741824 ∧
  ∀ (d : Int) (H' : Hp), 0 ≤ d → d < n → Bag H' b l → Fx b H H' → Q (.int d) H'
theorem sc_pull : FnScope ["_law_bag", "_law_many", "_law_cell", "_law_digit"] ["_law_bag", "_law_many"] (defScope s__law_pull) := ⟨rfl, rfl, rfl, by decide +kernel, rfl, by decide +kernel, by decide +kernel⟩
theorem ok_pull {f : Addr} {fd : FuncData} {j : Nat} (F : Fun K "_law_pull" "_law_pull" s__law_pull f fd) (ml : mg "len" = none) : FnOk P w K mg base CX0 (j + 1) f fd ["_law_bag", "_law_many"] spPull := by
  refine F.ok sc_pull (fun vs H Q E h => ?_) (fun cdv A outer s H vs Q E hr h => ?_)
  · obtain ⟨b, l, n, rfl, _⟩ := h
    rfl
  · obtain ⟨b, l, n, rfl, ⟨ns, k, z, r, hB⟩, hn0, hn1, q⟩ := h
    refine seq_by (fun σ H1 => ∃ (y2 : Option V) (k z r : Int), σ = [some (.ref b), some (.int n), y2, none] ∧ BagL H1 b l ns k z r ∧ Fx b H H1) ?_ ?_
    · refine ⟨_, pss_cons (ps_if (pt_cmpR op_gt (pe_ix ix_list (pv 0) pe_int (fun _ _ => rfl)) pe_int (nomark _))
          (pss_cons (ps_set (i := 3) sc_pull.nd rfl (.inl rfl) (pe_op op_mod (pe_ix ix_list (pv 0) pe_int (fun _ _ => rfl)) (pv 1)))
          (pss_cons (ps_asg (pe_op op_fdiv (pe_ix ix_list (pv 0) pe_int (fun _ _ => rfl)) (pv 1)) (pg_sub (pv 0) pe_int set_list))
          (pss_one (ps_ret (pv 3))))) pss_nil)
        (pss_cons (ps_asg (pe_op op_mod (pe_op op_add (pe_op op_add (pe_op op_mul (pe_op op_mod (pe_op op_mul (pe_ix ix_list (pv 0) pe_int (fun _ _ => rfl)) (pe_ix ix_list (pv 0) pe_int (fun _ _ => rfl))) pe_int) pe_int)
            (pe_op op_mul (pe_ix ix_list (pv 0) pe_int (fun _ _ => rfl)) pe_int)) pe_int) pe_int) (pg_sub (pv 0) pe_int set_list))
        (pss_one (ps_ret (pe_op op_mod (pe_op op_add (pe_op op_fdiv (pe_ix ix_list (pv 0) pe_int (fun _ _ => rfl)) pe_int) (pe_op op_mul (pe_op op_mod (pe_ix ix_list (pv 0) pe_int (fun _ _ => rfl)) pe_int) pe_int)) (pv 1))))), ?_⟩
      rintro σ H1 ⟨y2, k, z, r, rfl, B, fx⟩
      have hS := SqL.of (K := K) B.hb
      have rr0 := B.r0
      have rr1 := B.r1
      have zz0 := B.z0
      refine ⟨_, rfl, b, _, 2, _, rfl, rfl, hS, at_of (j := 2) rfl rfl, z, 0, rfl, rfl, _, rfl, ite2 (fun e => ?_) (fun e => ?_)⟩
      · have zp : 0 < z := of_decide_eq_true e
        refine ⟨_, rfl, b, _, 2, _, rfl, rfl, hS, at_of (j := 2) rfl rfl, _, rfl, z, n, rfl, rfl, hn0, ?_⟩
        refine ⟨_, rfl, b, _, 2, _, rfl, rfl, hS, at_of (j := 2) rfl rfl, _, rfl, z, n, rfl, rfl, ⟨hn0, hn1⟩, ?_⟩
        refine ⟨_, rfl, b, _, 2, 2, rfl, rfl, B.hb, rfl, ?_⟩
        refine ⟨_, rfl, ?_⟩
        refine q _ _ (Int.emod_nonneg _ (by omega)) (Int.emod_lt_of_pos _ hn0) ⟨ns, k, z / n, r, B.set B.k0 (Int.ediv_nonneg B.z0 (by omega)) B.r0 B.r1⟩ fx.upd
      · refine ⟨_, rfl, b, _, 3, _, rfl, rfl, hS, at_of (j := 3) rfl rfl, _, rfl, b, _, 3, _, rfl, rfl, hS, at_of (j := 3) rfl rfl, r, r, rfl, rfl, .inl ⟨by omega, by omega⟩,
          _, 2147483629, rfl, rfl, (by show (0 : Int) < 2147483629; decide), _, 5, rfl, rfl, .inr ⟨by decide, by decide⟩,
          _, rfl, b, _, 3, _, rfl, rfl, hS, at_of (j := 3) rfl rfl, r, 16807, rfl, rfl, .inr ⟨by decide, by decide⟩, _, _, rfl, rfl, _, 2531011, rfl, rfl, _, 2147483647, rfl, rfl, (by show (0 : Int) < 2147483647; decide), ?_⟩
        refine ⟨_, rfl, b, _, 3, 3, rfl, rfl, B.hb, rfl, ?_⟩
        have h0 : 0 ≤ (r * r % 2147483629 * 5 + r * 16807 + 2531011) % 2147483647 := Int.emod_nonneg _ (by decide)
        have h1 : (r * r % 2147483629 * 5 + r * 16807 + 2531011) % 2147483647 < 2147483647 := Int.emod_lt_of_pos _ (by decide)
        have B' : BagL (upd H1 b (.lst [.ref l, .int k, .int z, .int ((r * r % 2147483629 * 5 + r * 16807 + 2531011) % 2147483647)])) b l ns k z ((r * r % 2147483629 * 5 + r * 16807 + 2531011) % 2147483647) := B.set B.k0 B.z0 h0 h1
        have hS' := SqL.of (K := K) B'.hb
        refine ⟨_, rfl, b, _, 3, _, rfl, rfl, hS', at_of (j := 3) rfl rfl, _, 61, rfl, rfl, ⟨by decide, by decide⟩,
          _, rfl, b, _, 3, _, rfl, rfl, hS', at_of (j := 3) rfl rfl, _, 8191, rfl, rfl, (by show (0 : Int) < 8191; decide), _, 31, rfl, rfl, .inr ⟨by decide, by decide⟩, _, _, rfl, rfl, _, rfl, _, n, rfl, rfl, hn0, ?_⟩
        exact q _ _ (Int.emod_nonneg _ (by omega)) (Int.emod_lt_of_pos _ hn0) ⟨ns, k, z, _, B'⟩ fx.upd
    · intro u hu
      have hS := SqL.of (K := K) hB.hb
      have hS2 := SqL.of (K := K) hB.hl
      have rr0 := hB.r0
      have rr1 := hB.r1
      have zz0 := hB.z0
      have kk0 := hB.k0
      refine ⟨_, ps_if (PW.pt (pw_and (pt_cmpR op_eq (pe_ix ix_list (pv 0) pe_int (fun _ _ => rfl)) pe_int (nomark _))
            (pw_and1 (pt_cmpR op_lt (pe_ix ix_list (pv 0) pe_int (fun _ _ => rfl)) (pe_callB call_len_seq (by rfl) ml PySem.boot_len (pa_cons (pe_ix ix_list (pv 0) pe_int (fun _ _ => rfl)) pa_nil)) (nomark _)))))
          (pss_cons (ps_set (i := 2) sc_pull.nd rfl (.inl rfl) (pe_ix ix_list (pe_ix ix_list (pv 0) pe_int (fun _ _ => rfl)) (pe_ix ix_list (pv 0) pe_int (fun _ _ => rfl)) (fun _ _ => rfl)))
          (pss_cons (ps_asg (pe_op op_add (pe_ix ix_list (pv 0) pe_int (fun _ _ => rfl)) pe_int) (pg_sub (pv 0) pe_int set_list))
          (pss_one (ps_if (pt_cmpR op_ge (pv 2) (pe_op op_pow pe_int pe_int) (nomark _))
            (pss_one (ps_asg (pv 2) (pg_sub (pv 0) pe_int set_list)))
            (pss_one (ps_asg (pe_op op_mod (pe_op op_add (pe_op op_add (pe_op op_mul (pe_ix ix_list (pv 0) pe_int (fun _ _ => rfl)) pe_int) (pe_op op_mul (pe_op op_mod (pv 2) pe_int) pe_int)) pe_int) pe_int) (pg_sub (pv 0) pe_int set_list)))))))
          pss_nil, ?_⟩
      refine ⟨_, rfl, b, _, 2, _, rfl, rfl, hS, at_of (j := 2) rfl rfl, rfl, _, rfl, ite2 (fun e => ?_) (fun e => ?_)⟩
      · refine ⟨_, rfl, b, _, 1, _, rfl, rfl, hS, at_of (j := 1) rfl rfl, _, rfl, b, _, 0, _, rfl, rfl, hS, at_of (j := 0) rfl rfl, l, _, rfl, .inl hS2, k, _, rfl, rfl, _, rfl, ite2 (fun e2 => ?_) (fun e2 => ?_)⟩
        · obtain ⟨v, hv⟩ := int_at (ns := ns) kk0 (of_decide_eq_true e2)
          refine ⟨_, rfl, b, _, 0, _, rfl, rfl, hS, at_of (j := 0) rfl rfl, _, rfl, b, _, 1, _, rfl, rfl, hS, at_of (j := 1) rfl rfl, l, _, k, _, rfl, rfl, hS2, hv, ?_⟩
          refine ⟨_, rfl, b, _, 1, _, rfl, rfl, hS, at_of (j := 1) rfl rfl, k, 1, rfl, rfl, _, rfl, b, _, 1, 1, rfl, rfl, hB.hb, rfl, ?_⟩
          have B' : BagL (upd H b (.lst [.ref l, .int (k + 1), .int z, .int r])) b l ns (k + 1) z r := hB.set (by omega) zz0 rr0 rr1
          have hS' := SqL.of (K := K) B'.hb
          refine ⟨_, rfl, 10, 18, rfl, rfl, ⟨by decide, by decide, by decide⟩, v, _, rfl, rfl, _, rfl, ite2 (fun e3 => ?_) (fun e3 => ?_)⟩
          · have hv0 : 0 ≤ v := by
              have := of_decide_eq_true e3
              have h18 : (10 : Int) ^ (18 : Int).toNat = 1000000000000000000 := by decide +kernel
              rw [h18] at this
              omega
            refine ⟨_, rfl, _, rfl, b, _, 2, 2, rfl, rfl, B'.hb, rfl, ?_⟩
            exact hu _ _ ⟨some (.int v), k + 1, v, r, rfl, B'.set B'.k0 hv0 rr0 rr1, Fx.refl.upd.upd⟩
          · refine ⟨_, rfl, b, _, 3, _, rfl, rfl, hS', at_of (j := 3) rfl rfl, r, 48271, rfl, rfl, .inr ⟨by decide, by decide⟩, _, rfl, v, 2147483629, rfl, rfl, (by show (0 : Int) < 2147483629; decide), _, 69621, rfl, rfl, .inr ⟨by decide, by decide⟩,
              _, _, rfl, rfl, _, 12345, rfl, rfl, _, 2147483647, rfl, rfl, (by show (0 : Int) < 2147483647; decide), ?_⟩
            refine ⟨_, rfl, b, _, 3, 3, rfl, rfl, B'.hb, rfl, ?_⟩
            exact hu _ _ ⟨some (.int v), k + 1, z, _, rfl, B'.set B'.k0 B'.z0 (Int.emod_nonneg _ (by decide)) (Int.emod_lt_of_pos _ (by decide)), Fx.refl.upd.upd⟩
        · exact hu _ _ ⟨none, k, z, r, rfl, hB, .refl⟩
      · exact iteF (hu _ _ ⟨none, k, z, r, rfl, hB, .refl⟩)
end
end Sf
namespace Sf
open PySem PySem.Spec PyProof.Rows L2 TL
section
variable {P : Program} {w : World} {K : PySem.W.Frag} {mg : Str → Option Value} {base : Heap}
abbrev HasPull (P : Program) (w : World) (K : PySem.W.Frag) (mg : Str → Option Value) (base : Heap) : Prop := Has P w K mg base 1 "_law_pull" ["_law_bag", "_law_many"] spPull
theorem has_pull (F : FnAt K mg "_law_pull" s__law_pull ["_law_bag", "_law_many"]) (B : Blt mg) : HasPull P w K mg base := F.has fun F => ok_pull F B.len
/-! ### _law_flip -/
def spFlip : Sp := fun vs H Q _ => ∃ c : Nat, vs = [.str (one c)] ∧ sgn c = true ∧ Q (.str (one (flipC c))) H
abbrev HasFlip (P : Program) (w : World) (K : PySem.W.Frag) (mg : Str → Option Value) (base : Heap) : Prop := Has P w K mg base 1 "_law_flip" ["_law_sign_here"] spFlip
theorem sc_flip : FnScope ["_law_sign_here"] ["_law_sign_here"] (defScope s__law_flip) := ⟨rfl, rfl, rfl, by decide +kernel, rfl, by decide +kernel, by decide +kernel⟩
theorem has_flip (F : FnAt K mg "_law_flip" s__law_flip ["_law_sign_here"]) : HasFlip P w K mg base := F.has fun F => by
  refine F.ok sc_flip (fun vs H Q E h => ?_) (fun cdv A outer s H vs Q E hr h => ?_)
  · obtain ⟨c, rfl, _⟩ := h
    rfl
  · obtain ⟨c, rfl, hc, q⟩ := h
    refine ⟨_, pss_one (ps_ret (pe_ifExp (pt_cmpR op_in_sign (pv 0) pe_str rfl) (pe_upper (pv 0)) (pe_lower (pv 0)))), ?_⟩
    refine ⟨_, rfl, c, _, rfl, rfl, _, rfl, ite2 (fun e => ?_) (fun e => ?_)⟩
    · have h := in_small.mp (of_decide_eq_true e)
      refine ⟨_, rfl, ⟨_, rfl⟩, _, rfl, rfl, by rw [len_one]; decide, ?_⟩
      rw [upper_one h]
      rw [flipC, if_pos h.1] at q
      exact q
    · have h : ¬ (97 ≤ c ∧ c ≤ 104) := fun z => e (decide_eq_true (in_small.mpr z))
      rw [sgn_iff] at hc
      refine ⟨_, rfl, ⟨_, rfl⟩, _, rfl, rfl, by rw [len_one]; decide, ?_⟩
      rw [lower_one (by omega)]
      rw [flipC, if_neg (by omega)] at q
      exact q
/-! ### _law_sign -/
def spSign : Sp := fun vs H Q _ => ∃ (b l : Addr) (n : Int), vs = [.ref b, .int n] ∧ Bag H b l ∧ 0 < n ∧ n ≤ 8 ∧
  ∀ (c : Nat) (H' : Hp), sgn c = true → Bag H' b l → Fx b H H' → Q (.str (one c)) H'
abbrev HasSign (P : Program) (w : World) (K : PySem.W.Frag) (mg : Str → Option Value) (base : Heap) : Prop := Has P w K mg base 2 "_law_sign" ["_law_bag", "_law_many"] spSign
theorem sc_sign : FnScope ["_law_bag", "_law_many"] ["_law_bag", "_law_many"] (defScope s__law_sign) := ⟨rfl, rfl, rfl, by decide +kernel, rfl, by decide +kernel, by decide +kernel⟩
theorem has_sign (F : FnAt K mg "_law_sign" s__law_sign ["_law_bag", "_law_many"]) (hP : HasPull P w K mg base) : HasSign P w K mg base := F.has fun F => by
  obtain ⟨fP, fdP, gP, kP, bP, GP⟩ := hP
  refine F.ok sc_sign (fun vs H Q E h => ?_) (fun cdv A outer s H vs Q E hr h => ?_)
  · obtain ⟨b, l, n, rfl, _⟩ := h
    rfl
  · obtain ⟨b, l, n, rfl, hB, hn0, hn1, q⟩ := h
    refine ⟨_, pss_one (ps_ret (pe_ix ix_str (pe_ix ix_list (pe_lst (pa_cons pe_str (pa_cons pe_str pa_nil))) (pe_call GP hr (by rfl) gP kP bP .nil pass0 (pa_cons (pv 0) (pa_cons pe_int pa_nil))) (fun _ _ => rfl))
      (pe_call GP hr (by rfl) gP kP bP .nil pass0 (pa_cons (pv 0) (pa_cons (pv 1) pa_nil))) (fun _ _ => rfl))), ?_⟩
    refine ⟨by decide, fun p np => ?_⟩
    refine ⟨_, rfl, b, l, 2, rfl, hB.new np, by decide, by decide, fun d H1 d0 d1 B1 f1 => ?_⟩
    have hp : H1 p = some (.lst [.str "abcdefgh", .str "ABCDEFGH"]) := f1 _ _ upd_same (hB.ne np)
    have hd : d = 0 ∨ d = 1 := by omega
    rcases hd with rfl | rfl
    · refine ⟨p, _, 0, _, rfl, rfl, SqL.of hp, at_of (j := 0) rfl rfl, ?_⟩
      refine ⟨_, rfl, _, rfl, b, l, n, rfl, B1, hn0, by omega, fun e H2 e0 e1 B2 f2 => ?_⟩
      refine ⟨_, e, _, rfl, rfl, (by decide +kernel), at_small e0 (by omega), ?_⟩
      exact q _ _ (sgn_iff.mpr (by omega)) B2 ((Fx.new .refl np).trans (f1.trans f2))
    · refine ⟨p, _, 1, _, rfl, rfl, SqL.of hp, at_of (j := 1) rfl rfl, ?_⟩
      refine ⟨_, rfl, _, rfl, b, l, n, rfl, B1, hn0, by omega, fun e H2 e0 e1 B2 f2 => ?_⟩
      refine ⟨_, e, _, rfl, rfl, (by decide +kernel), at_great e0 (by omega), ?_⟩
      exact q _ _ (sgn_iff.mpr (by omega)) B2 ((Fx.new .refl np).trans (f1.trans f2))
/-! ### _law_word -/
def spWord : Sp := fun vs H Q _ => ∃ (b l : Addr) (u n : Int), vs = [.ref b, .int u, .int n] ∧ Bag H b l ∧ 0 ≤ u ∧ u ≤ 1000 ∧ 0 < n ∧ n ≤ 8 ∧
  ∀ (x : Str) (H' : Hp), Wd x → x.length ≤ u.toNat → Bag H' b l → Fx b H H' → Q (.str x) H'
abbrev HasWord (P : Program) (w : World) (K : PySem.W.Frag) (mg : Str → Option Value) (base : Heap) : Prop := Has P w K mg base 3 "_law_word" ["_law_bag", "_law_upto", "_law_many"] spWord
theorem sc_word : FnScope ["_law_bag", "_law_upto", "_law_many", "_law_found", "_law_turn", "_law_sign_here"] ["_law_bag", "_law_upto", "_law_many"] (defScope s__law_word) := ⟨rfl, rfl, rfl, by decide +kernel, rfl, by decide +kernel, by decide +kernel⟩
theorem has_word (F : FnAt K mg "_law_word" s__law_word ["_law_bag", "_law_upto", "_law_many"]) (B : Blt mg) (hP : HasPull P w K mg base) (hS : HasSign P w K mg base) (hF : HasFlip P w K mg base) : HasWord P w K mg base := F.has fun F => by
  obtain ⟨fP, fdP, gP, kP, bP, GP⟩ := hP
  obtain ⟨fS, fdS, gS, kS, bS, GS⟩ := hS
  obtain ⟨fF, fdF, gF, kF, bF, GF⟩ := hF
  refine F.ok sc_word (fun vs H Q E h => ?_) (fun cdv A outer s H vs Q E hr h => ?_)
  · obtain ⟨b, l, u, n, rfl, _⟩ := h
    rfl
  · obtain ⟨b, l, u, n, rfl, hB, hu0, hu1, hn0, hn1, q⟩ := h
    have hr1 : Room 1 _ := hr.mono (by decide)
    refine ⟨_, pss_cons (ps_set (i := 3) sc_word.nd rfl (.inl rfl) pe_str)
      (pss_cons (ps_for PassesOwn.never rfl (pi_range1 rfl B.range (pa_cons (pe_call GP hr1 (by rfl) gP kP bP .nil pass0 (pa_cons (pv 0) (pa_cons (pe_op op_add (pv 1) pe_int) pa_nil))) pa_nil)) (pg_name (i := 4) sc_word.nd rfl (.inl rfl))
        (pss_cons (ps_set (i := 5) sc_word.nd rfl (.inl rfl) (pe_call GS hr (by rfl) gS kS bS .nil pass0 (pa_cons (pv 0) (pa_cons (pv 2) pa_nil))))
        (pss_cons (ps_if (PW.pt (pw_and (pt_cmpR op_ne (pv 3) pe_str (nomark _)) (pw_and1 (pt_cmpR op_eq (pe_call GP hr1 (by rfl) gP kP bP .nil pass0 (pa_cons (pv 0) (pa_cons pe_int pa_nil))) pe_int (nomark _)))))
          (pss_one (ps_set (i := 5) sc_word.nd rfl (.inl rfl) (pe_call GF hr1 (by rfl) gF kF bF .nil pass0 (pa_cons (pe_ix ix_str (pv 3) (pe_un un_neg pe_int) (fun _ _ => rfl)) pa_nil)))) pss_nil)
        (pss_one (ps_set (i := 3) sc_word.nd rfl (.inl rfl) (pe_op op_add_str (pv 3) (pv 5)))))))
      (pss_one (ps_ret (pv 3)))), ?_⟩
    refine ⟨_, rfl, _, rfl, u, 1, rfl, rfl, b, l, u + 1, rfl, hB, by omega, by omega, fun d H1 d0 d1 B1 f1 => ?_⟩
    refine ⟨d, rfl, by omega, by omega, for_range (lo := 0) (n := d.toNat) (fun i σ H2 => ∃ (x : Str) (y4 y5 : Option V), σ = [some (.ref b), some (.int u), some (.int n), some (.str x), y4, y5] ∧ Wd x ∧ x.length ≤ i ∧ Bag H2 b l ∧ Fx b H H2)
      ⟨"", none, none, rfl, wd_nil, (by decide +kernel), B1, f1⟩ ?_ ?_⟩
    · rintro i σ H2 hi ⟨x, y4, y5, rfl, hx, hlen, B2, f2⟩
      have hsz : x.length + 1 ≤ sizeLine := Nat.le_trans (Nat.add_le_add_right (Nat.le_trans hlen (by omega : i ≤ 1000)) 1) (by decide)
      refine ⟨_, rfl, _, rfl, b, l, n, rfl, B2, hn0, hn1, fun c H3 hc B3 f3 => ?_⟩
      have fin : ∀ (c : Nat) (H4 : Hp), sgn c = true → Bag H4 b l → Fx b H H4 → ∃ (x' : Str) (y4 y5 : Option V), [some (V.ref b), some (.int u), some (.int n), some (.str (x ++ one c)), some (.int (0 + i)), some (.str (one c))] = [some (.ref b), some (.int u), some (.int n), some (.str x'), y4, y5] ∧ Wd x' ∧ x'.length ≤ i + 1 ∧ Bag H4 b l ∧ Fx b H H4 :=
        fun c H4 hc B4 f4 => ⟨_, _, _, rfl, hx.app (wd_one hc), by rw [len_app, len_one]; omega, B4, f4⟩
      refine ⟨_, rfl, rfl, _, rfl, ite2 (fun e => ?_) (fun e => ?_)⟩
      · refine ⟨_, rfl, b, l, 4, rfl, B3, by decide, by decide, fun d2 H4 _ _ B4 f4 => ?_⟩
        refine ⟨rfl, _, rfl, ite2 (fun e2 => ?_) (fun e2 => ?_)⟩
        · have hne : tl x ≠ [] := str_ne fun z => by
            rw [z] at e
            simp at e
          obtain ⟨c2, hc2, hm⟩ := at_end hne
          refine ⟨_, rfl, 1, rfl, x, _, c2, rfl, rfl, by omega, hc2, c2, rfl, hx c2 hm, ?_⟩
          exact ⟨_, rfl, _, rfl, x, _, rfl, rfl, hsz, fin _ _ (flip_sgn (hx c2 hm)) B4 (f2.trans (f3.trans f4))⟩
        · exact ⟨_, rfl, _, rfl, x, _, rfl, rfl, hsz, fin _ _ hc B4 (f2.trans (f3.trans f4))⟩
      · exact iteF ⟨_, rfl, _, rfl, x, _, rfl, rfl, hsz, fin _ _ hc B3 (f2.trans f3)⟩
    · rintro σ H2 ⟨x, y4, y5, rfl, hx, hlen, B2, f2⟩
      exact ⟨_, rfl, q x H2 hx (by omega) B2 f2⟩
end
end Sf
namespace Sf
open PySem PySem.Spec PyProof.Rows L2 TL
section
variable {P : Program} {w : World} {K : PySem.W.Frag} {mg : Str → Option Value} {base : Heap}
/-! ### _law_begin -/
def spBegin (K : PySem.W.Frag) : Sp := fun vs H Q _ => ∃ (a : Addr) (ns : List Int), vs = [.ref a] ∧ SqL K H a (ns.map V.int) ∧ ∀ (b l : Addr) (H' : Hp), H b = none → Bag H' b l → Same H H' → Q (.ref b) H'
abbrev HasBegin (P : Program) (w : World) (K : PySem.W.Frag) (mg : Str → Option Value) (base : Heap) : Prop := Has P w K mg base 1 "_law_begin" ["_law_script"] (spBegin K)
theorem sc_begin : FnScope ["_law_script", "_law_salt", "_law_cell"] ["_law_script"] (defScope s__law_begin) := ⟨rfl, rfl, rfl, by decide +kernel, rfl, by decide +kernel, by decide +kernel⟩
theorem cut_ints (ns : List Int) (lo hi : Option Int) : ∃ ms : List Int, cutV (ns.map V.int) lo hi = ms.map V.int := by
  refine ⟨(ns.drop (HT.sIx (ns.map V.int).length 0 lo)).take (HT.sIx (ns.map V.int).length (ns.map V.int).length hi - HT.sIx (ns.map V.int).length 0 lo), ?_⟩
  unfold cutV
  rw [List.map_take, List.map_drop]
theorem has_begin (F : FnAt K mg "_law_begin" s__law_begin ["_law_script"]) (B : Blt mg) : HasBegin P w K mg base := F.has fun F => by
  refine F.ok sc_begin (fun vs H Q E h => ?_) (fun cdv A outer s H vs Q E hr h => ?_)
  · obtain ⟨a, ns, rfl, _⟩ := h
    rfl
  · obtain ⟨a, ns, rfl, hS, q⟩ := h
    refine ⟨_, pss_cons (ps_set (i := 1) sc_begin.nd rfl (.inl rfl) pe_int)
      (pss_cons (ps_for PassesOwn.never rfl (pi_list (pe_slice sl_list (pv 0) po_none (po_some pe_int))) (pg_name (i := 2) sc_begin.nd rfl (.inl rfl))
        (pss_one (ps_set (i := 1) sc_begin.nd rfl (.inl rfl) (pe_op op_mod (pe_op op_add (pe_op op_add (pe_op op_mul (pv 1) pe_int) (pe_op op_mod (pv 2) pe_int)) pe_int) pe_int))))
      (pss_one (ps_ret (pe_lst (pa_cons (pe_callTy call_list_of (by rfl) B.list (by decide +kernel) (pa_cons (pe_slice sl_list (pv 0) po_none (po_some pe_int)) pa_nil)) (pa_cons pe_int (pa_cons pe_int (pa_cons (pv 1) pa_nil)))))))), ?_⟩
    obtain ⟨ms, em⟩ := cut_ints ns none (some 63)
    refine ⟨_, rfl, 63, rfl, a, _, rfl, hS, fun p np => ?_⟩
    have s1 : Same H (upd H p (.lst (cutV (ns.map V.int) none (some 63)))) := same_upd np
    have hp : SqL K (upd H p (.lst (cutV (ns.map V.int) none (some 63)))) p (ms.map V.int) := SqL.of (by rw [upd_same, em])
    refine ⟨p, rfl, ⟨_, hp⟩, for_list (K := K) (a := p) (xs := ms.map V.int) (fun i σ H2 => ∃ (r : Int) (y : Option V), σ = [some (.ref a), some (.int r), y] ∧ 0 ≤ r ∧ r < 2147483647 ∧ H2 = upd H p (.lst (cutV (ns.map V.int) none (some 63))))
      ⟨977, none, rfl, by decide, by decide, rfl⟩ (fun i σ H2 _ ⟨_, _, _, _, _, e⟩ => by rw [e]; exact hp) ?_ ?_⟩
    · rintro i v σ H2 hi ⟨r, y, rfl, r0, r1, rfl⟩
      obtain ⟨z, rfl⟩ : ∃ z, v = V.int z := by
        rw [List.getElem?_map] at hi
        cases e : ms[i]? with
        | none =>
          rw [e] at hi
          cases hi
        | some z =>
          rw [e] at hi
          exact ⟨z, (Option.some.inj hi).symm⟩
      refine ⟨_, rfl, r, 1009, rfl, rfl, .inr ⟨by decide, by decide⟩, _, rfl, z, 2147483629, rfl, rfl, (by show (0 : Int) < 2147483629; decide), _, _, rfl, rfl, _, 7, rfl, rfl, _, 2147483629, rfl, rfl, (by show (0 : Int) < 2147483629; decide), ?_⟩
      have h0 : 0 ≤ (r * 1009 + z % 2147483629 + 7) % 2147483629 := Int.emod_nonneg _ (by decide)
      have h1 : (r * 1009 + z % 2147483629 + 7) % 2147483629 < 2147483629 := Int.emod_lt_of_pos _ (by decide)
      exact ⟨_, _, rfl, h0, by omega, rfl⟩
    · rintro σ H2 ⟨r, y, rfl, r0, r1, rfl⟩
      refine ⟨_, rfl, 63, rfl, a, _, rfl, s1.seq hS, fun p2 np2 => ?_⟩
      have hp2 : SqL K (upd (upd H p (.lst (cutV (ns.map V.int) none (some 63)))) p2 (.lst (cutV (ns.map V.int) none (some 63)))) p2 (ms.map V.int) := SqL.of (by rw [upd_same, em])
      have s2 := s1.trans (same_upd (o := .lst (cutV (ns.map V.int) none (some 63))) np2)
      refine ⟨p2, _, rfl, .inl hp2, fun l nl => ?_⟩
      have s3 := s2.trans (same_upd (o := .lst (ms.map V.int)) nl)
      refine ⟨_, rfl, (by show 4 ≤ sizeLine; decide), fun b nb => ?_⟩
      have s4 := s3.trans (same_upd (o := .lst [.ref l, .int 0, .int 0, .int r]) nb)
      refine q b l _ (s3.free nb) ⟨ms, 0, 0, r, upd_same, ?_, by decide, by decide, r0, r1⟩ s4
      have nlb : l ≠ b := fun z => by
        rw [← z, upd_same] at nb
        cases nb
      rw [upd_ne nlb, upd_same]
end
end Sf
namespace Sf
open PySem PySem.Spec PyProof.Rows L2 TL
section
variable {P : Program} {w : World} {K : PySem.W.Frag} {mg : Str → Option Value} {base : Heap}
/-! ### _law_same: True of two values of the same data -/
def spSame (n : Nat) : Sp := fun vs H Q _ => ∃ x y : V, vs = [x, y] ∧ Eqv H n x y ∧ ∀ H', Same H H' → Q (.bl true) H'
abbrev HasSame (P : Program) (w : World) (K : PySem.W.Frag) (mg : Str → Option Value) (base : Heap) (n : Nat) : Prop := Has P w K mg base (n + 1) "_law_same" ["_law_found", "_law_due"] (spSame n)
theorem sc_same : FnScope ["_law_found", "_law_due", "_law_one", "_law_other"] ["_law_found", "_law_due"] (defScope s__law_same) := ⟨rfl, rfl, rfl, by decide +kernel, rfl, by decide +kernel, by decide +kernel⟩
theorem all_true (n : Nat) : (List.replicate n true).all id = true := by
  induction n with
  | zero => rfl
  | succ n ih => rw [List.replicate_succ, List.all_cons, ih]; rfl
theorem has_same (F : FnAt K mg "_law_same" s__law_same ["_law_found", "_law_due"]) (B : Blt mg) : ∀ n, HasSame P w K mg base n := by
  intro n
  induction n with
  | zero =>
    refine F.has fun F => ?_
    refine F.ok sc_same (fun vs H Q E h => ?_) (fun cdv A outer s H vs Q E hr h => ?_)
    · obtain ⟨x, y, rfl, _⟩ := h
      rfl
    · obtain ⟨x, y, rfl, ⟨fx, rfl⟩, q⟩ := h
      obtain ⟨T, b1, b2, b3, ty, k1, k2, k3, k4, k5⟩ := flat_kit (K := K) (H := H) fx
      refine ⟨_, pss_cons (ps_if (pt_val (pe_callB call_isiT (by rfl) B.isinstance (by decide +kernel) (pa_cons (pv 1) (pa_cons (pe_tup (pa_cons (pe_bltn (v := .ty "list") (by rfl) B.list (by decide +kernel) rfl) (pa_cons (pe_bltn (v := .ty "tuple") (by rfl) B.tuple (by decide +kernel) rfl) pa_nil))) pa_nil)))) pss_never pss_nil)
        (pss_cons (ps_if (PW.pt (pw_or (pt_cmpR op_isN (pv 1) pe_non (nomark _)) (pw_or1 (pt_cmpR op_isN (pv 0) pe_non (nomark _))))) (pss_one (ps_ret (pe_and (pe_cmpR op_isN (pv 0) pe_non (nomark _)) (pe_one (pe_cmpR op_isN (pv 1) pe_non (nomark _)))))) pss_nil)
        (pss_cons (ps_if (PW.pt (pw_or (pt_cmpR op_ne (pe_callB call_isi (by rfl) B.isinstance (by decide +kernel) (pa_cons (pv 0) (pa_cons (pe_bltn (v := .ty "bool") (by rfl) B.bool (by decide +kernel) rfl) pa_nil))) (pe_callB call_isi (by rfl) B.isinstance (by decide +kernel) (pa_cons (pv 1) (pa_cons (pe_bltn (v := .ty "bool") (by rfl) B.bool (by decide +kernel) rfl) pa_nil))) (nomark _))
            (pw_or1 (pt_cmpR op_ne (pe_callB call_isi (by rfl) B.isinstance (by decide +kernel) (pa_cons (pv 0) (pa_cons (pe_bltn (v := .ty "int") (by rfl) B.int (by decide +kernel) rfl) pa_nil))) (pe_callB call_isi (by rfl) B.isinstance (by decide +kernel) (pa_cons (pv 1) (pa_cons (pe_bltn (v := .ty "int") (by rfl) B.int (by decide +kernel) rfl) pa_nil))) (nomark _))))) pss_never pss_nil)
        (pss_one (ps_ret (pe_and (pe_cmpR op_eq (pe_callB call_isi (by rfl) B.isinstance (by decide +kernel) (pa_cons (pv 0) (pa_cons (pe_bltn (v := .ty "str") (by rfl) B.str (by decide +kernel) rfl) pa_nil))) (pe_callB call_isi (by rfl) B.isinstance (by decide +kernel) (pa_cons (pv 1) (pa_cons (pe_bltn (v := .ty "str") (by rfl) B.str (by decide +kernel) rfl) pa_nil))) (nomark _)) (pe_one (pe_cmpR op_eq (pv 0) (pv 1) (nomark _)))))))), ?_⟩
      refine ⟨x, rfl, (by show 2 ≤ sizeLine; decide), fun p np => ?_⟩
      have s1 := same_upd (o := .tup [.ty "list", .ty "tuple"]) np
      have ty1 := TyX.same s1 fx ty
      refine ⟨x, p, _, _, [.type "list", .type "tuple"], false, rfl, upd_same, .cons (.ty _) (.cons (.ty _) .nil), ty1, kit2 k1 k2, _, rfl, iteF ?_⟩
      refine ⟨x, rfl, rfl, _, rfl, ite2 (fun e => ?_) (fun e => ?_)⟩
      · have ex : x = .non := of_decide_eq_true e
        subst ex
        refine iteT ⟨_, rfl, rfl, _, rfl, ite2 (fun _ => ⟨_, rfl, rfl, ?_⟩) (fun z => absurd (decide_eq_true rfl) z)⟩
        exact q _ s1
      · refine ⟨x, rfl, rfl, _, rfl, ite2 (fun e2 => absurd e2 e) (fun _ => ?_)⟩
        refine ⟨x, rfl, x, _, _, _, b1, rfl, .ty "bool", ty1, kit_ty k3, x, rfl, x, _, _, _, b1, rfl, .ty "bool", ty1, kit_ty k3, rfl, _, rfl, ite2 (fun z => ?_) (fun _ => ?_)⟩
        · rw [ne_bl] at z
          cases z
        · refine ⟨x, rfl, x, _, _, _, b2, rfl, .ty "int", ty1, kit_ty k4, x, rfl, x, _, _, _, b2, rfl, .ty "int", ty1, kit_ty k4, rfl, _, rfl, ite2 (fun z => ?_) (fun _ => ?_)⟩
          · rw [ne_bl] at z
            cases z
          · refine ⟨x, rfl, x, _, _, _, b3, rfl, .ty "str", ty1, kit_ty k5, x, rfl, x, _, _, _, b3, rfl, .ty "str", ty1, kit_ty k5, rfl, _, rfl, ite2 (fun z => ?_) (fun z => absurd (decide_eq_true rfl) z)⟩
            refine ⟨x, rfl, x, rfl, scal_flat fx, ?_⟩
            rw [decide_eq_true rfl]
            exact q _ s1
  | succ n ih =>
    obtain ⟨fR, fdR, gR, kR, bR, GR⟩ := ih
    refine F.has fun F => ?_
    refine F.ok sc_same (fun vs H Q E h => ?_) (fun cdv A outer s H vs Q E hr h => ?_)
    · obtain ⟨x, y, rfl, _⟩ := h
      rfl
    · obtain ⟨x, y, rfl, hE, q⟩ := h
      refine seq_by (fun σ H1 => σ = [some x, some x, none, none] ∧ flat4 x = true ∧ Same H H1) ?_ ?_
      · refine ⟨_, (pss_cons (ps_if (PW.pt (pw_or (pt_cmpR op_isN (pv 1) pe_non (nomark _)) (pw_or1 (pt_cmpR op_isN (pv 0) pe_non (nomark _))))) (pss_one (ps_ret (pe_and (pe_cmpR op_isN (pv 0) pe_non (nomark _)) (pe_one (pe_cmpR op_isN (pv 1) pe_non (nomark _)))))) pss_nil)
        (pss_cons (ps_if (PW.pt (pw_or (pt_cmpR op_ne (pe_callB call_isi (by rfl) B.isinstance (by decide +kernel) (pa_cons (pv 0) (pa_cons (pe_bltn (v := .ty "bool") (by rfl) B.bool (by decide +kernel) rfl) pa_nil))) (pe_callB call_isi (by rfl) B.isinstance (by decide +kernel) (pa_cons (pv 1) (pa_cons (pe_bltn (v := .ty "bool") (by rfl) B.bool (by decide +kernel) rfl) pa_nil))) (nomark _))
            (pw_or1 (pt_cmpR op_ne (pe_callB call_isi (by rfl) B.isinstance (by decide +kernel) (pa_cons (pv 0) (pa_cons (pe_bltn (v := .ty "int") (by rfl) B.int (by decide +kernel) rfl) pa_nil))) (pe_callB call_isi (by rfl) B.isinstance (by decide +kernel) (pa_cons (pv 1) (pa_cons (pe_bltn (v := .ty "int") (by rfl) B.int (by decide +kernel) rfl) pa_nil))) (nomark _))))) pss_never pss_nil)
        (pss_one (ps_ret (pe_and (pe_cmpR op_eq (pe_callB call_isi (by rfl) B.isinstance (by decide +kernel) (pa_cons (pv 0) (pa_cons (pe_bltn (v := .ty "str") (by rfl) B.str (by decide +kernel) rfl) pa_nil))) (pe_callB call_isi (by rfl) B.isinstance (by decide +kernel) (pa_cons (pv 1) (pa_cons (pe_bltn (v := .ty "str") (by rfl) B.str (by decide +kernel) rfl) pa_nil))) (nomark _)) (pe_one (pe_cmpR op_eq (pv 0) (pv 1) (nomark _)))))))), ?_⟩
        rintro σ H1 ⟨rfl, fx, s1⟩
        obtain ⟨T, b1, b2, b3, ty1, k1, k2, k3, k4, k5⟩ := flat_kit (K := K) (H := H1) fx
        refine ⟨x, rfl, rfl, _, rfl, ite2 (fun e => ?_) (fun e => ?_)⟩
        · have ex : x = .non := of_decide_eq_true e
          subst ex
          refine iteT ⟨_, rfl, rfl, _, rfl, ite2 (fun _ => ⟨_, rfl, rfl, ?_⟩) (fun z => absurd (decide_eq_true rfl) z)⟩
          exact q _ s1
        · refine ⟨x, rfl, rfl, _, rfl, ite2 (fun e2 => absurd e2 e) (fun _ => ?_)⟩
          refine ⟨x, rfl, x, _, _, _, b1, rfl, .ty "bool", ty1, kit_ty k3, x, rfl, x, _, _, _, b1, rfl, .ty "bool", ty1, kit_ty k3, rfl, _, rfl, ite2 (fun z => ?_) (fun _ => ?_)⟩
          · rw [ne_bl] at z
            cases z
          · refine ⟨x, rfl, x, _, _, _, b2, rfl, .ty "int", ty1, kit_ty k4, x, rfl, x, _, _, _, b2, rfl, .ty "int", ty1, kit_ty k4, rfl, _, rfl, ite2 (fun z => ?_) (fun _ => ?_)⟩
            · rw [ne_bl] at z
              cases z
            · refine ⟨x, rfl, x, _, _, _, b3, rfl, .ty "str", ty1, kit_ty k5, x, rfl, x, _, _, _, b3, rfl, .ty "str", ty1, kit_ty k5, rfl, _, rfl, ite2 (fun z => ?_) (fun z => absurd (decide_eq_true rfl) z)⟩
              refine ⟨x, rfl, x, rfl, scal_flat fx, ?_⟩
              rw [decide_eq_true rfl]
              exact q _ s1
      · intro u hu
        refine ⟨_, ps_if (pt_val (pe_callB call_isiT (by rfl) B.isinstance (by decide +kernel) (pa_cons (pv 1) (pa_cons (pe_tup (pa_cons (pe_bltn (v := .ty "list") (by rfl) B.list (by decide +kernel) rfl) (pa_cons (pe_bltn (v := .ty "tuple") (by rfl) B.tuple (by decide +kernel) rfl) pa_nil))) pa_nil))))
          (pss_cons (ps_if (PW.pt (pw_or (pt_cmpR op_ne (pe_callB call_isi (by rfl) B.isinstance (by decide +kernel) (pa_cons (pv 0) (pa_cons (pe_bltn (v := .ty "list") (by rfl) B.list (by decide +kernel) rfl) pa_nil))) (pe_callB call_isi (by rfl) B.isinstance (by decide +kernel) (pa_cons (pv 1) (pa_cons (pe_bltn (v := .ty "list") (by rfl) B.list (by decide +kernel) rfl) pa_nil))) (nomark _)) (pw_or1 (pt_cmpR op_ne (pe_callB call_isi (by rfl) B.isinstance (by decide +kernel) (pa_cons (pv 0) (pa_cons (pe_bltn (v := .ty "tuple") (by rfl) B.tuple (by decide +kernel) rfl) pa_nil))) (pe_callB call_isi (by rfl) B.isinstance (by decide +kernel) (pa_cons (pv 1) (pa_cons (pe_bltn (v := .ty "tuple") (by rfl) B.tuple (by decide +kernel) rfl) pa_nil))) (nomark _))))) pss_never pss_nil)
          (pss_one (ps_ret (pe_and (pe_cmpR op_eq (pe_callB call_len_seq (by rfl) B.len PySem.boot_len (pa_cons (pv 0) pa_nil)) (pe_callB call_len_seq (by rfl) B.len PySem.boot_len (pa_cons (pv 1) pa_nil)) (nomark _))
            (pe_one (pe_callB (cr_all rfl) (by rfl) B.all (by decide +kernel) (pa_cons (pe_lc (own := [("_law_one", 2), ("_law_other", 3)]) (g := gTup K 2 (gCons (gName 2) (gCons (gName 3) gNil))) (tt := tYes) (by rfl) sc_same.nd (RZ.pi_zipA (by rfl) B.zip (pa_cons (pv 0) (pa_cons (pv 1) pa_nil)))
              (blkOk_by (own := [("_law_one", 2), ("_law_other", 3)]) (N := ["_law_found", "_law_due", "_law_one", "_law_other"]) (sc := defScope s__law_same) (by decide +kernel))
              (fun _ _ _ _ _ => pg_tup rfl (pgs_cons (pg_name (i := 2) sc_same.nd rfl (.inl rfl)) (pgs_cons (pg_name (i := 3) sc_same.nd rfl (.inl rfl)) pgs_nil))) (fun _ _ _ _ _ => pts_nil)
              (fun _ _ _ _ _ => pe_call GR hr (by rfl) gR kR bR .nil pass0 (pa_cons (pv 2) (pa_cons (pv 3) pa_nil)))) pa_nil))))))) pss_nil, ?_⟩
        refine ⟨y, rfl, (by show 2 ≤ sizeLine; decide), fun p np => ?_⟩
        have s1 := same_upd (o := .tup [.ty "list", .ty "tuple"]) np
        rcases hE with ⟨fx, rfl⟩ | ⟨pa, pb, xs, ys, rfl, rfl, hxy, hlen, hsz, hEach⟩
        · obtain ⟨T, b1, b2, b3, ty, k1, k2, k3, k4, k5⟩ := flat_kit (K := K) (H := upd H p (.tup [.ty "list", .ty "tuple"])) fx
          exact ⟨x, p, _, _, [.type "list", .type "tuple"], false, rfl, upd_same, .cons (.ty _) (.cons (.ty _) .nil), ty, kit2 k1 k2, _, rfl, iteF (hu _ _ ⟨rfl, fx, s1⟩)⟩
        · obtain ⟨T, bl, bt, tyx, tyy, kany, kl, kt⟩ : ∃ (T : String) (bl bt : Bool), TyX K (upd H p (.tup [.ty "list", .ty "tuple"])) (.ref pa) (.type T) ∧ TyX K (upd H p (.tup [.ty "list", .ty "tuple"])) (.ref pb) (.type T) ∧
              PySem.W.kitAny K (.type T) [.type "list", .type "tuple"] = some true ∧ kitB T "list" = some bl ∧ kitB T "tuple" = some bt := by
            rcases hxy with ⟨ha, hb⟩ | ⟨ha, hb⟩
            · exact ⟨"list", true, false, .base (.lst (s1 _ _ ha)), .base (.lst (s1 _ _ hb)), kitAny_cons (kit_ty (b := "list") (r := true) (by decide +kernel)) (fun q => nomatch q) (fun _ => rfl), by decide +kernel, by decide +kernel⟩
            · exact ⟨"tuple", false, true, .base (.tup (s1 _ _ ha)), .base (.tup (s1 _ _ hb)), kitAny_cons (kit_ty (b := "list") (r := false) (by decide +kernel)) (fun _ => kitAny_cons (kit_ty (b := "tuple") (r := true) (by decide +kernel)) (fun q => nomatch q) (fun _ => rfl)) (fun q => nomatch q), by decide +kernel, by decide +kernel⟩
          refine ⟨_, p, _, _, [.type "list", .type "tuple"], true, rfl, upd_same, .cons (.ty _) (.cons (.ty _) .nil), tyy, kany, _, rfl, iteT ?_⟩
          refine ⟨_, rfl, _, _, _, _, bl, rfl, .ty "list", tyx, kit_ty kl, _, rfl, _, _, _, _, bl, rfl, .ty "list", tyy, kit_ty kl, rfl, _, rfl, ite2 (fun z => ?_) (fun _ => ?_)⟩
          · rw [ne_bl] at z
            cases z
          refine ⟨_, rfl, _, _, _, _, bt, rfl, .ty "tuple", tyx, kit_ty kt, _, rfl, _, _, _, _, bt, rfl, .ty "tuple", tyy, kit_ty kt, rfl, _, rfl, ite2 (fun z => ?_) (fun _ => ?_)⟩
          · rw [ne_bl] at z
            cases z
          have sqx : SqL K (upd H p (.tup [.ty "list", .ty "tuple"])) pa xs ∨ SqT K (upd H p (.tup [.ty "list", .ty "tuple"])) pa xs := hxy.elim (fun h => .inl (SqL.of (s1 _ _ h.1))) (fun h => .inr (SqT.of (s1 _ _ h.1)))
          have sqy : SqL K (upd H p (.tup [.ty "list", .ty "tuple"])) pb ys ∨ SqT K (upd H p (.tup [.ty "list", .ty "tuple"])) pb ys := hxy.elim (fun h => .inl (SqL.of (s1 _ _ h.2))) (fun h => .inr (SqT.of (s1 _ _ h.2)))
          refine ⟨_, rfl, pa, xs, rfl, sqx, _, rfl, pb, ys, rfl, sqy, rfl, _, rfl, ite2 (fun _ => ?_) (fun z => absurd (decide_eq_true (by rw [hlen])) z)⟩
          refine ⟨_, rfl, _, rfl, pa, pb, xs, ys, rfl, ?_⟩
          have turn : ∀ (i : Nat) (x y : V) (D T : Addr) (H2 : Hp), (upd H p (.tup [.ty "list", .ty "tuple"])) D = none → xs[i]? = some x → ys[i]? = some y → Same (upd H p (.tup [.ty "list", .ty "tuple"])) H2 → H2 D = some (.lst (List.replicate i (V.bl true))) → H2 T = none →
              ∃ x' y' : V, [x, y] ++ [] = [x', y'] ∧ Eqv (upd H2 T (.tup [x, y])) n x' y' ∧ ∀ H', Same (upd H2 T (.tup [x, y])) H' → ∃ acc, H' D = some (.lst acc) ∧ acc.length < sizeLine ∧ (Same (upd H p (.tup [.ty "list", .ty "tuple"])) (upd H' D (.lst (acc ++ [.bl true]))) ∧ (upd H' D (.lst (acc ++ [.bl true]))) D = some (.lst (List.replicate (i + 1) (V.bl true)))) := by
            intro i x y D T H2 nD hx hy s2 hD nT
            have s3 : Same H2 (upd H2 T (.tup [x, y])) := same_upd nT
            have hi : i < xs.length := (List.getElem?_eq_some_iff.mp hx).1
            refine ⟨x, y, rfl, (hEach i x y hx hy).same (s1.trans (s2.trans s3)), fun H' s4 => ⟨_, s4 _ _ (s3 _ _ hD), ?_, fun a o e => ?_, ?_⟩⟩
            · rw [List.length_replicate]
              exact lineLt_of (by omega)
            · rw [upd_ne (ne_of_none e nD)]
              exact s4 _ _ (s3 _ _ (s2 _ _ e))
            · rw [upd_same, List.replicate_succ']
          have fin : ∀ (D : Addr) (H2 : Hp), Same (upd H p (.tup [.ty "list", .ty "tuple"])) H2 → H2 D = some (.lst (List.replicate xs.length (V.bl true))) → ∃ (a : Addr) (bs : List Bool), [V.ref D] = [V.ref a] ∧ SqL K H2 a (bs.map V.bl) ∧ Q (.bl (bs.all id)) H2 := by
            intro D H2 s2 hD
            refine ⟨D, List.replicate xs.length true, rfl, SqL.of (by rw [hD, List.map_replicate]), ?_⟩
            rw [all_true]
            exact q _ (s1.trans s2)
          rcases hxy with ⟨ha, hb⟩ | ⟨ha, hb⟩
          · refine .inl ⟨SqL.of (s1 _ _ ha), SqL.of (s1 _ _ hb), fun D nD => ?_⟩
            refine lc_gen (n := xs.length) (fun i H2 => Same (upd H p (.tup [.ty "list", .ty "tuple"])) H2 ∧ H2 D = some (.lst (List.replicate i (V.bl true)))) ⟨same_upd nD, upd_same⟩ ?_ ?_ ?_ ?_
            · rintro i H2 hi ⟨s2, hD⟩
              exact ⟨xs, ys, _, _, SqL.of (s2 _ _ (s1 _ _ ha)), SqL.of (s2 _ _ (s1 _ _ hb)), List.getElem?_eq_getElem hi, List.getElem?_eq_getElem (by omega)⟩
            · rintro H2 ⟨s2, hD⟩
              exact ⟨xs, ys, SqL.of (s2 _ _ (s1 _ _ ha)), SqL.of (s2 _ _ (s1 _ _ hb)), .inl (Nat.le_refl _)⟩
            · rintro i v H2 H3 hi ⟨s2, hD⟩ ⟨T, x, y, rfl, nT, rfl, f1, f2⟩
              refine ⟨T, [x, y], rfl, .inl (.inl upd_same), rfl, x, [y], rfl, y, [], rfl, rfl, rfl, ?_⟩
              refine yes_if ?_
              exact ⟨_, rfl, _, rfl, turn i x y D T H2 nD (f1 xs (SqL.of (s2 _ _ (s1 _ _ ha)))) (f2 ys (SqL.of (s2 _ _ (s1 _ _ hb)))) s2 hD nT⟩
            · rintro H2 ⟨s2, hD⟩
              exact fin D H2 s2 hD
          · refine .inr ⟨SqT.of (s1 _ _ ha), SqT.of (s1 _ _ hb), fun D nD => ?_⟩
            refine lc_gen (n := xs.length) (fun i H2 => Same (upd H p (.tup [.ty "list", .ty "tuple"])) H2 ∧ H2 D = some (.lst (List.replicate i (V.bl true)))) ⟨same_upd nD, upd_same⟩ ?_ ?_ ?_ ?_
            · rintro i H2 hi ⟨s2, hD⟩
              exact ⟨xs, ys, _, _, SqT.of (s2 _ _ (s1 _ _ ha)), SqT.of (s2 _ _ (s1 _ _ hb)), List.getElem?_eq_getElem hi, List.getElem?_eq_getElem (by omega)⟩
            · rintro H2 ⟨s2, hD⟩
              exact ⟨xs, ys, SqT.of (s2 _ _ (s1 _ _ ha)), SqT.of (s2 _ _ (s1 _ _ hb)), .inl (Nat.le_refl _)⟩
            · rintro i v H2 H3 hi ⟨s2, hD⟩ ⟨T, x, y, rfl, nT, rfl, f1, f2⟩
              refine ⟨T, [x, y], rfl, .inl (.inl upd_same), rfl, x, [y], rfl, y, [], rfl, rfl, rfl, ?_⟩
              refine yes_if ?_
              exact ⟨_, rfl, _, rfl, turn i x y D T H2 nD (f1 xs (SqT.of (s2 _ _ (s1 _ _ ha)))) (f2 ys (SqT.of (s2 _ _ (s1 _ _ hb)))) s2 hD nT⟩
            · rintro H2 ⟨s2, hD⟩
              exact fin D H2 s2 hD
end
end Sf
namespace Sf
open PySem PySem.Spec PyProof.Rows L2 TL
section
variable {P : Program} {w : World} {K : PySem.W.Frag} {mg : Str → Option Value} {base : Heap}
/-! ### is_word -/
def isW (x : Str) : Bool := decide (x.length ≤ 60) && (tl x).all sgn
def spIsWord : Sp := fun vs H Q _ => ∃ x : Str, vs = [.str x] ∧ x.length ≤ 100000 ∧ ∀ H', Same H H' → Q (.bl (isW x)) H'
abbrev HasIsWord (P : Program) (w : World) (K : PySem.W.Frag) (mg : Str → Option Value) (base : Heap) : Prop := Has P w K mg base 1 "is_word" ["text"] spIsWord
theorem sc_isword : FnScope ["text", "sign"] ["text"] (defScope s_is_word) := ⟨rfl, rfl, rfl, by decide +kernel, rfl, by decide +kernel, by decide +kernel⟩
theorem dec_signs {c : Nat} : decide (c ∈ (Str.ofString "aAbBcCdDeEfFgGhH").cps.toList) = sgn c := by
  rw [Bool.eq_iff_iff, decide_eq_true_eq]
  exact in_signs
theorem getElem?_of_cps {x : Str} {i c : Nat} (h : x.cps[i]? = some c) : (tl x)[i]? = some c := by
  rw [← h]
  exact Array.getElem?_toList
theorem has_isword (F : FnAt K mg "is_word" s_is_word ["text"]) (B : Blt mg) {t1 t2 : Tok} (mM : mg "MOST_WORD" = some (.int 60 t1)) (mS : mg "SIGNS" = some (.str (Str.ofString "aAbBcCdDeEfFgGhH") t2)) : HasIsWord P w K mg base := F.has fun F => by
  refine F.ok sc_isword (fun vs H Q E h => ?_) (fun cdv A outer s H vs Q E hr h => ?_)
  · obtain ⟨x, rfl, _⟩ := h
    rfl
  · obtain ⟨x, rfl, hlen, q⟩ := h
    have hz : x.cps.size = (tl x).length := len_tl x
    refine ⟨_, pss_one (ps_ret (pe_and (pe_cmpR op_le (pe_callB call_len_str (by rfl) B.len PySem.boot_len (pa_cons (pv 0) pa_nil)) (pe_glob (v := .int 60) (by rfl) mM ⟨_, rfl⟩) (nomark _))
      (pe_one (pe_callB (cr_all rfl) (by rfl) B.all (by decide +kernel) (pa_cons (pe_lc (own := [("sign", 1)]) (g := gName 1) (tt := tYes) (by rfl) sc_isword.nd (pi_str (pv 0))
        (blkOk_by (own := [("sign", 1)]) (N := ["text", "sign"]) (sc := defScope s_is_word) (by decide +kernel)) (fun _ _ _ _ _ => pg_name (i := 1) sc_isword.nd rfl (.inl rfl)) (fun _ _ _ _ _ => pts_nil)
        (fun _ _ _ _ _ => pe_cmpR op_in_sign (pv 1) (pe_glob (v := .str (Str.ofString "aAbBcCdDeEfFgGhH")) (by rfl) mS ⟨_, rfl⟩) rfl)) pa_nil))))), ?_⟩
    refine ⟨_, rfl, x, rfl, line_of hlen, _, 60, rfl, rfl, _, rfl, ite2 (fun e => ?_) (fun e => ?_)⟩
    · refine ⟨_, rfl, x, rfl, fun D nD => ?_⟩
      refine lc_gen (n := x.cps.size) (fun i H2 => Same H H2 ∧ H2 D = some (.lst (((tl x).take i).map fun c => V.bl (sgn c)))) ⟨same_upd nD, upd_same⟩ ?_ ?_ ?_ ?_
      · rintro i H2 hi ⟨s2, hD⟩
        exact hi
      · rintro H2 ⟨s2, hD⟩
        exact Nat.le_refl _
      · rintro i v H2 H3 hi ⟨s2, hD⟩ ⟨rfl, c, hc, rfl⟩
        refine ⟨rfl, yes_if ?_⟩
        refine ⟨_, rfl, c, _, rfl, rfl, _, hD, ?_, fun a o e => ?_, ?_⟩
        · rw [List.length_map, List.length_take]
          exact lineLt_of (Nat.le_trans (Nat.min_le_right _ _) (by rw [← hz]; exact hlen))
        · rw [upd_ne (ne_of_none e nD)]
          exact s2 _ _ e
        · have ed : decide (c ∈ (Str.ofString "aAbBcCdDeEfFgGhH").cps.toList) = sgn c := dec_signs
          rw [upd_same, List.take_add_one, getElem?_of_cps hc, List.map_append, ed]
          rfl
      · rintro H2 ⟨s2, hD⟩
        refine ⟨D, (tl x).map sgn, rfl, SqL.of ?_, ?_⟩
        · rw [hD, List.take_of_length_le (by rw [hz]; exact Nat.le_refl _), List.map_map]
          rfl
        · have h1 := q H2 s2
          have e1 : decide (x.length ≤ 60) = true := decide_eq_true (by have := of_decide_eq_true e; omega)
          have e2 : ((tl x).map sgn).all id = (tl x).all sgn := by
            rw [List.all_map]
            rfl
          rw [e2]
          unfold isW at h1
          rw [e1, Bool.true_and] at h1
          exact h1
    · have h1 := q H (.refl H)
      have e1 : decide (x.length ≤ 60) = false := decide_eq_false (fun z => e (decide_eq_true (by omega)))
      unfold isW at h1
      rw [e1, Bool.false_and] at h1
      exact h1
theorem isW_true {x : Str} (h : Wd x) (hl : x.length ≤ 60) : isW x = true := by
  unfold isW
  rw [decide_eq_true hl, Bool.true_and, List.all_eq_true]
  exact h
end
end Sf
namespace Sf
open PySem PySem.Spec PyProof.Rows L2 TL
section
variable {X : Cx}
/-! ### text * int -/
theorem op_mul_str : OpR X (binaryOp .Mult) (fun x y H Q => ∃ (a : Str) (n : Int), x = .str a ∧ y = .int n ∧ 0 ≤ n ∧ n ≤ 1000 ∧ a.length ≤ 1000 ∧ Q (.str (Txt.mul a n)) H) := by
  intro pins s σ H x y v u Q I rx ry h
  obtain ⟨a, n, rfl, rfl, h0, h1, h2, q⟩ := h
  obtain ⟨t, rfl⟩ := rx
  obtain ⟨t', rfl⟩ := ry
  refine PySem.SB.mul ⟨?_, fun hn _ => ?_, fun _ _ => ?_⟩ fun t' k => ⟨.str _, H, I.tok k, ⟨t', rfl⟩, q⟩
  · rw [decide_eq_false (by omega), decide_eq_false (by omega)]
    rfl
  · have h3 : (2 ^ 63 - 1) / n ≥ 9223372036854775807 / 1000 := by
      show (9223372036854775807 : Int) / 1000 ≤ (2 ^ 63 - 1) / n
      have e : (2 ^ 63 - 1 : Int) = 9223372036854775807 := by decide
      rw [e]
      refine (Int.le_ediv_iff_mul_le (by omega)).mpr ?_
      have : (9223372036854775807 : Int) / 1000 * n ≤ (9223372036854775807 : Int) / 1000 * 1000 := Int.mul_le_mul_of_nonneg_left h1 (by decide)
      have e2 : (9223372036854775807 : Int) / 1000 * 1000 ≤ 9223372036854775807 := by decide
      omega
    have e3 : (9223372036854775807 : Int) / 1000 = 9223372036854775 := by decide
    omega
  · refine PyProof.Rows.short24 ?_
    have h5 : n.toNat ≤ 1000 := by omega
    exact Nat.le_trans (Nat.mul_le_mul h2 h5) (by decide)
theorem mul_len {a : Str} {n : Int} (h : 0 ≤ n) : (Txt.mul a n).length = a.length * n.toNat := by
  obtain ⟨m, rfl⟩ : ∃ m : Nat, n = (m : Int) := ⟨n.toNat, by omega⟩
  have h1 := PyProof.Rows.len_mul a (m : Int)
  rw [decide_eq_false (by omega)] at h1
  have e : (if false = true then (0 : Int) else (m : Int)) = (m : Int) := rfl
  rw [e, ← Int.natCast_mul] at h1
  rw [Int.toNat_natCast]
  exact Int.ofNat.inj h1
theorem foldl_app (a : Array Nat) : ∀ (k : Nat) (acc : Array Nat) (c : Nat), c ∈ ((List.replicate k a).foldl (· ++ ·) acc).toList → c ∈ acc.toList ∨ c ∈ a.toList
  | 0, acc, c, h => .inl h
  | k + 1, acc, c, h => by
    rw [List.replicate_succ, List.foldl_cons] at h
    rcases foldl_app a k (acc ++ a) c h with h | h
    · rw [Array.toList_append, List.mem_append] at h
      exact h
    · exact .inr h
theorem mul_mem {a : Str} {n : Int} {c : Nat} (h : c ∈ tl (Txt.mul a n)) : c ∈ tl a := by
  unfold Txt.mul at h
  split at h
  · cases h
  · split at h
    · exact h
    · rcases foldl_app a.cps n.toNat #[] c h with h | h
      · cases h
      · exact h
theorem Wd.mul {a : Str} {n : Int} (h : Wd a) : Wd (Txt.mul a n) := fun c hc => h c (mul_mem hc)
theorem tl_cut (z : Str) (lo hi : Option Int) : tl (cutS z lo hi) = ((tl z).drop (HT.sIx z.length 0 lo)).take (HT.sIx z.length z.length hi - HT.sIx z.length 0 lo) := by
  unfold cutS
  rfl
theorem Wd.cut {z : Str} {lo hi : Option Int} (h : Wd z) : Wd (cutS z lo hi) := fun c hc => by
  rw [tl_cut] at hc
  exact h c (List.mem_of_mem_drop (List.mem_of_mem_take hc))
end
end Sf
namespace Sf
open PySem PySem.Spec PyProof.Rows L2 TL
section
variable {X : Cx}
/-! ### text[::-1] -/
def revS (z : Str) : Str := ⟨(tl z).reverse.toArray⟩
theorem tl_revS (z : Str) : tl (revS z) = (tl z).reverse := rfl
theorem rev_picked (z : Str) : ((Builtin.Str.strSliceIndices none none (-1) z.length).filterMap (z.cps[·]?)) = (tl z).reverse := by
  rw [picked_rev]
  apply List.ext_getElem?
  intro i
  have hz : z.length = (tl z).length := len_tl z
  rw [PyProof.Rows.filterMap_get _ _ (fun k hk => by
    obtain ⟨j, hj, rfl⟩ := List.mem_map.mp hk
    have := List.mem_range.mp hj
    show z.length - 1 - j < z.length
    omega), List.map_map]
  by_cases h : i < z.length
  · rw [List.getElem?_reverse (by omega), List.getElem?_map, List.getElem?_range h]
    show some (z.cps.getD (z.length - 1 - i) 0) = _
    have h2 : z.length - 1 - i < z.cps.size := by show z.length - 1 - i < z.length; omega
    rw [← hz, Array.getElem?_toList]
    simp [Array.getD, h2]
  · rw [List.getElem?_eq_none (by rw [List.length_map, List.length_range]; omega), List.getElem?_eq_none (by rw [List.length_reverse, ← hz]; omega)]
def tRevS (te : TE) : TE := fun σ H Q => te σ H fun x H1 => ∃ z, x = .str z ∧ z.length ≤ sizeLine ∧ Q (.str (revS z)) H1
theorem pe_revS {e : Expr} {te : TE} {k : Nat} {p1 p2 p3 pos : Pos} (he : PE X e te) : PE X (.Subscript e (.Slice none none (some (.UnaryOp .USub (.Constant (.int 1) k p1) p2)) p3) pos) (tRevS te) := by
  refine ⟨fun pins s σ H Q I h => ?_⟩
  refine Subscript_ (thn (he.run pins s σ H _ I h) fun v s1 ⟨x, H1, I1, r1, q1⟩ => ?_)
  obtain ⟨z, ex, hz, q⟩ := q1
  subst ex
  obtain ⟨tz, rfl⟩ := r1
  have hst : PO X (some (.UnaryOp .USub (.Constant (.int 1) k p1) p2)) (tPart (tUn (rU fun i => .int (-i)) (tC (.int 1)))) := po_some (pe_un un_neg pe_int)
  refine wpAny_Slice (thn (po_none.run pins s1 σ H1 (fun o H2 => o = none ∧ H2 = H1) I1 ⟨rfl, rfl⟩) fun vl s2 ⟨l, H2, I2, pl, el, e2⟩ => ?_)
  subst el e2
  refine thn (po_none.run pins s2 σ H2 (fun o H3 => o = none ∧ H3 = H2) I2 ⟨rfl, rfl⟩) fun vu s3 ⟨u, H3, I3, pu, eu, e3⟩ => ?_
  subst eu e3
  refine thn (hst.run pins s3 σ H3 (fun o H4 => o = some (-1) ∧ H4 = H3) I3 ⟨1, rfl, -1, rfl, rfl, rfl⟩) fun vs s4 ⟨o, H4, I4, ps, eo, e4⟩ => ?_
  subst eo e4
  cases pl
  cases pu
  cases ps with
  | int _ ts =>
  have I5 : Inv X pins σ H4 { s4 with heap := s4.heap.push { cls := .type "slice", data := .fields #[.none, .none, .int (-1) ts] } } := I4.kept (t' := s4.toks) fun b ob q => Heap.get?_push_of_some _ q
  show wpAny (model X.prog X.w) X.A (subscriptTail e (.Slice none none (some (.UnaryOp .USub (.Constant (.int 1) k p1) p2)) p3) (.str z tz) (.ref s4.heap.objs.size)) (EP X pins σ Q) X.xe { s4 with heap := s4.heap.push { cls := .type "slice", data := .fields #[.none, .none, .int (-1) ts] } }
  refine tail_any (ops := [.str z tz, .ref s4.heap.objs.size]) (typeIs_str _ _ _) (PySem.F.slot_str_getitem.lookup) ?_ (by with_unfolding_all rfl)
  refine wpAny_getItem_str_slice (l := none) (u := none) (st := some (-1, ts)) ⟨_, Heap.get?_push_size _ rfl, rfl, rfl⟩ rfl ?_
  have e1 : sliceMade z tz none none (some (-1, ts)) = Made.str (revS z) := by
    unfold sliceMade slicePicked
    have h1 : ¬ (((((some ((-1 : Int), ts)).map (·.1)).getD 1 == 1) && ((Builtin.Str.strSliceIndices ((none : Option (Int × Tok)).map (·.1)) ((none : Option (Int × Tok)).map (·.1)) (((some ((-1 : Int), ts)).map (·.1)).getD 1) z.length).length == z.length)) = true) := by
      have : ((((some ((-1 : Int), ts)).map (·.1)).getD 1 == 1)) = false := rfl
      rw [this]
      simp
    rw [if_neg h1]
    show Made.str ⟨((Builtin.Str.strSliceIndices none none (-1) z.length).filterMap (z.cps[·]?)).toArray⟩ = _
    rw [rev_picked]
    rfl
  rw [e1]
  refine ⟨?_, .str _, H4, I5.tok _, ⟨_, rfl⟩, q⟩
  rw [len_tl, tl_revS, List.length_reverse, ← len_tl]
  exact hz
/-! ### text.swapcase() -/
theorem mt_swapcase : MtR X "str.swapcase" (fun x xs H Q => ∃ a, x = .str a ∧ xs = [] ∧ a.length ≤ 5592405 ∧ Q (.str (Txt.swapcase a)) H) :=
  mt0 (C := fun a => a.length ≤ 5592405) (g := fun a => .str (Txt.swapcase a)) fun a _ s _ hc h =>
    PySem.SC.swapcase (PyProof.Rows.fit_swapcase hc) (h _ (s.toks + 1) ⟨_, rfl⟩)
theorem pe_swapcase {o : Expr} {to : TE} {apos pos : Pos} (ho : PE X o to) (hbase : attributeBase o "swapcase" X.env (eval o X.env) = eval o X.env := by rfl) (hline : (apos.endLine == pos.line) = true := by rfl) :
    PE X (.Call (.Attribute o "swapcase" apos) [] [] pos) (tM0 (fun x xs H Q => ∃ a, x = .str a ∧ xs = [] ∧ a.length ≤ 5592405 ∧ Q (.str (Txt.swapcase a)) H) to) :=
  pe_m0 PySem.F.slot_str_swapcase PySem.F.type_str_swapcase mt_swapcase ho hbase hline
theorem case_sgn : ∀ c, c < 128 → sgn c = true → (if Unicode.isUpper c then PyProof.Rows.lo1 c else if Unicode.isLower c then PyProof.Rows.up1 c else c) = flipC c := by decide +kernel
theorem sgn_lt {c : Nat} (h : sgn c = true) : c < 128 := by
  rw [sgn_iff] at h
  omega
def flipS (x : Str) : Str := ⟨((tl x).map flipC).toArray⟩
theorem swap_wd {x : Str} (h : Wd x) : Txt.swapcase x = flipS x := by
  unfold Txt.swapcase
  rw [PyProof.Rows.placed_single x _ flipC fun i c hc => by
    have hc' : x.cps[i]? = some c := by simpa using hc
    have hs := h c (List.mem_of_getElem? hc)
    have hlt := sgn_lt hs
    have hk := case_sgn c hlt hs
    unfold Unicode.lowerAt
    rw [hc']
    have hne : (c == 0x3A3) = false := by rw [beq_eq_false_iff_ne]; omega
    simp only [hne, Bool.false_and, Bool.false_eq_true, if_false]
    rw [PyProof.Rows.lowerOf_ascii c hlt, PyProof.Rows.upperOf_ascii c hlt, ← hk]
    by_cases h1 : Unicode.isUpper c = true
    · rw [if_pos h1, if_pos h1]
    · rw [if_neg h1, if_neg h1]
      by_cases h2 : Unicode.isLower c = true
      · rw [if_pos h2, if_pos h2]
      · rw [if_neg h2, if_neg h2]]
  apply ext_tl
  show (x.cps.map flipC).toList = (tl x).map flipC
  rw [Array.toList_map]
theorem flipS_one (c : Nat) : flipS (one c) = one (flipC c) := rfl
theorem tl_flipS (x : Str) : tl (flipS x) = (tl x).map flipC := rfl
theorem rev_wd {x : Str} (h : Wd x) : Wd (revS x) := fun c hc => h c (List.mem_reverse.mp hc)
theorem revS_len (x : Str) : (revS x).length = x.length := by rw [len_tl, tl_revS, List.length_reverse, ← len_tl]
end
end Sf
namespace Sf
open PySem PySem.Spec PyProof.Rows L2 TL
/-! ### words as lists of codes; the stack of a walk (its head is the last sign) -/
abbrev Sg (l : List Nat) : Prop := ∀ c ∈ l, sgn c = true
theorem flip2 {c : Nat} (h : sgn c = true) : flipC (flipC c) = c := by
  rw [sgn_iff] at h
  unfold flipC
  by_cases h1 : 97 ≤ c
  · rw [if_pos h1, if_neg (by omega)]
    omega
  · rw [if_neg h1, if_pos (by omega)]
    omega
theorem flip_inj {c d : Nat} (hc : sgn c = true) (hd : sgn d = true) (h : flipC c = flipC d) : c = d := by
  rw [← flip2 hc, ← flip2 hd, h]
def pushS (s : List Nat) (c : Nat) : List Nat :=
  match s with
  | [] => [c]
  | x :: t => if x = flipC c then t else c :: x :: t
def RedS : List Nat → Prop
  | [] => True
  | [_] => True
  | x :: y :: t => y ≠ flipC x ∧ RedS (y :: t)
theorem RedS.tail {x : Nat} {t : List Nat} (h : RedS (x :: t)) : RedS t := by
  cases t with
  | nil => trivial
  | cons y t => exact h.2
theorem RedS.suffix : ∀ {a b : List Nat}, RedS (a ++ b) → RedS b
  | [], _, h => h
  | _ :: a, _, h => RedS.suffix (a := a) (RedS.tail h)
theorem pushS_red {s : List Nat} {c : Nat} (h : RedS s) : RedS (pushS s c) := by
  cases s with
  | nil => trivial
  | cons x t =>
    unfold pushS
    by_cases e : x = flipC c
    · simp only [if_pos e]
      exact h.tail
    · simp only [if_neg e]
      exact ⟨e, h⟩
theorem pushS_sg {s : List Nat} {c : Nat} (h : Sg s) (hc : sgn c = true) : Sg (pushS s c) := by
  cases s with
  | nil =>
    intro d hd
    rw [pushS, List.mem_singleton] at hd
    rw [hd]
    exact hc
  | cons x t =>
    unfold pushS
    by_cases e : x = flipC c
    · simp only [if_pos e]
      exact fun d hd => h d (List.mem_cons_of_mem _ hd)
    · simp only [if_neg e]
      intro d hd
      rcases List.mem_cons.mp hd with rfl | hd
      · exact hc
      · exact h d hd
theorem pushS_inv {s : List Nat} {c : Nat} (h : RedS s) (hs : Sg s) (hc : sgn c = true) : pushS (pushS s c) (flipC c) = s := by
  cases s with
  | nil =>
    show (if c = flipC (flipC c) then [] else _) = ([] : List Nat)
    rw [if_pos (flip2 hc).symm]
  | cons x t =>
    by_cases e : x = flipC c
    · have e1 : pushS (x :: t) c = t := by simp only [pushS, if_pos e]
      rw [e1, e]
      cases t with
      | nil => rfl
      | cons y t =>
        have hn : ¬ y = flipC (flipC c) := by
          rw [← e]
          exact h.1
        simp only [pushS, if_neg hn]
    · have e1 : pushS (x :: t) c = c :: x :: t := by simp only [pushS, if_neg e]
      rw [e1]
      simp only [pushS, if_pos (flip2 hc).symm]
def runS (s w : List Nat) : List Nat := w.foldl pushS s
theorem runS_cons (s : List Nat) (c : Nat) (w : List Nat) : runS s (c :: w) = runS (pushS s c) w := rfl
theorem runS_app (s u v : List Nat) : runS s (u ++ v) = runS (runS s u) v := List.foldl_append
theorem runS_red : ∀ {w s : List Nat}, RedS s → RedS (runS s w)
  | [], _, h => h
  | _ :: w, _, h => runS_red (w := w) (pushS_red h)
theorem runS_sg : ∀ {w s : List Nat}, Sg s → Sg w → Sg (runS s w)
  | [], _, h, _ => h
  | c :: w, _, h, hw => runS_sg (w := w) (pushS_sg h (hw c (List.mem_cons_self ..))) (fun d hd => hw d (List.mem_cons_of_mem _ hd))
def backL (w : List Nat) : List Nat := (w.map flipC).reverse
theorem backL_cons (c : Nat) (w : List Nat) : backL (c :: w) = backL w ++ [flipC c] := by
  unfold backL
  rw [List.map_cons, List.reverse_cons]
theorem backL_app (u v : List Nat) : backL (u ++ v) = backL v ++ backL u := by
  unfold backL
  rw [List.map_append, List.reverse_append]
theorem backL_sg {w : List Nat} (h : Sg w) : Sg (backL w) := fun c hc => by
  unfold backL at hc
  rw [List.mem_reverse, List.mem_map] at hc
  obtain ⟨d, hd, rfl⟩ := hc
  exact flip_sgn (h d hd)
theorem backL_back {w : List Nat} (h : Sg w) : backL (backL w) = w := by
  unfold backL
  rw [List.map_reverse, List.reverse_reverse, List.map_map]
  have e : w.map (flipC ∘ flipC) = w.map id := List.map_congr_left fun c hc => flip2 (h c hc)
  rw [e, List.map_id]
theorem run_back : ∀ {w s : List Nat}, RedS s → Sg s → Sg w → runS (runS s w) (backL w) = s
  | [], _, _, _, _ => rfl
  | c :: w, s, h, hs, hw => by
    have hc := hw c (List.mem_cons_self ..)
    rw [runS_cons, backL_cons, runS_app, run_back (w := w) (pushS_red h) (pushS_sg hs hc) (fun d hd => hw d (List.mem_cons_of_mem _ hd))]
    exact pushS_inv h hs hc
theorem pushS_of {s : List Nat} {c : Nat} (h : RedS (c :: s)) : pushS s c = c :: s := by
  cases s with
  | nil => rfl
  | cons x t => simp only [pushS, if_neg h.1]
theorem run_of_red : ∀ {w s : List Nat}, RedS (w.reverse ++ s) → runS s w = w.reverse ++ s
  | [], _, _ => rfl
  | c :: w, s, h => by
    rw [List.reverse_cons, List.append_assoc] at h ⊢
    rw [runS_cons, pushS_of (s := s) (RedS.suffix (b := c :: s) h)]
    exact run_of_red h
/-- a word reduced, as a list from its first sign -/
def shortL (w : List Nat) : List Nat := (runS [] w).reverse
theorem shortL_sg {w : List Nat} (h : Sg w) : Sg (shortL w) := fun c hc => runS_sg (s := []) (fun _ z => by cases z) h c (List.mem_reverse.mp hc)
def push (l : List Nat) (c : Nat) : List Nat := (pushS l.reverse c).reverse
theorem shortL_snoc (w : List Nat) (c : Nat) : shortL (w ++ [c]) = push (shortL w) c := by
  unfold shortL push
  rw [runS_app, List.reverse_reverse]
  rfl
theorem push_last {l : List Nat} {c : Nat} (x : Nat) : push (l ++ [x]) c = if x = flipC c then l else l ++ [x] ++ [c] := by
  unfold push
  rw [List.reverse_append]
  show (if x = flipC c then l.reverse else c :: x :: l.reverse).reverse = _
  by_cases e : x = flipC c
  · rw [if_pos e, if_pos e, List.reverse_reverse]
  · rw [if_neg e, if_neg e]
    simp
theorem push_nil (c : Nat) : push [] c = [c] := rfl
/-- two words put together where they meet -/
def glS : List Nat → List Nat → List Nat
  | x :: s, y :: b => if x = flipC y then glS s b else (y :: b).reverse ++ (x :: s)
  | [], b => b.reverse
  | x :: s, [] => x :: s
theorem RedS.join : ∀ {a : List Nat} {y : Nat} {s : List Nat}, RedS (a ++ [y]) → RedS (y :: s) → RedS (a ++ y :: s)
  | [], _, _, _, h => h
  | [x], y, s, h, k => ⟨h.1, k⟩
  | x :: z :: a, y, s, h, k => ⟨h.1, RedS.join (a := z :: a) h.2 k⟩
theorem glS_run : ∀ {b s : List Nat}, RedS b.reverse → RedS s → glS s b = runS s b
  | [], [], _, _ => rfl
  | [], _ :: _, _, _ => rfl
  | y :: b, [], h, _ => by
    have e := run_of_red (w := y :: b) (s := []) (by rw [List.append_nil]; exact h)
    rw [List.append_nil] at e
    exact e.symm
  | y :: b, x :: s, h, k => by
    rw [List.reverse_cons] at h
    by_cases e : x = flipC y
    · have e1 : pushS (x :: s) y = s := by simp only [pushS, if_pos e]
      rw [glS, if_pos e, runS_cons, e1]
      refine glS_run ?_ k.tail
      exact RedS.prefix h
    · have e1 : pushS (x :: s) y = y :: x :: s := by simp only [pushS, if_neg e]
      rw [glS, if_neg e, runS_cons, e1, List.reverse_cons, List.append_assoc]
      exact (run_of_red (RedS.join h (show RedS (y :: x :: s) from ⟨e, k⟩))).symm
where
  RedS.prefix : ∀ {a b : List Nat}, RedS (a ++ b) → RedS a
  | [], _, _ => trivial
  | [_], _, _ => trivial
  | _ :: y :: a, _, h => ⟨h.1, RedS.prefix (a := y :: a) h.2⟩
end Sf
namespace Sf
open PySem PySem.Spec PyProof.Rows L2 TL
/-! ### texts of words -/
def mkS (l : List Nat) : Str := ⟨l.toArray⟩
theorem tl_mkS (l : List Nat) : tl (mkS l) = l := rfl
theorem mkS_tl (x : Str) : mkS (tl x) = x := mk_tl x
theorem mkS_len (l : List Nat) : (mkS l).length = l.length := by rw [len_tl, tl_mkS]
theorem eq_mkS {x : Str} {l : List Nat} (h : tl x = l) : x = mkS l := ext_tl h
/-- a word undone, reduced, glued, as texts -/
def backT (x : Str) : Str := mkS (backL (tl x))
def shortT (x : Str) : Str := mkS (shortL (tl x))
def gluT (x y : Str) : Str := mkS (glS (tl x).reverse (tl y)).reverse
theorem glS_sg : ∀ {s b : List Nat}, Sg s → Sg b → Sg (glS s b)
  | x :: s, y :: b, hs, hb => by
    unfold glS
    by_cases e : x = flipC y
    · rw [if_pos e]
      exact glS_sg (fun c hc => hs c (List.mem_cons_of_mem _ hc)) (fun c hc => hb c (List.mem_cons_of_mem _ hc))
    · rw [if_neg e]
      intro c hc
      rcases List.mem_append.mp hc with hc | hc
      · exact hb c (List.mem_reverse.mp hc)
      · exact hs c hc
  | [], b, _, hb => fun c hc => hb c (List.mem_reverse.mp (by unfold glS at hc; exact hc))
  | x :: s, [], hs, _ => hs
theorem glS_len : ∀ {s b : List Nat}, (glS s b).length ≤ s.length + b.length
  | x :: s, y :: b => by
    unfold glS
    by_cases e : x = flipC y
    · rw [if_pos e]
      have := glS_len (s := s) (b := b)
      simp only [List.length_cons]
      omega
    · rw [if_neg e]
      simp only [List.length_append, List.length_reverse, List.length_cons]
      omega
  | [], b => by
    unfold glS
    simp
  | x :: s, [] => by
    unfold glS
    simp
theorem gluT_wd {x y : Str} (hx : Wd x) (hy : Wd y) : Wd (gluT x y) := fun c hc => by
  unfold gluT at hc
  rw [tl_mkS, List.mem_reverse] at hc
  exact glS_sg (fun d hd => hx d (List.mem_reverse.mp hd)) hy c hc
theorem gluT_len (x y : Str) : (gluT x y).length ≤ x.length + y.length := by
  unfold gluT
  rw [mkS_len, List.length_reverse, len_tl, len_tl]
  have := glS_len (s := (tl x).reverse) (b := tl y)
  rw [List.length_reverse] at this
  exact this
theorem backT_wd {x : Str} (h : Wd x) : Wd (backT x) := fun c hc => backL_sg h c hc
theorem backT_len (x : Str) : (backT x).length = x.length := by
  unfold backT backL
  rw [mkS_len, List.length_reverse, List.length_map, len_tl]
theorem backT_back {x : Str} (h : Wd x) : backT (backT x) = x := by
  unfold backT
  rw [tl_mkS, backL_back h, mkS_tl]
theorem runS_len : ∀ (w s : List Nat), (runS s w).length ≤ s.length + w.length
  | [], s => by simp [runS]
  | c :: w, s => by
    have h := runS_len w (pushS s c)
    rw [runS_cons]
    have h2 : (pushS s c).length ≤ s.length + 1 := by
      cases s with
      | nil => simp [pushS]
      | cons x t =>
        unfold pushS
        by_cases e : x = flipC c
        · simp only [if_pos e, List.length_cons]
          omega
        · simp only [if_neg e, List.length_cons]
          omega
    simp only [List.length_cons]
    omega
theorem shortL_len (w : List Nat) : (shortL w).length ≤ w.length := by
  unfold shortL
  rw [List.length_reverse]
  have := runS_len w []
  simpa using this
theorem glu_one {l : List Nat} {c : Nat} : (glS l.reverse [c]).reverse = push l c := by
  unfold push
  cases h : l.reverse with
  | nil => rfl
  | cons x t =>
    unfold glS pushS
    by_cases e : x = flipC c
    · simp only [if_pos e]
      cases t <;> rfl
    · simp only [if_neg e]
      rfl
end Sf
namespace Sf
open PySem PySem.Spec PyProof.Rows L2 TL
section
variable {P : Program} {w : World} {K : PySem.W.Frag} {mg : Str → Option Value} {base : Heap}
/-! ### need_word, turned, undone -/
def spNeed : Sp := fun vs H Q _ => ∃ x : Str, vs = [.str x] ∧ Wd x ∧ x.length ≤ 60 ∧ ∀ H', Same H H' → Q .non H'
abbrev HasNeed (P : Program) (w : World) (K : PySem.W.Frag) (mg : Str → Option Value) (base : Heap) : Prop := Has P w K mg base 2 "need_word" ["text"] spNeed
theorem sc_need : FnScope ["text"] ["text"] (defScope s_need_word) := ⟨rfl, rfl, rfl, by decide +kernel, rfl, by decide +kernel, by decide +kernel⟩
theorem has_need (F : FnAt K mg "need_word" s_need_word ["text"]) (hI : HasIsWord P w K mg base) : HasNeed P w K mg base := F.has fun F => by
  obtain ⟨fI, fdI, gI, kI, bI, GI⟩ := hI
  refine F.ok sc_need (fun vs H Q E h => ?_) (fun cdv A outer s H vs Q E hr h => ?_)
  · obtain ⟨x, rfl, _⟩ := h
    rfl
  · obtain ⟨x, rfl, hx, hl, q⟩ := h
    refine ⟨_, pss_one (ps_if (pt_not (pt_val (pe_call GI hr (by rfl) gI kI bI .nil pass0 (pa_cons (pv 0) pa_nil)))) pss_never pss_nil), ?_⟩
    refine ⟨_, rfl, x, rfl, by omega, fun H' s' => ⟨_, rfl, ?_⟩⟩
    rw [isW_true hx hl]
    exact iteF (q H' s')
end
end Sf
namespace Sf
open PySem PySem.Spec PyProof.Rows L2 TL
def MAt (K : PySem.W.Frag) (C : Addr) (m q : Str) (st : Stmt) (ps : List Str) : Prop := ∃ (f : Addr) (fd : FuncData), Meth K C m f ∧ Fun K m q st f fd ∧ Binds K fd ps []
def HasM (P : Program) (w : World) (K : PySem.W.Frag) (mg : Str → Option Value) (base : Heap) (C : Addr) (k : Nat) (m : Str) (ps : List Str) (sp : Sp) : Prop :=
  ∃ (f : Addr) (fd : FuncData), Meth K C m f ∧ Binds K fd ps [] ∧ FnOk P w K mg base CX0 k f fd ps sp
theorem MAt.has {P : Program} {w : World} {K : PySem.W.Frag} {mg : Str → Option Value} {base : Heap} {C : Addr} {k : Nat} {m q : Str} {st : Stmt} {ps : List Str} {sp : Sp} (h : MAt K C m q st ps)
    (ok : ∀ {f : Addr} {fd : FuncData}, Fun K m q st f fd → FnOk P w K mg base CX0 k f fd ps sp) : HasM P w K mg base C k m ps sp := by
  obtain ⟨f, fd, g, F, b⟩ := h
  exact ⟨f, fd, g, b, ok F⟩
theorem mAt_mk {K : PySem.W.Frag} {C : Addr} {m q : Str} {st : Stmt} {ps : List Str} {f : Addr} {oc : Value} {od an : Option Addr} {osl : Array (Option Value)} {kV doc pm cdv ct : Value}
    (a : PySem.W.findIn K (.ref C) m = some (some (.ref f))) (i : PySem.W.isFn K (.ref f) = true) (l : K.lookup f = some ⟨oc, od, .func (PySem.W.fnOf m q (defArgs st) (defBody st) (defScope st) .none kV doc pm an cdv ct), osl⟩)
    (c : PySem.W.codeIn K cdv q = true) (k : PySem.W.keepIn K (.ref f) = true)
    (b : ∀ (kV doc pm : Value) (an : Option Addr) (cdv ct : Value) (us : List Value), us.length = ps.length → bindArgs (PySem.W.fnOf m q (defArgs st) (defBody st) (defScope st) .none kV doc pm an cdv ct) ⟨us, []⟩ = pure (ps.zip us)) : MAt K C m q st ps :=
  ⟨f, _, ⟨a, i, k⟩, fun_mk l c k, (fun_mk l c k).binds b⟩
theorem dc_gen {J : It} {n : Nat} {g : TG} {tt : TT} {tk tv : TE} {vs : List Nat} {σ : L2.St} {H1 : Hp} {D : Addr} {Qd : Hp → Prop} (Pv : Nat → Hp → Prop) (h0 : Pv 0 (upd H1 D (.dK [])))
    (hgo : ∀ i H, i < n → Pv i H → J.go i H) (hst : ∀ H, Pv n H → J.stop n H)
    (hs : ∀ i x H H', i < n → Pv i H → J.yld i H x H' → g x (wipe σ vs) H' fun σ2 H2 => wipe σ2 vs = wipe σ vs ∧ tt σ2 H2 fun b H3 =>
      if b = true then tk σ2 H3 fun y H4 => tv σ2 H4 fun z H5 => ∃ kvs k, y = kV k ∧ H5 D = some (.dK kvs) ∧ kvs.length < sizeLine ∧ Pv (i + 1) (upd H5 D (.dK (putK kvs k z))) else Pv (i + 1) H3) (hd : ∀ H, Pv n H → Qd H) :
    ∃ W : Nat → Nat → Hp → Prop, (∃ m, W 0 m (upd H1 D (.dK []))) ∧ ∀ i m H, W i m H →
      (J.stop i H ∧ Qd H) ∨ (J.go i H ∧ ∃ Nx : Hp → Prop, (∀ H', Nx H' → ∃ m', m' < m ∧ W (i + 1) m' H') ∧ ∀ x H', J.yld i H x H' → g x (wipe σ vs) H' fun σ2 H2 => wipe σ2 vs = wipe σ vs ∧ tt σ2 H2 fun b H3 =>
        if b = true then tk σ2 H3 fun y H4 => tv σ2 H4 fun z H5 => ∃ kvs k, y = kV k ∧ H5 D = some (.dK kvs) ∧ kvs.length < sizeLine ∧ Nx (upd H5 D (.dK (putK kvs k z))) else Nx H3) := by
  refine ⟨fun i m H => m = n - i ∧ i ≤ n ∧ Pv i H, ⟨n, rfl, Nat.zero_le _, h0⟩, ?_⟩
  rintro i m H ⟨rfl, hi, p⟩
  by_cases hlt : i < n
  · exact .inr ⟨hgo i H hlt p, Pv (i + 1), fun H' p' => ⟨n - (i + 1), by omega, rfl, hlt, p'⟩, fun x H' y => hs i x H H' hlt p y⟩
  · have e : i = n := by omega
    subst e
    exact .inl ⟨hst H p, hd H p⟩
theorem kit_self {K : PySem.W.Frag} {t : Value} : PySem.W.kitOne K t t = some true := by
  unfold PySem.W.kitOne
  rw [if_pos (beq_self_eq_true t)]
end Sf
namespace Sf
open PySem PySem.Spec PyProof.Rows L2 TL
section
variable {X : Cx}
/-! ### name = {k: v for ..} on one line, the name a local -/
theorem ps_setDc {i : Nat} {y : Str} {py : Pos} {kx vx tg iter : Expr} {ifs : List Expr} {scope : Scope} {own : List (Str × Nat)} {pos spos : Pos} {wi : TI} {g : TG} {tt : TT} {tk tv : TE} (hc : X.calm = true) (hN : X.N.Nodup) (hy : X.N[i]? = some y) (hyl : X.env.scope.names.lookup y = some .local)
    (hsw : swapsWith (.DictComp kx vx [⟨tg, iter, ifs, 0⟩] scope pos) (some (.Name y py)) spos.line X.env = pure true) (hi : PI X tg iter wi) (ok : BlkOk X.N X.env.scope scope own)
    (hg : ∀ (s : Shared) (H : Hp) (C : Addr) (cl : List (Str × Addr)) (fp : List Addr), PG (X.blk s H scope (compEnvC scope cl C X.env) fp) tg g) (ht : ∀ (s : Shared) (H : Hp) (C : Addr) (cl : List (Str × Addr)) (fp : List Addr), PTs (X.blk s H scope (compEnvC scope cl C X.env) fp) ifs tt)
    (hk : ∀ (s : Shared) (H : Hp) (C : Addr) (cl : List (Str × Addr)) (fp : List Addr), PE (X.blk s H scope (compEnvC scope cl C X.env) fp) kx tk)
    (he : ∀ (s : Shared) (H : Hp) (C : Addr) (cl : List (Str × Addr)) (fp : List Addr), PE (X.blk s H scope (compEnvC scope cl C X.env) fp) vx tv) (hs : ∀ x, foldedSetIterable iter X.env x = pure x := by intro _; rfl) :
    PS X (.Assign [.Name y py] (.DictComp kx vx [⟨tg, iter, ifs, 0⟩] scope pos) spos) (tAsg (tDc wi g tt tk tv (own.map (·.2))) (gName i)) := by
  refine ⟨fun pins s σ H D I h => ?_⟩
  rw [exec_Assign_Name_used _ _ _ _ hsw]
  refine wpAny_bind (wpAny_standAt (wpAny_bind ?_))
  show wpAny _ X.A (do let _ ← comprehension (.DictComp kx vx [⟨tg, iter, ifs, 0⟩] scope pos) scope X.env (firstIterPos [⟨tg, iter, ifs, 0⟩] pos) newDict false (eval iter X.env) (some (assign (.Name y py) X.env))) _ _ s
  have h : tDc wi g tt tk tv (own.map (·.2)) σ H (fun x H1 => gName i x σ H1 D.nx) := h
  refine wpAny_bind (thn (dc_core (Qf := fun _ s' => SP X pins D .next s') hc hN I hi ok hg ht hk he hs h fun L C s' m H' I' q hn f => ?_) fun _ s' hq => wpAny_pure (wpAny_pure hq))
  show wpAny _ _ (assign (.Name y py) X.env (.ref L)) _ _ _
  refine wpAny_assign_Name (store_ok2 (v := V.ref L) I' hN hy (.inl hyl) rfl (fun s2 I2 ⟨a, sb, ha⟩ => ?_) (.inr hyl))
  obtain ⟨f0, f1, f2, f3, f4, f5⟩ := f
  have haC : C ≠ a := by
    rcases ha with z | z
    · rw [z]; exact f1
    · exact fun e => f4 y a z e.symm
  refine ⟨m, hn.sameBut sb haC, fun h3 sb3 => ?_⟩
  exact ⟨_, H', I2.turned (t' := s2.toks) (fun b o hb e => (sb3.2 b hb).trans e) f0 f1 f3 f4 f5, q⟩
theorem swD_true {kx vx : Expr} {gs : List Comprehension} {scope : Scope} {pos py : Pos} {y : Str} {l : Nat} {env : Env} (hk : env.scope.kind = .function) (hy : env.scope.names.lookup y = some .local) (hl : (py.line == pos.line) = true)
    (ha : (scope.names.any fun (n, k) => n == y && (k == .local || k == .cell)) = false) : swapsWith (.DictComp kx vx gs scope pos) (some (.Name y py)) l env = pure true := by
  have ky : env.kindOf y = some .local := hy
  have hb : env.blockKind = .function := by unfold Env.blockKind; rw [hk]; rfl
  unfold swapsWith
  simp only [hb, ky, ha, Expr.pos, hl]
  rfl
end
end Sf
namespace Sf
open PySem PySem.Spec PyProof.Rows L2 TL
/-! ### the readings, step by step -/
theorem pe_gS {X : Cx} {x z : Str} {t : Tok} {pos : Pos} (hg : Gl X x) (hm : X.mg x = some (.str z t)) (hd : (x == ("__debug__" : Str)) = false := by decide) : PE X (.Name x pos) (tC (.str z)) := pe_glob (v := .str z) hg hm ⟨t, rfl⟩ hd
theorem pe_gI {X : Cx} {x : Str} {z : Int} {t : Tok} {pos : Pos} (hg : Gl X x) (hm : X.mg x = some (.int z t)) (hd : (x == ("__debug__" : Str)) = false := by decide) : PE X (.Name x pos) (tC (.int z)) := pe_glob (v := .int z) hg hm ⟨t, rfl⟩ hd
/-- a new object at p -/
structure Nw (p : Addr) (H H1 : Hp) : Prop where
  nn : H p = none
  off : ∀ a, a ≠ p → H1 a = H a
/-- all but what stands at p is as it was -/
def Of (p : Addr) (H H1 : Hp) : Prop := ∀ a, a ≠ p → H1 a = H a
theorem Nw.at {p a : Addr} {H H1 : Hp} {o : HO} (n : Nw p H H1) (h : H a = some o) : H1 a = some o := by
  rw [n.off a (ne_of_none h n.nn)]
  exact h
theorem Nw.same {p : Addr} {H H1 : Hp} (n : Nw p H H1) : Same H H1 := fun _ _ h => n.at h
theorem Nw.ne {p a : Addr} {H H1 : Hp} {o : HO} (n : Nw p H H1) (h : H a = some o) : a ≠ p := ne_of_none h n.nn
theorem _root_.L2.Same.at {a : Addr} {H H1 : Hp} {o : HO} (n : Same H H1) (h : H a = some o) : H1 a = some o := n _ _ h
theorem Of.at {p a : Addr} {H H1 : Hp} {o : HO} (n : Of p H H1) (ne : a ≠ p) (h : H a = some o) : H1 a = some o := by
  rw [n a ne]
  exact h
theorem Fx.at {b a : Addr} {H H1 : Hp} {o : HO} (n : Fx b H H1) (ne : a ≠ b) (h : H a = some o) : H1 a = some o := n _ _ h ne
theorem Nw.mk' {p : Addr} {H : Hp} {o : HO} (h : H p = none) : Nw p H (upd H p o) := ⟨h, fun _ n => upd_ne n⟩
theorem _root_.L2.Same.off {p : Addr} {H H1 H2 : Hp} (s : Same H H1) (o : Of p H1 H2) (n : H p = none) : Same H H2 := fun a u h => o.at (ne_of_none h n) (s _ _ h)
theorem _root_.L2.Same.nw {p : Addr} {H H1 H2 : Hp} (s : Same H H1) (o : Nw p H1 H2) : Same H H2 := s.trans o.same
theorem Of.mk' {p : Addr} {H : Hp} {o : HO} : Of p H (upd H p o) := fun _ n => upd_ne n
theorem Bag.nw {H H1 : Hp} {b l p : Addr} (h : Bag H b l) (n : Nw p H H1) : Bag H1 b l := h.same n.same
theorem Bag.off {H H1 : Hp} {b l p : Addr} (h : Bag H b l) (n1 : p ≠ b) (n2 : p ≠ l) (o : Of p H H1) : Bag H1 b l := by
  obtain ⟨ns, k, z, r, h⟩ := h
  exact ⟨ns, k, z, r, o.at n1.symm h.hb, o.at n2.symm h.hl, h.k0, h.z0, h.r0, h.r1⟩
theorem Fx.nw {b p : Addr} {H H1 H2 : Hp} (f : Fx b H H1) (n : Nw p H1 H2) : Fx b H H2 := f.same n.same
theorem Fx.off {b p : Addr} {H H1 H2 : Hp} (f : Fx b H H1) (o : Of p H1 H2) (n : H p = none) : Fx b H H2 := fun a u e hb => o.at (ne_of_none e n) (f a u e hb)
section
variable {σ : L2.St} {H : Hp} {Q : VK} {D : Ends} {K : PySem.W.Frag}
theorem w_var {i : Nat} {v : V} (h : σ[i]? = some (some v)) (q : Q v H) : tVar i σ H Q := ⟨v, h, q⟩
theorem w_c {v : V} (q : Q v H) : tC v σ H Q := q
theorem w_op {r : R2} {ta tb : TE} (q : ta σ H fun x H1 => tb σ H1 fun y H2 => r x y H2 Q) : tOp r ta tb σ H Q := q
theorem w_un {r : V → Hp → VK → Prop} {ta : TE} (q : ta σ H fun x H1 => r x H1 Q) : tUn r ta σ H Q := q
theorem w_i0 {g : Int → Int → V} {i j : Int} (q : Q (g i j) H) : rI0 g (.int i) (.int j) H Q := ⟨i, j, rfl, rfl, q⟩
theorem w_i {C : Int → Int → Prop} {g : Int → Int → V} {i j : Int} (c : C i j) (q : Q (g i j) H) : rI C g (.int i) (.int j) H Q := ⟨i, j, rfl, rfl, c, q⟩
theorem w_u {g : Int → V} {i : Int} (q : Q (g i) H) : rU g (.int i) H Q := ⟨i, rfl, q⟩
theorem dec_int (i j : Int) : decide (V.int i = V.int j) = decide (i = j) := by
  by_cases h : i = j
  · subst h; simp
  · rw [decide_eq_false h, decide_eq_false (fun e => h (V.int.inj e))]
theorem dec_str (i j : Str) : decide (V.str i = V.str j) = decide (i = j) := by
  by_cases h : i = j
  · subst h; simp
  · rw [decide_eq_false h, decide_eq_false (fun e => h (V.str.inj e))]
theorem dec_bl (i j : Bool) : decide (V.bl i = V.bl j) = decide (i = j) := by
  by_cases h : i = j
  · subst h; simp
  · rw [decide_eq_false h, decide_eq_false (fun e => h (V.bl.inj e))]
theorem w_eqI {i j : Int} (q : Q (.bl (decide (i = j))) H) : rEq (.int i) (.int j) H Q := ⟨rfl, by rw [dec_int]; exact q⟩
theorem w_neI {i j : Int} (q : Q (.bl (!decide (i = j))) H) : rNe (.int i) (.int j) H Q := ⟨rfl, by rw [dec_int]; exact q⟩
theorem w_eqS {i j : Str} (q : Q (.bl (decide (i = j))) H) : rEq (.str i) (.str j) H Q := ⟨rfl, by rw [dec_str]; exact q⟩
theorem w_neS {i j : Str} (q : Q (.bl (!decide (i = j))) H) : rNe (.str i) (.str j) H Q := ⟨rfl, by rw [dec_str]; exact q⟩
theorem w_eqB {i j : Bool} (q : Q (.bl (decide (i = j))) H) : rEq (.bl i) (.bl j) H Q := ⟨rfl, by rw [dec_bl]; exact q⟩
theorem w_neB {i j : Bool} (q : Q (.bl (!decide (i = j))) H) : rNe (.bl i) (.bl j) H Q := ⟨rfl, by rw [dec_bl]; exact q⟩
/-! texts -/
def rAddStr : R2 := fun x y H Q => ∃ i j, x = .str i ∧ y = .str j ∧ i.length + j.length ≤ sizeLine ∧ Q (.str (i ++ j)) H
theorem op_addS {X : Cx} : OpR X (binaryOp .Add) rAddStr := op_add_str
theorem w_addS {i j : Str} (h : i.length + j.length ≤ sizeLine) (q : Q (.str (i ++ j)) H) : rAddStr (.str i) (.str j) H Q := ⟨i, j, rfl, rfl, h, q⟩
def rInSign : R2 := fun x y H Q => ∃ (c : Nat) (z : Str), x = .str ⟨#[c]⟩ ∧ y = .str z ∧ Q (.bl (decide (c ∈ z.cps.toList))) H
theorem op_inSg {X : Cx} : OpR X (compareOp .In) rInSign := op_in_sign
theorem w_inSg {c : Nat} {z : Str} (q : Q (.bl (decide (c ∈ z.cps.toList))) H) : rInSign (.str (one c)) (.str z) H Q := ⟨c, z, rfl, rfl, q⟩
def rNotInSign : R2 := fun x y H Q => ∃ (c : Nat) (z : Str), x = .str ⟨#[c]⟩ ∧ y = .str z ∧ Q (.bl (!decide (c ∈ z.cps.toList))) H
theorem op_notInSg {X : Cx} : OpR X (compareOp .NotIn) rNotInSign := op_notIn_sign
theorem w_notInSg {c : Nat} {z : Str} (q : Q (.bl (!decide (c ∈ z.cps.toList))) H) : rNotInSign (.str (one c)) (.str z) H Q := ⟨c, z, rfl, rfl, q⟩
def rIsNone : R2 := fun x y H Q => y = .non ∧ Q (.bl (decide (x = .non))) H
theorem op_isNn {X : Cx} : OpR X (compareOp .Is) rIsNone := op_isN
theorem w_isN {x : V} (q : Q (.bl (decide (x = .non))) H) : rIsNone x .non H Q := ⟨rfl, q⟩
theorem w_isNI {i : Int} (q : Q (.bl false) H) : rIsNone (.int i) .non H Q := ⟨rfl, by rw [decide_eq_false (fun z => nomatch z)]; exact q⟩
theorem w_isNN (q : Q (.bl true) H) : rIsNone .non .non H Q := ⟨rfl, by rw [decide_eq_true rfl]; exact q⟩
def rNotNone : R2 := fun x y H Q => y = .non ∧ Q (.bl (!decide (x = .non))) H
theorem op_notNn {X : Cx} : OpR X (compareOp .IsNot) rNotNone := op_notN
theorem w_notN {x : V} (q : Q (.bl (!decide (x = .non))) H) : rNotNone x .non H Q := ⟨rfl, q⟩
theorem w_notNI {i : Int} (q : Q (.bl true) H) : rNotNone (.int i) .non H Q := ⟨rfl, by rw [decide_eq_false (fun z => nomatch z)]; exact q⟩
theorem w_notNN (q : Q (.bl false) H) : rNotNone .non .non H Q := ⟨rfl, by rw [decide_eq_true rfl]; exact q⟩
theorem w_slS {z : Str} {lo hi : Option Int} (h : z.length ≤ sizeLine) (q : Q (.str (cutS z lo hi)) H) : rSlS (.str z) lo hi H Q := ⟨z, rfl, h, q⟩
theorem w_sl {r : V → Option Int → Option Int → Hp → VK → Prop} {te : TE} {tl th : TO} (q : te σ H fun x H1 => tl σ H1 fun l H2 => th σ H2 fun u H3 => r x l u H3 Q) : tSl r te tl th σ H Q := q
theorem w_nopart {Q : Option Int → Hp → Prop} (q : Q none H) : tNoPart σ H Q := q
def kPart (Q : Option Int → Hp → Prop) : VK := fun x H1 => ∃ i, x = .int i ∧ Q (some i) H1
theorem w_part {t : TE} {Q : Option Int → Hp → Prop} (q : t σ H (kPart Q)) : tPart t σ H Q := q
theorem w_kpart {i : Int} {Q : Option Int → Hp → Prop} (q : Q (some i) H) : kPart Q (.int i) H := ⟨i, rfl, q⟩
theorem w_ixS {z : Str} {i : Int} {c : Nat} (hl : z.length ≤ sizeLine) (h : atI z.cps.toList i = some c) (q : Q (.str (one c)) H) : rIxS (.str z) (.int i) H Q := ⟨z, i, c, rfl, rfl, hl, h, q⟩
theorem w_ixL {p : Addr} {xs : List V} {i : Int} {v : V} (h : H p = some (.lst xs)) (e : atI xs i = some v) (q : Q v H) : rIxL K (.ref p) (.int i) H Q := ⟨p, xs, i, v, rfl, rfl, SqL.of h, e, q⟩
theorem w_ixT {p : Addr} {xs : List V} {i : Int} {v : V} (h : H p = some (.tup xs)) (e : atI xs i = some v) (q : Q v H) : rIxT K (.ref p) (.int i) H Q := ⟨p, xs, i, v, rfl, rfl, SqT.of h, e, q⟩
/-! truth -/
def kB (Q : Bool → Hp → Prop) : VK := fun x H' => ∃ k, x = .bl k ∧ Q k H'
theorem w_test {t : TE} {Q : Bool → Hp → Prop} (q : t σ H (kB Q)) : tTest t σ H Q := q
theorem w_tB {t : TE} {Q : Bool → Hp → Prop} (q : t σ H (kB Q)) : tB t σ H Q := q
theorem w_kB {c : Bool} {Q : Bool → Hp → Prop} (q : Q c H) : kB Q (.bl c) H := ⟨c, rfl, q⟩
def kAnd (u : TT) (σ : L2.St) (Q : Bool → Hp → Prop) : Bool → Hp → Prop := fun c H1 => if c = true then u σ H1 Q else Q false H1
theorem w_and {t u : TT} {Q : Bool → Hp → Prop} (q : t σ H (kAnd u σ Q)) : tAnd t u σ H Q := q
theorem w_andT {u : TT} {Q : Bool → Hp → Prop} (q : u σ H Q) : kAnd u σ Q true H := iteT q
theorem w_andF {u : TT} {Q : Bool → Hp → Prop} (q : Q false H) : kAnd u σ Q false H := iteF q
theorem w_and2 {p : Prop} [Decidable p] {u : TT} {Q : Bool → Hp → Prop} (h1 : p → u σ H Q) (h2 : ¬ p → Q false H) : kAnd u σ Q (decide p) H :=
  ite2 (fun e => h1 (of_decide_eq_true e)) fun e => h2 fun z => e (decide_eq_true z)
theorem w_andN2 {p : Prop} [Decidable p] {u : TT} {Q : Bool → Hp → Prop} (h1 : ¬ p → u σ H Q) (h2 : p → Q false H) : kAnd u σ Q (!decide p) H := by
  by_cases h : p
  · rw [decide_eq_true h]; exact iteF (h2 h)
  · rw [decide_eq_false h]; exact iteT (h1 h)
theorem w_andB {b : Bool} {u : TT} {Q : Bool → Hp → Prop} (h1 : b = true → u σ H Q) (h2 : b = false → Q false H) : kAnd u σ Q b H := by
  cases b with
  | true => exact iteT (h1 rfl)
  | false => exact iteF (h2 rfl)
def kOr (u : TT) (σ : L2.St) (Q : Bool → Hp → Prop) : Bool → Hp → Prop := fun c H1 => if c = true then Q true H1 else u σ H1 Q
theorem w_or {t u : TT} {Q : Bool → Hp → Prop} (q : t σ H (kOr u σ Q)) : tOr t u σ H Q := q
theorem w_orT {u : TT} {Q : Bool → Hp → Prop} (q : Q true H) : kOr u σ Q true H := iteT q
theorem w_orF {u : TT} {Q : Bool → Hp → Prop} (q : u σ H Q) : kOr u σ Q false H := iteF q
theorem w_or2 {p : Prop} [Decidable p] {u : TT} {Q : Bool → Hp → Prop} (h1 : p → Q true H) (h2 : ¬ p → u σ H Q) : kOr u σ Q (decide p) H :=
  ite2 (fun e => h1 (of_decide_eq_true e)) fun e => h2 fun z => e (decide_eq_true z)
theorem w_orN2 {p : Prop} [Decidable p] {u : TT} {Q : Bool → Hp → Prop} (h1 : ¬ p → Q true H) (h2 : p → u σ H Q) : kOr u σ Q (!decide p) H := by
  by_cases h : p
  · rw [decide_eq_true h]; exact iteF (h2 h)
  · rw [decide_eq_false h]; exact iteT (h1 h)
theorem w_orB {b : Bool} {u : TT} {Q : Bool → Hp → Prop} (h1 : b = true → Q true H) (h2 : b = false → u σ H Q) : kOr u σ Q b H := by
  cases b with
  | true => exact iteT (h1 rfl)
  | false => exact iteF (h2 rfl)
def kNot (Q : Bool → Hp → Prop) : Bool → Hp → Prop := fun c H1 => Q (!c) H1
theorem w_not {t : TT} {Q : Bool → Hp → Prop} (q : t σ H (kNot Q)) : tNot t σ H Q := q
theorem w_kNot {c : Bool} {Q : Bool → Hp → Prop} (q : Q (!c) H) : kNot Q c H := q
theorem w_kNotT {Q : Bool → Hp → Prop} (q : Q false H) : kNot Q true H := q
theorem w_kNotF {Q : Bool → Hp → Prop} (q : Q true H) : kNot Q false H := q
theorem w_kNotN {p : Prop} [Decidable p] {Q : Bool → Hp → Prop} (q : Q (decide p) H) : kNot Q (!decide p) H := by
  show Q (!!decide p) H
  rw [Bool.not_not]
  exact q
/-! truth as values -/
def kAndV (tb : TE) (σ : L2.St) (Q : VK) : VK := fun x H1 => ∃ c, x = .bl c ∧ if c = true then tb σ H1 Q else Q (.bl false) H1
theorem w_andV {ta tb : TE} (q : ta σ H (kAndV tb σ Q)) : tAndV ta tb σ H Q := q
theorem w_andVT {tb : TE} (q : tb σ H Q) : kAndV tb σ Q (.bl true) H := ⟨true, rfl, iteT q⟩
theorem w_andVF {tb : TE} (q : Q (.bl false) H) : kAndV tb σ Q (.bl false) H := ⟨false, rfl, iteF q⟩
theorem w_andV2 {p : Prop} [Decidable p] {tb : TE} (h1 : p → tb σ H Q) (h2 : ¬ p → Q (.bl false) H) : kAndV tb σ Q (.bl (decide p)) H :=
  ⟨_, rfl, ite2 (fun e => h1 (of_decide_eq_true e)) fun e => h2 fun z => e (decide_eq_true z)⟩
theorem w_andVB {b : Bool} {tb : TE} (h1 : b = true → tb σ H Q) (h2 : b = false → Q (.bl false) H) : kAndV tb σ Q (.bl b) H := by
  cases b with
  | true => exact w_andVT (h1 rfl)
  | false => exact w_andVF (h2 rfl)
def kOrV (tb : TE) (σ : L2.St) (Q : VK) : VK := fun x H1 => ∃ c, x = .bl c ∧ if c = true then Q (.bl true) H1 else tb σ H1 Q
theorem w_orV {ta tb : TE} (q : ta σ H (kOrV tb σ Q)) : tOrV ta tb σ H Q := q
theorem w_orVB {b : Bool} {tb : TE} (h1 : b = true → Q (.bl true) H) (h2 : b = false → tb σ H Q) : kOrV tb σ Q (.bl b) H := by
  cases b with
  | true => exact ⟨true, rfl, iteT (h1 rfl)⟩
  | false => exact ⟨false, rfl, iteF (h2 rfl)⟩
def kNotV (Q : VK) : VK := fun x H1 => ∃ c, x = .bl c ∧ Q (.bl (!c)) H1
theorem w_notV {ta : TE} (q : ta σ H (kNotV Q)) : tNotV ta σ H Q := q
theorem w_kNotV {c : Bool} (q : Q (.bl (!c)) H) : kNotV Q (.bl c) H := ⟨c, rfl, q⟩
theorem w_kNotVF (q : Q (.bl true) H) : kNotV Q (.bl false) H := ⟨false, rfl, q⟩
theorem w_kNotVT (q : Q (.bl false) H) : kNotV Q (.bl true) H := ⟨true, rfl, q⟩
def kIfE (ta tb : TE) (σ : L2.St) (Q : VK) : Bool → Hp → Prop := fun c H1 => if c = true then ta σ H1 Q else tb σ H1 Q
theorem w_ifE {t : TT} {ta tb : TE} (q : t σ H (kIfE ta tb σ Q)) : tIf t ta tb σ H Q := q
theorem w_ifET {ta tb : TE} (q : ta σ H Q) : kIfE ta tb σ Q true H := iteT q
theorem w_ifEF {ta tb : TE} (q : tb σ H Q) : kIfE ta tb σ Q false H := iteF q
theorem w_ifE2 {p : Prop} [Decidable p] {ta tb : TE} (h1 : p → ta σ H Q) (h2 : ¬ p → tb σ H Q) : kIfE ta tb σ Q (decide p) H :=
  ite2 (fun e => h1 (of_decide_eq_true e)) fun e => h2 fun z => e (decide_eq_true z)
theorem w_ifEN2 {p : Prop} [Decidable p] {ta tb : TE} (h1 : ¬ p → ta σ H Q) (h2 : p → tb σ H Q) : kIfE ta tb σ Q (!decide p) H := by
  by_cases h : p
  · rw [decide_eq_true h]; exact iteF (h2 h)
  · rw [decide_eq_false h]; exact iteT (h1 h)
theorem w_ifEB {b : Bool} {ta tb : TE} (h1 : b = true → ta σ H Q) (h2 : b = false → tb σ H Q) : kIfE ta tb σ Q b H := by
  cases b with
  | true => exact iteT (h1 rfl)
  | false => exact iteF (h2 rfl)
def kChain (r' : R2) (tc : TE) (y : V) (σ : L2.St) (Q : VK) : VK := fun z H3 => ∃ k, z = .bl k ∧ (if k = true then tc σ H3 fun w' H4 => r' y w' H4 Q else Q (.bl false) H3)
theorem w_chain {r r' : R2} {ta tb tc : TE} (q : ta σ H fun x H1 => tb σ H1 fun y H2 => r x y H2 (kChain r' tc y σ Q)) : tChain r r' ta tb tc σ H Q := q
theorem w_chain2 {p : Prop} [Decidable p] {r' : R2} {tc : TE} {y : V} (h1 : p → tc σ H fun w' H4 => r' y w' H4 Q) (h2 : ¬ p → Q (.bl false) H) : kChain r' tc y σ Q (.bl (decide p)) H :=
  ⟨_, rfl, ite2 (fun e => h1 (of_decide_eq_true e)) fun e => h2 fun z => e (decide_eq_true z)⟩
/-! arguments, displays -/
theorem w_nil {Q : List V → Hp → Prop} (q : Q [] H) : tNil σ H Q := q
theorem w_cons {ta : TE} {tr : TA} {Q : List V → Hp → Prop} (q : ta σ H fun x H1 => tr σ H1 fun xs H2 => Q (x :: xs) H2) : tCons ta tr σ H Q := q
def kNewL (Q : VK) : List V → Hp → Prop := fun xs H1 => xs.length ≤ sizeLine ∧ ∀ p, H1 p = none → Q (.ref p) (upd H1 p (.lst xs))
def kNewT (Q : VK) : List V → Hp → Prop := fun xs H1 => xs.length ≤ sizeLine ∧ ∀ p, H1 p = none → Q (.ref p) (upd H1 p (.tup xs))
theorem w_lst {t : TA} (q : t σ H (kNewL Q)) : tLst t σ H Q := q
theorem w_tup {t : TA} (q : t σ H (kNewT Q)) : tTup t σ H Q := q
theorem w_newL {xs : List V} (hl : xs.length ≤ sizeLine) (k : ∀ p H1, H1 p = some (.lst xs) → Nw p H H1 → Q (.ref p) H1) : kNewL Q xs H := ⟨hl, fun _ n => k _ _ upd_same (.mk' n)⟩
theorem w_newT {xs : List V} (hl : xs.length ≤ sizeLine) (k : ∀ p H1, H1 p = some (.tup xs) → Nw p H H1 → Q (.ref p) H1) : kNewT Q xs H := ⟨hl, fun _ n => k _ _ upd_same (.mk' n)⟩
theorem w_slL {p : Addr} {xs : List V} {lo hi : Option Int} (h : H p = some (.lst xs)) (k : ∀ q H1, H1 q = some (.lst (cutV xs lo hi)) → Nw q H H1 → Q (.ref q) H1) : rSlL K (.ref p) lo hi H Q :=
  ⟨p, xs, rfl, SqL.of h, fun _ n => k _ _ upd_same (.mk' n)⟩
theorem w_cat {l b : Addr} {xs zs : List V} (h1 : H l = some (.lst xs)) (h2 : H b = some (.lst zs)) (hl : xs.length + zs.length ≤ sizeLine) (k : ∀ q H1, H1 q = some (.lst (xs ++ zs)) → Nw q H H1 → Q (.ref q) H1) : rCat (.ref l) (.ref b) H Q :=
  ⟨l, b, xs, zs, rfl, rfl, h1, h2, hl, fun _ n => k _ _ upd_same (.mk' n)⟩
/-! calls -/
theorem w_cb {r : List V → Hp → VK → Prop} {t : TA} (q : t σ H fun vs H1 => r vs H1 Q) : tCB r t σ H Q := q
theorem w_call {sp : Sp} {dvs : List V} {E : XK} {t : TA} (q : t σ H fun vs H1 => sp (vs ++ dvs) H1 Q E) : tCall sp dvs E t σ H Q := q
def kMeth (C : Addr) (m : Str) (sp : Sp) (dvs : List V) (E : XK) (t : TA) (σ : L2.St) (Q : VK) : VK := fun x H1 => ∃ a dx fs, x = .ref a ∧ H1 a = some (.ins C dx fs) ∧ fs.lookup m = none ∧ t σ H1 fun vs H2 => sp (x :: (vs ++ dvs)) H2 Q E
theorem w_meth {C : Addr} {m : Str} {sp : Sp} {dvs : List V} {E : XK} {ta : TE} {t : TA} (q : ta σ H (kMeth C m sp dvs E t σ Q)) : tMeth C m sp dvs E ta t σ H Q := q
theorem w_kMeth {C a dx : Addr} {fs : List (Str × V)} {m : Str} {sp : Sp} {dvs : List V} {E : XK} {t : TA} (h : H a = some (.ins C dx fs)) (hm : fs.lookup m = none) (q : t σ H fun vs H2 => sp (.ref a :: (vs ++ dvs)) H2 Q E) : kMeth C m sp dvs E t σ Q (.ref a) H := ⟨a, dx, fs, rfl, h, hm, q⟩
def kMake (C : Addr) (sp : Sp) (dvs : List V) (E : XK) (Q : VK) : List V → Hp → Prop := fun vs H1 => ∀ x dx, H1 x = none → H1 dx = none → dx ≠ x →
  sp (.ref x :: (vs ++ dvs)) (upd (upd H1 dx (.own x)) x (.ins C dx [])) (fun v H2 => v = .non ∧ Q (.ref x) H2) E
theorem w_make {C : Addr} {sp : Sp} {dvs : List V} {E : XK} {t : TA} (q : t σ H (kMake C sp dvs E Q)) : tMake C sp dvs E t σ H Q := q
def kFld (K : PySem.W.Frag) (f : Str) (Q : VK) : VK := fun x H1 => ∃ a C dx fs v, x = .ref a ∧ H1 a = some (.ins C dx fs) ∧ Cls K C ∧ NoAttr K C f ∧ fs.lookup f = some v ∧ Q v H1
theorem w_fld {ta : TE} {f : Str} (q : ta σ H (kFld K f Q)) : tFld K ta f σ H Q := q
theorem w_kFld {a C dx : Addr} {fs : List (Str × V)} {f : Str} {v : V} (h : H a = some (.ins C dx fs)) (c : Cls K C) (n : NoAttr K C f) (e : fs.lookup f = some v) (q : Q v H) : kFld K f Q (.ref a) H := ⟨a, C, dx, fs, v, rfl, h, c, n, e, q⟩
def rLenSeq (K : PySem.W.Frag) : List V → Hp → VK → Prop := fun xs H Q => ∃ p ys, xs = [.ref p] ∧ (SqL K H p ys ∨ SqT K H p ys) ∧ Q (.int ys.length) H
theorem call_lenQ {X : Cx} : CallR X (.builtin "len") (rLenSeq X.K) := call_len_seq
theorem w_lenL {p : Addr} {ys : List V} (h : H p = some (.lst ys)) (q : Q (.int ys.length) H) : rLenSeq K [.ref p] H Q := ⟨p, ys, rfl, .inl (SqL.of h), q⟩
theorem w_lenT {p : Addr} {ys : List V} (h : H p = some (.tup ys)) (q : Q (.int ys.length) H) : rLenSeq K [.ref p] H Q := ⟨p, ys, rfl, .inr (SqT.of h), q⟩
def rLenStr : List V → Hp → VK → Prop := fun xs H Q => ∃ z, xs = [.str z] ∧ z.length ≤ sizeLine ∧ Q (.int z.length) H
theorem call_lenS {X : Cx} : CallR X (.builtin "len") rLenStr := call_len_str
theorem w_lenS {z : Str} (h : z.length ≤ sizeLine) (q : Q (.int z.length) H) : rLenStr [.str z] H Q := ⟨z, rfl, h, q⟩
def rLenDct : List V → Hp → VK → Prop := fun xs H Q => ∃ a kvs, xs = [V.ref a] ∧ H a = some (.dK kvs) ∧ Q (.int kvs.length) H
theorem call_lenDc {X : Cx} : CallR X (.builtin "len") rLenDct := call_lenD
theorem w_lenD {p : Addr} {kvs : List (Key × V)} (h : H p = some (.dK kvs)) (q : Q (.int kvs.length) H) : rLenDct [.ref p] H Q := ⟨p, kvs, rfl, h, q⟩
def rMin2 : List V → Hp → VK → Prop := fun xs H Q => ∃ i j, xs = [.int i, .int j] ∧ Q (.int (if j < i then j else i)) H
theorem call_min2N {X : Cx} (hc : X.calm = true) : CallR X (.builtin "min") rMin2 := call_min2 hc
theorem w_min2 {i j : Int} (q : Q (.int (if j < i then j else i)) H) : rMin2 [.int i, .int j] H Q := ⟨i, j, rfl, q⟩
def rMax2 : List V → Hp → VK → Prop := fun xs H Q => ∃ i j, xs = [.int i, .int j] ∧ Q (.int (if j > i then j else i)) H
theorem call_max2N {X : Cx} (hc : X.calm = true) : CallR X (.builtin "max") rMax2 := call_max2 hc
theorem w_max2 {i j : Int} (q : Q (.int (if j > i then j else i)) H) : rMax2 [.int i, .int j] H Q := ⟨i, j, rfl, q⟩
def rListOf (K : PySem.W.Frag) : List V → Hp → VK → Prop := fun xs H Q => ∃ p ys, xs = [.ref p] ∧ (SqL K H p ys ∨ SqT K H p ys) ∧ ∀ l, H l = none → Q (.ref l) (upd H l (.lst ys))
theorem call_listO {X : Cx} : CallR X (.type "list") (rListOf X.K) := call_list_of
theorem w_listL {p : Addr} {ys : List V} (h : H p = some (.lst ys)) (k : ∀ l H1, H1 l = some (.lst ys) → Nw l H H1 → Q (.ref l) H1) : rListOf K [.ref p] H Q := ⟨p, ys, rfl, .inl (SqL.of h), fun _ n => k _ _ upd_same (.mk' n)⟩
theorem w_listT {p : Addr} {ys : List V} (h : H p = some (.tup ys)) (k : ∀ l H1, H1 l = some (.lst ys) → Nw l H H1 → Q (.ref l) H1) : rListOf K [.ref p] H Q := ⟨p, ys, rfl, .inr (SqT.of h), fun _ n => k _ _ upd_same (.mk' n)⟩
def rTupOf (K : PySem.W.Frag) : List V → Hp → VK → Prop := fun xs H Q => ∃ p ys, xs = [.ref p] ∧ ((SqL K H p ys ∧ ∀ l, H l = none → Q (.ref l) (upd H l (.tup ys))) ∨ (SqT K H p ys ∧ Q (.ref p) H))
theorem call_tupO {X : Cx} : CallR X (.type "tuple") (rTupOf X.K) := call_tuple_of
theorem w_tupL {p : Addr} {ys : List V} (h : H p = some (.lst ys)) (k : ∀ l H1, H1 l = some (.tup ys) → Nw l H H1 → Q (.ref l) H1) : rTupOf K [.ref p] H Q := ⟨p, ys, rfl, .inl ⟨SqL.of h, fun _ n => k _ _ upd_same (.mk' n)⟩⟩
theorem w_all {p : Addr} {bs : List Bool} (h : H p = some (.lst (bs.map V.bl))) (q : Q (.bl (bs.all id)) H) : rAll K [.ref p] H Q := ⟨p, bs, rfl, SqL.of h, q⟩
theorem w_any {p : Addr} {bs : List Bool} (h : H p = some (.lst (bs.map V.bl))) (q : Q (.bl (bs.any id)) H) : rAny K [.ref p] H Q := ⟨p, bs, rfl, SqL.of h, q⟩
theorem w_isi_int_int {i : Int} (q : Q (.bl true) H) : rIsi K [(.int i), .ty "int"] H Q := ⟨_, _, _, _, true, rfl, .ty "int", .base (.int i), kit_ty (by decide +kernel), q⟩
theorem w_isi_int_bool {i : Int} (q : Q (.bl false) H) : rIsi K [(.int i), .ty "bool"] H Q := ⟨_, _, _, _, false, rfl, .ty "bool", .base (.int i), kit_ty (by decide +kernel), q⟩
theorem w_isi_int_str {i : Int} (q : Q (.bl false) H) : rIsi K [(.int i), .ty "str"] H Q := ⟨_, _, _, _, false, rfl, .ty "str", .base (.int i), kit_ty (by decide +kernel), q⟩
theorem w_isi_str_int {i : Str} (q : Q (.bl false) H) : rIsi K [(.str i), .ty "int"] H Q := ⟨_, _, _, _, false, rfl, .ty "int", .base (.str i), kit_ty (by decide +kernel), q⟩
theorem w_isi_str_bool {i : Str} (q : Q (.bl false) H) : rIsi K [(.str i), .ty "bool"] H Q := ⟨_, _, _, _, false, rfl, .ty "bool", .base (.str i), kit_ty (by decide +kernel), q⟩
theorem w_isi_str_str {i : Str} (q : Q (.bl true) H) : rIsi K [(.str i), .ty "str"] H Q := ⟨_, _, _, _, true, rfl, .ty "str", .base (.str i), kit_ty (by decide +kernel), q⟩
theorem w_isi_bool_int {i : Bool} (q : Q (.bl true) H) : rIsi K [(.bl i), .ty "int"] H Q := ⟨_, _, _, _, true, rfl, .ty "int", .base (.bl i), kit_ty (by decide +kernel), q⟩
theorem w_isi_bool_bool {i : Bool} (q : Q (.bl true) H) : rIsi K [(.bl i), .ty "bool"] H Q := ⟨_, _, _, _, true, rfl, .ty "bool", .base (.bl i), kit_ty (by decide +kernel), q⟩
theorem w_isi_bool_str {i : Bool} (q : Q (.bl false) H) : rIsi K [(.bl i), .ty "str"] H Q := ⟨_, _, _, _, false, rfl, .ty "str", .base (.bl i), kit_ty (by decide +kernel), q⟩
theorem w_isi_NoneType_int  (q : Q (.bl false) H) : rIsi K [.non, .ty "int"] H Q := ⟨_, _, _, _, false, rfl, .ty "int", .base .non, kit_ty (by decide +kernel), q⟩
theorem w_isi_NoneType_str  (q : Q (.bl false) H) : rIsi K [.non, .ty "str"] H Q := ⟨_, _, _, _, false, rfl, .ty "str", .base .non, kit_ty (by decide +kernel), q⟩
theorem w_isi_NoneType_bool  (q : Q (.bl false) H) : rIsi K [.non, .ty "bool"] H Q := ⟨_, _, _, _, false, rfl, .ty "bool", .base .non, kit_ty (by decide +kernel), q⟩
/-! methods of lists, texts -/
def kBM (K : PySem.W.Frag) (T : String) (r : V → List V → Hp → VK → Prop) (t : TA) (σ : L2.St) (Q : VK) : VK := fun x H1 => tyV K T x H1 ∧ t σ H1 fun xs H2 => r x xs H2 Q
theorem w_bm {T : String} {r : V → List V → Hp → VK → Prop} {to : TE} {t : TA} (q : to σ H (kBM K T r t σ Q)) : tBM K T r to t σ H Q := q
theorem w_bm0 {T : String} {r : V → List V → Hp → VK → Prop} {to : TE} (q : to σ H (kBM K T r tNil σ Q)) : tBM0 K T r to σ H Q := q
theorem w_kbmL {p : Addr} {xs : List V} {r : V → List V → Hp → VK → Prop} {t : TA} (h : H p = some (.lst xs)) (q : t σ H fun xs H2 => r (.ref p) xs H2 Q) : kBM K "list" r t σ Q (.ref p) H := ⟨.inl ⟨rfl, _, SqL.of h⟩, q⟩
theorem w_append {p : Addr} {xs : List V} {v : V} (h : H p = some (.lst xs)) (hl : xs.length < sizeLine) (k : ∀ H1, H1 p = some (.lst (xs ++ [v])) → Of p H H1 → Q .non H1) : rAppend (.ref p) [v] H Q := ⟨p, xs, v, rfl, rfl, h, hl, k _ upd_same .mk'⟩
theorem perm_erase {α : Type} : ∀ (l : List α) (i : Nat) (h : i < l.length), l.Perm (l[i] :: l.eraseIdx i)
  | x :: r, 0, _ => by exact .refl _
  | x :: r, i + 1, h => by
    have ih := perm_erase r i (by simpa using h)
    exact (ih.cons x).trans (.swap _ _ _)
theorem w_popV {p : Addr} {xs : List V} {i : Int} (h : H p = some (.lst xs)) (h0 : 0 ≤ i) (h1 : i < xs.length) (hz : xs.length ≤ 100000) (k : ∀ x ys H1, xs.Perm (x :: ys) → H1 p = some (.lst ys) → Of p H H1 → Q x H1) : rPopAt (.ref p) [.int i] H Q := by
  have hi : i.toNat < xs.length := by omega
  refine ⟨p, xs, i, i.toNat, xs[i.toNat], rfl, rfl, h, by omega, by omega, ?_, List.getElem?_eq_getElem hi, k _ (xs.eraseIdx i.toNat) _ (perm_erase xs _ hi) upd_same .mk'⟩
  unfold seqIndex?
  simp only [if_neg (show ¬ i < 0 by omega), Bool.and_eq_true, decide_eq_true_eq]
  rw [if_pos ⟨h0, h1⟩]
theorem erase_map {α β : Type} (f : α → β) : ∀ (l : List α) (i : Nat), (l.map f).eraseIdx i = (l.eraseIdx i).map f
  | [], _ => rfl
  | x :: r, 0 => rfl
  | x :: r, i + 1 => by
    show f x :: (r.map f).eraseIdx i = f x :: (r.eraseIdx i).map f
    rw [erase_map f r i]
theorem w_popI {p : Addr} {ns : List Int} {i : Int} (h : H p = some (.lst (ns.map V.int))) (h0 : 0 ≤ i) (h1 : i < ns.length) (hz : ns.length ≤ 100000) (k : ∀ x ms H1, ns.Perm (x :: ms) → H1 p = some (.lst (ms.map V.int)) → Of p H H1 → Q (.int x) H1) : rPopAt (.ref p) [.int i] H Q := by
  have hi : i.toNat < ns.length := by omega
  have e : (ns.map V.int)[i.toNat]? = some (.int ns[i.toNat]) := by rw [List.getElem?_map, List.getElem?_eq_getElem hi]; rfl
  refine ⟨p, _, i, i.toNat, .int ns[i.toNat], rfl, rfl, h, by omega, by omega, ?_, e, k _ (ns.eraseIdx i.toNat) _ (perm_erase ns _ hi) ?_ .mk'⟩
  · unfold seqIndex?
    simp only [if_neg (show ¬ i < 0 by omega), Bool.and_eq_true, decide_eq_true_eq, List.length_map]
    rw [if_pos ⟨h0, h1⟩]
  · rw [upd_same, erase_map]
theorem w_clear {p : Addr} {xs : List V} (h : H p = some (.lst xs)) (k : ∀ H1, H1 p = some (.lst []) → Of p H H1 → Q .non H1) : rClear (.ref p) [] H Q := ⟨p, xs, rfl, rfl, h, k _ upd_same .mk'⟩
def kM0 (r : V → List V → Hp → VK → Prop) (Q : VK) : VK := fun x H1 => (∃ a, x = .str a) ∧ r x [] H1 Q
theorem w_m0 {r : V → List V → Hp → VK → Prop} {to : TE} (q : to σ H (kM0 r Q)) : tM0 r to σ H Q := q
theorem w_kM0 {r : V → List V → Hp → VK → Prop} {x : Str} (q : r (.str x) [] H Q) : kM0 r Q (.str x) H := ⟨⟨x, rfl⟩, q⟩
def kM1 (r : V → List V → Hp → VK → Prop) (te : TE) (σ : L2.St) (Q : VK) : VK := fun x H1 => (∃ a, x = .str a) ∧ te σ H1 fun y H2 => r x [y] H2 Q
theorem w_m1 {r : V → List V → Hp → VK → Prop} {to te : TE} (q : to σ H (kM1 r te σ Q)) : tM1 r to te σ H Q := q
theorem w_kM1 {r : V → List V → Hp → VK → Prop} {te : TE} {x : Str} (q : te σ H fun y H2 => r (.str x) [y] H2 Q) : kM1 r te σ Q (.str x) H := ⟨⟨x, rfl⟩, q⟩
/-! methods of texts, by name -/
def rUpper : V → List V → Hp → VK → Prop := fun x xs H Q => ∃ a, x = .str a ∧ xs = [] ∧ a.length ≤ 5592405 ∧ Q (.str (Txt.upper a)) H
theorem mt_upN {X : Cx} : MtR X "str.upper" rUpper := mt_upper
theorem w_upper {a : Str} (h : a.length ≤ 5592405) (q : Q (.str (Txt.upper a)) H) : rUpper (.str a) [] H Q := ⟨a, rfl, rfl, h, q⟩
theorem w_up1 {c : Nat} (h : 97 ≤ c ∧ c ≤ 104) (q : Q (.str (one (c - 32))) H) : rUpper (.str (one c)) [] H Q := ⟨_, rfl, rfl, by rw [len_one]; decide, by rw [upper_one h]; exact q⟩
def rLower : V → List V → Hp → VK → Prop := fun x xs H Q => ∃ a, x = .str a ∧ xs = [] ∧ a.length ≤ 5592405 ∧ Q (.str (Txt.lower a)) H
theorem mt_loN {X : Cx} : MtR X "str.lower" rLower := mt_lower
theorem w_lower {a : Str} (h : a.length ≤ 5592405) (q : Q (.str (Txt.lower a)) H) : rLower (.str a) [] H Q := ⟨a, rfl, rfl, h, q⟩
theorem w_lo1 {c : Nat} (h : 65 ≤ c ∧ c ≤ 72) (q : Q (.str (one (c + 32))) H) : rLower (.str (one c)) [] H Q := ⟨_, rfl, rfl, by rw [len_one]; decide, by rw [lower_one h]; exact q⟩
def rSwap : V → List V → Hp → VK → Prop := fun x xs H Q => ∃ a, x = .str a ∧ xs = [] ∧ a.length ≤ 5592405 ∧ Q (.str (Txt.swapcase a)) H
theorem pe_swapN {X : Cx} {o : Expr} {to : TE} {apos pos : Pos} (ho : PE X o to) (hbase : attributeBase o "swapcase" X.env (eval o X.env) = eval o X.env := by rfl) (hline : (apos.endLine == pos.line) = true := by rfl) : PE X (.Call (.Attribute o "swapcase" apos) [] [] pos) (tM0 rSwap to) := pe_swapcase ho hbase hline
theorem w_swap {a : Str} (hw : Wd a) (h : a.length ≤ 5592405) (q : Q (.str (flipS a)) H) : rSwap (.str a) [] H Q := ⟨a, rfl, rfl, h, by rw [swap_wd hw]; exact q⟩
theorem w_swap1 {c : Nat} (hc : sgn c = true) (q : Q (.str (one (flipC c))) H) : rSwap (.str (one c)) [] H Q := w_swap (wd_one hc) (by rw [len_one]; decide) q
theorem w_revS {te : TE} (q : te σ H fun x H1 => ∃ z, x = .str z ∧ z.length ≤ sizeLine ∧ Q (.str (revS z)) H1) : tRevS te σ H Q := q
def rJoin (K : PySem.W.Frag) : V → List V → Hp → VK → Prop := fun x xs H Q => ∃ a p, ∃ ys : List Str, x = .str a ∧ xs = [.ref p] ∧ (SqL K H p (ys.map V.str) ∨ SqT K H p (ys.map V.str)) ∧ (ys.map (·.length)).sum + ys.length * a.length ≤ 16777216 ∧ Q (.str (Txt.join a ys)) H
theorem mt_joinN {X : Cx} : MtR X "str.join" (rJoin X.K) := mt_join
theorem w_join {a : Str} {p : Addr} {ys : List Str} (h : H p = some (.lst (ys.map V.str))) (hl : (ys.map (·.length)).sum + ys.length * a.length ≤ 16777216) (q : Q (.str (Txt.join a ys)) H) : rJoin K (.str a) [.ref p] H Q := ⟨a, p, ys, rfl, rfl, .inl (SqL.of h), hl, q⟩
def rStarts : V → List V → Hp → VK → Prop := fun x xs H Q => ∃ a b, x = .str a ∧ xs = [.str b] ∧ Q (.bl (Txt.startswith a b)) H
theorem mt_startN {X : Cx} : MtR X "str.startswith" rStarts := mt_startswith
theorem w_starts {a b : Str} (q : Q (.bl (Txt.startswith a b)) H) : rStarts (.str a) [.str b] H Q := ⟨a, b, rfl, rfl, q⟩
def rEnds : V → List V → Hp → VK → Prop := fun x xs H Q => ∃ a b, x = .str a ∧ xs = [.str b] ∧ Q (.bl (Txt.endswith a b)) H
theorem mt_endN {X : Cx} : MtR X "str.endswith" rEnds := mt_endswith
theorem w_ends {a b : Str} (q : Q (.bl (Txt.endswith a b)) H) : rEnds (.str a) [.str b] H Q := ⟨a, b, rfl, rfl, q⟩
def rMulStr : R2 := fun x y H Q => ∃ (a : Str) (n : Int), x = .str a ∧ y = .int n ∧ 0 ≤ n ∧ n ≤ 1000 ∧ a.length ≤ 1000 ∧ Q (.str (Txt.mul a n)) H
theorem op_mulS {X : Cx} : OpR X (binaryOp .Mult) rMulStr := op_mul_str
theorem w_mulS {a : Str} {n : Int} (h0 : 0 ≤ n) (h1 : n ≤ 1000) (h2 : a.length ≤ 1000) (q : Q (.str (Txt.mul a n)) H) : rMulStr (.str a) (.int n) H Q := ⟨a, n, rfl, rfl, h0, h1, h2, q⟩
/-! dicts -/
def kDGet (x y : V) (Q : VK) : Hp → Prop := fun H2 => ∃ a v, x = .ref a ∧ DGet H2 a y (some v) ∧ Q v H2
theorem w_dget {td ty : TE} (q : td σ H fun x H1 => ty σ H1 fun y H2 => kDGet x y Q H2) : tDGet td ty σ H Q := q
theorem w_kDGetI {a : Addr} {kvs : List (Key × V)} {i : Int} {v : V} (h : H a = some (.dK kvs)) (e : valV kvs (Sum.inl i) = some v) (q : Q v H) : kDGet (.ref a) (.int i) Q H := ⟨a, v, rfl, by rw [← e]; exact DGet.k (k := Sum.inl i) h, q⟩
theorem w_kDGetS {a : Addr} {kvs : List (Key × V)} {i : Str} {v : V} (h : H a = some (.dK kvs)) (e : valV kvs (Sum.inr i) = some v) (q : Q v H) : kDGet (.ref a) (.str i) Q H := ⟨a, v, rfl, by rw [← e]; exact DGet.k (k := Sum.inr i) h, q⟩
def kDIn (y x : V) (Q : VK) : Hp → Prop := fun H2 => ∃ a o, x = .ref a ∧ DGet H2 a y o ∧ Q (.bl o.isSome) H2
theorem w_din {ty td : TE} (q : ty σ H fun y H1 => td σ H1 fun x H2 => kDIn y x Q H2) : tDIn ty td σ H Q := q
theorem w_kDInI {a : Addr} {kvs : List (Key × V)} {i : Int} (h : H a = some (.dK kvs)) (q : Q (.bl (valV kvs (Sum.inl i)).isSome) H) : kDIn (.int i) (.ref a) Q H := ⟨a, _, rfl, DGet.k (k := Sum.inl i) h, q⟩
theorem w_kDInS {a : Addr} {kvs : List (Key × V)} {i : Str} (h : H a = some (.dK kvs)) (q : Q (.bl (valV kvs (Sum.inr i)).isSome) H) : kDIn (.str i) (.ref a) Q H := ⟨a, _, rfl, DGet.k (k := Sum.inr i) h, q⟩
def kDNotIn (y x : V) (Q : VK) : Hp → Prop := fun H2 => ∃ a o, x = .ref a ∧ DGet H2 a y o ∧ Q (.bl (!o.isSome)) H2
theorem w_dnotin {ty td : TE} (q : ty σ H fun y H1 => td σ H1 fun x H2 => kDNotIn y x Q H2) : tDNotIn ty td σ H Q := q
theorem w_kDNotInI {a : Addr} {kvs : List (Key × V)} {i : Int} (h : H a = some (.dK kvs)) (q : Q (.bl (!(valV kvs (Sum.inl i)).isSome)) H) : kDNotIn (.int i) (.ref a) Q H := ⟨a, _, rfl, DGet.k (k := Sum.inl i) h, q⟩
theorem w_kDNotInS {a : Addr} {kvs : List (Key × V)} {i : Str} (h : H a = some (.dK kvs)) (q : Q (.bl (!(valV kvs (Sum.inr i)).isSome)) H) : kDNotIn (.str i) (.ref a) Q H := ⟨a, _, rfl, DGet.k (k := Sum.inr i) h, q⟩
def kDGet1 (ty : TE) (σ : L2.St) (Q : VK) : VK := fun x H1 => ∃ a, x = .ref a ∧ IsD H1 a ∧ ty σ H1 fun y H2 => ∃ o, DGet H2 a y o ∧ Q (o.getD .non) H2
def kDGet1b (a : Addr) (Q : VK) : VK := fun y H2 => ∃ o, DGet H2 a y o ∧ Q (o.getD .non) H2
theorem w_dget1 {td ty : TE} (q : td σ H (kDGet1 ty σ Q)) : tDGet1 td ty σ H Q := q
theorem w_kDGet1 {a : Addr} {kvs : List (Key × V)} {ty : TE} (h : H a = some (.dK kvs)) (q : ty σ H (kDGet1b a Q)) : kDGet1 ty σ Q (.ref a) H := ⟨a, rfl, .inl ⟨kvs, .of h⟩, q⟩
theorem w_kDGet1I {a : Addr} {kvs : List (Key × V)} {i : Int} (h : H a = some (.dK kvs)) (q : Q ((valV kvs (Sum.inl i)).getD .non) H) : kDGet1b a Q (.int i) H := ⟨_, DGet.k (k := Sum.inl i) h, q⟩
theorem w_kDGet1S {a : Addr} {kvs : List (Key × V)} {i : Str} (h : H a = some (.dK kvs)) (q : Q ((valV kvs (Sum.inr i)).getD .non) H) : kDGet1b a Q (.str i) H := ⟨_, DGet.k (k := Sum.inr i) h, q⟩
theorem w_dnewK (k : ∀ p H1, H1 p = some (.dK []) → Nw p H H1 → Q (.ref p) H1) : tDNewK σ H Q := fun _ n => k _ _ upd_same (.mk' n)
def kDPut (n : L2.St → Hp → Prop) (σ : L2.St) (x y v : V) : Hp → Prop := fun H3 => ∃ a H4, x = .ref a ∧ DPut H3 a y v H4 ∧ n σ H4
theorem w_sdput {td ty tv : TE} {n : L2.St → Hp → Prop} {rt : VK} {bk ct : L2.St → Hp → Prop} (q : tv σ H fun v H1 => td σ H1 fun x H2 => ty σ H2 fun y H3 => kDPut n σ x y v H3) : sDPut td ty tv ⟨n, rt, bk, ct⟩ σ H := q
theorem w_kDPutI {a : Addr} {kvs : List (Key × V)} {i : Int} {v : V} {n : L2.St → Hp → Prop} (h : H a = some (.dK kvs)) (hl : kvs.length < sizeLine) (k : ∀ H1, H1 a = some (.dK (putK kvs (Sum.inl i) v)) → Of a H H1 → n σ H1) : kDPut n σ (.ref a) (.int i) v H := ⟨a, _, rfl, DPut.k (k := Sum.inl i) h hl, k _ upd_same .mk'⟩
theorem w_kDPutS {a : Addr} {kvs : List (Key × V)} {i : Str} {v : V} {n : L2.St → Hp → Prop} (h : H a = some (.dK kvs)) (hl : kvs.length < sizeLine) (k : ∀ H1, H1 a = some (.dK (putK kvs (Sum.inr i) v)) → Of a H H1 → n σ H1) : kDPut n σ (.ref a) (.str i) v H := ⟨a, _, rfl, DPut.k (k := Sum.inr i) h hl, k _ upd_same .mk'⟩
/-! a dict made by a comprehension -/
def kDc (g : TG) (tt : TT) (tk tv : TE) (vs : List Nat) (σ : L2.St) (Q : VK) : It → Hp → Prop := fun J H1 => ∀ D, H1 D = none → ∃ W : Nat → Nat → Hp → Prop, (∃ m, W 0 m (upd H1 D (.dK []))) ∧ ∀ i m H, W i m H →
  (J.stop i H ∧ Q (.ref D) H) ∨ (J.go i H ∧ ∃ Nx : Hp → Prop, (∀ H', Nx H' → ∃ m', m' < m ∧ W (i + 1) m' H') ∧ ∀ x H', J.yld i H x H' → g x (wipe σ vs) H' fun σ2 H2 => wipe σ2 vs = wipe σ vs ∧ tt σ2 H2 fun b H3 =>
    if b = true then tk σ2 H3 fun y H4 => tv σ2 H4 fun z H5 => ∃ kvs k, y = kV k ∧ H5 D = some (.dK kvs) ∧ kvs.length < sizeLine ∧ Nx (upd H5 D (.dK (putK kvs k z))) else Nx H3)
theorem w_dc {wi : TI} {g : TG} {tt : TT} {tk tv : TE} {vs : List Nat} (q : wi σ H (kDc g tt tk tv vs σ Q)) : tDc wi g tt tk tv vs σ H Q := q
def kItD (D : Addr) (N : Hp → Prop) (y z : V) : Hp → Prop := fun H5 => ∃ kvs k, y = kV k ∧ H5 D = some (.dK kvs) ∧ kvs.length < sizeLine ∧ N (upd H5 D (.dK (putK kvs k z)))
theorem w_kItDS {p : Addr} {N : Hp → Prop} {kvs : List (Key × V)} {y : Str} {z : V} (h : H p = some (.dK kvs)) (hl : kvs.length < sizeLine) (k : ∀ H5, H5 p = some (.dK (putK kvs (Sum.inr y) z)) → Of p H H5 → N H5) : kItD p N (.str y) z H := ⟨kvs, Sum.inr y, rfl, h, hl, k _ upd_same .mk'⟩
theorem w_kItDI {p : Addr} {N : Hp → Prop} {kvs : List (Key × V)} {y : Int} {z : V} (h : H p = some (.dK kvs)) (hl : kvs.length < sizeLine) (k : ∀ H5, H5 p = some (.dK (putK kvs (Sum.inl y) z)) → Of p H H5 → N H5) : kItD p N (.int y) z H := ⟨kvs, Sum.inl y, rfl, h, hl, k _ upd_same .mk'⟩
def kTstD (tk tv : TE) (σ : L2.St) (D : Addr) (N : Hp → Prop) : Bool → Hp → Prop := fun b H3 => if b = true then tk σ H3 fun y H4 => tv σ H4 fun z H5 => kItD D N y z H5 else N H3
theorem w_tstDT {tk tv : TE} {p : Addr} {N : Hp → Prop} (q : tk σ H fun y H4 => tv σ H4 fun z H5 => kItD p N y z H5) : kTstD tk tv σ p N true H := iteT q
theorem w_tstDB {b : Bool} {tk tv : TE} {p : Addr} {N : Hp → Prop} (h1 : b = true → tk σ H fun y H4 => tv σ H4 fun z H5 => kItD p N y z H5) (h2 : b = false → N H) : kTstD tk tv σ p N b H := by
  cases b with
  | true => exact iteT (h1 rfl)
  | false => exact iteF (h2 rfl)
def kEachD (tt : TT) (tk tv : TE) (vs : List Nat) (σ : L2.St) (D : Addr) (N : Hp → Prop) : L2.St → Hp → Prop := fun σ2 H2 => wipe σ2 vs = wipe σ vs ∧ tt σ2 H2 (kTstD tk tv σ2 D N)
theorem w_eachD {tt : TT} {tk tv : TE} {vs : List Nat} {σ σ2 : L2.St} {p : Addr} {N : Hp → Prop} (e : wipe σ2 vs = wipe σ vs) (q : tt σ2 H (kTstD tk tv σ2 p N)) : kEachD tt tk tv vs σ p N σ2 H := ⟨e, q⟩
theorem w_dcG {J : It} {n : Nat} {g : TG} {tt : TT} {tk tv : TE} {vs : List Nat} (Pv : Addr → Nat → Hp → Prop) (h0 : ∀ p H1, H1 p = some (.dK []) → Nw p H H1 → Pv p 0 H1)
    (hgo : ∀ p i H, i < n → Pv p i H → J.go i H) (hst : ∀ p H, Pv p n H → J.stop n H)
    (hs : ∀ p i x H H', i < n → Pv p i H → J.yld i H x H' → g x (wipe σ vs) H' (kEachD tt tk tv vs σ p (Pv p (i + 1)))) (hd : ∀ p H, Pv p n H → Q (.ref p) H) : kDc g tt tk tv vs σ Q J H := fun p np => by
  refine ⟨fun i m H => m = n - i ∧ i ≤ n ∧ Pv p i H, ⟨n, rfl, Nat.zero_le _, h0 p _ upd_same (.mk' np)⟩, ?_⟩
  rintro i m H ⟨rfl, hi, h⟩
  by_cases hlt : i < n
  · exact .inr ⟨hgo p i H hlt h, Pv p (i + 1), fun H' p' => ⟨n - (i + 1), by omega, rfl, hlt, p'⟩, fun x H' y => hs p i x H H' hlt h y⟩
  · have e : i = n := by omega
    subst e
    exact .inl ⟨hst p H h, hd p H h⟩
theorem w_dcS {x : Str} {g : TG} {tt : TT} {tk tv : TE} {vs : List Nat} (Pv : Addr → Nat → Hp → Prop) (h0 : ∀ p H1, H1 p = some (.dK []) → Nw p H H1 → Pv p 0 H1)
    (hs : ∀ p i c H, (tl x)[i]? = some c → Pv p i H → g (.str (one c)) (wipe σ vs) H (kEachD tt tk tv vs σ p (Pv p (i + 1)))) (hd : ∀ p H, Pv p (tl x).length H → Q (.ref p) H) : kDc g tt tk tv vs σ Q (Its x) H := by
  have hz : x.cps.size = (tl x).length := len_tl x
  refine w_dcG (n := x.cps.size) Pv h0 (fun p i H hi h => hi) (fun p H h => Nat.le_refl _) ?_ (fun p H h => hd p H (by rw [← hz]; exact h))
  rintro p i v H H' hi h ⟨rfl, c, hc, rfl⟩
  exact hs p i c H' (getElem?_of_cps hc) h
/-! list(range(n)) -/
def kRg1 (Q : Int → Int → Hp → Prop) : VK := fun x H1 => ∃ n, x = .int n ∧ Q 0 n H1
theorem w_rg1 {ta : TE} {Q : Int → Int → Hp → Prop} (q : ta σ H (kRg1 Q)) : tRg1 ta σ H Q := q
theorem w_kRg1 {n : Int} {Q : Int → Int → Hp → Prop} (q : Q 0 n H) : kRg1 Q (.int n) H := ⟨n, rfl, q⟩
def kRgL (Q : VK) (a b : Int) : Hp → Prop := fun H1 => RgOk a b ∧ ∀ q, H1 q = none → Q (.ref q) (upd H1 q (.lst (rgV a b)))
theorem w_lstRg {te : L2.St → Hp → (Int → Int → Hp → Prop) → Prop} (q : te σ H fun a b H1 => kRgL Q a b H1) : tLstRg te σ H Q := q
theorem w_kRgL {a b : Int} (h : RgOk a b) (k : ∀ p H1, H1 p = some (.lst (rgV a b)) → Nw p H H1 → Q (.ref p) H1) : kRgL Q a b H := ⟨h, fun _ n => k _ _ upd_same (.mk' n)⟩
/-! statements -/
theorem w_seq {t u : TS} {n : L2.St → Hp → Prop} {rt : VK} {bk ct : L2.St → Hp → Prop} (q : t ⟨u ⟨n, rt, bk, ct⟩, rt, bk, ct⟩ σ H) : tSeq t u ⟨n, rt, bk, ct⟩ σ H := q
/-- a statement, and what holds behind it -/
theorem w_seqJ {t u : TS} {n : L2.St → Hp → Prop} {rt : VK} {bk ct : L2.St → Hp → Prop} (J : L2.St → Hp → Prop) (q : ∀ N : L2.St → Hp → Prop, (∀ σ' H', J σ' H' → N σ' H') → t ⟨N, rt, bk, ct⟩ σ H) (hr : ∀ σ' H', J σ' H' → u ⟨n, rt, bk, ct⟩ σ' H') : tSeq t u ⟨n, rt, bk, ct⟩ σ H := q _ hr
theorem w_next {n : L2.St → Hp → Prop} {rt : VK} {bk ct : L2.St → Hp → Prop} (q : n σ H) : tNext ⟨n, rt, bk, ct⟩ σ H := q
theorem w_break {n : L2.St → Hp → Prop} {rt : VK} {bk ct : L2.St → Hp → Prop} (q : bk σ H) : tBreak ⟨n, rt, bk, ct⟩ σ H := q
theorem w_cont {n : L2.St → Hp → Prop} {rt : VK} {bk ct : L2.St → Hp → Prop} (q : ct σ H) : tCont ⟨n, rt, bk, ct⟩ σ H := q
theorem w_drop {te : TE} {n : L2.St → Hp → Prop} {rt : VK} {bk ct : L2.St → Hp → Prop} (q : te σ H fun _ H1 => n σ H1) : tDrop te ⟨n, rt, bk, ct⟩ σ H := q
theorem w_ret {te : TE} {n : L2.St → Hp → Prop} {rt : VK} {bk ct : L2.St → Hp → Prop} (q : te σ H rt) : tRet te ⟨n, rt, bk, ct⟩ σ H := q
theorem w_retN {n : L2.St → Hp → Prop} {rt : VK} {bk ct : L2.St → Hp → Prop} (q : rt .non H) : tRetN ⟨n, rt, bk, ct⟩ σ H := q
def kIf (t u : TS) (D : Ends) (σ : L2.St) : Bool → Hp → Prop := fun b H1 => if b = true then t D σ H1 else u D σ H1
theorem w_if {c : TT} {t u : TS} (q : c σ H (kIf t u D σ)) : tIfS c t u D σ H := q
theorem w_ifT {t u : TS} (q : t D σ H) : kIf t u D σ true H := iteT q
theorem w_ifF {t u : TS} (q : u D σ H) : kIf t u D σ false H := iteF q
theorem w_if2 {p : Prop} [Decidable p] {t u : TS} (h1 : p → t D σ H) (h2 : ¬ p → u D σ H) : kIf t u D σ (decide p) H :=
  ite2 (fun e => h1 (of_decide_eq_true e)) fun e => h2 fun z => e (decide_eq_true z)
theorem w_ifN2 {p : Prop} [Decidable p] {t u : TS} (h1 : ¬ p → t D σ H) (h2 : p → u D σ H) : kIf t u D σ (!decide p) H := by
  by_cases h : p
  · rw [decide_eq_true h]; exact iteF (h2 h)
  · rw [decide_eq_false h]; exact iteT (h1 h)
theorem w_ifB {b : Bool} {t u : TS} (h1 : b = true → t D σ H) (h2 : b = false → u D σ H) : kIf t u D σ b H := by
  cases b with
  | true => exact iteT (h1 rfl)
  | false => exact iteF (h2 rfl)
theorem w_asg {te : TE} {g : TG} {n : L2.St → Hp → Prop} {rt : VK} {bk ct : L2.St → Hp → Prop} (q : te σ H fun x H1 => g x σ H1 n) : tAsg te g ⟨n, rt, bk, ct⟩ σ H := q
theorem w_gn {i : Nat} {v : V} {Q : L2.St → Hp → Prop} (q : Q (σ.set i (some v)) H) : gName i v σ H Q := q
def kPar (i j : Nat) (σ : L2.St) (n : L2.St → Hp → Prop) : List V → Hp → Prop := fun vs H1 => ∃ v w, vs = [v, w] ∧ n ((σ.set i (some v)).set j (some w)) H1
theorem w_par {i j : Nat} {ta : TA} {n : L2.St → Hp → Prop} {rt : VK} {bk ct : L2.St → Hp → Prop} (q : ta σ H (kPar i j σ n)) : tPar i j ta ⟨n, rt, bk, ct⟩ σ H := q
theorem w_kPar {i j : Nat} {v w : V} {n : L2.St → Hp → Prop} (q : n ((σ.set i (some v)).set j (some w)) H) : kPar i j σ n [v, w] H := ⟨v, w, rfl, q⟩
theorem w_gtup {a : Addr} {xs : List V} {n : Nat} {t : TGs} {Q : L2.St → Hp → Prop} (h : H a = some (.tup xs)) (hl : xs.length = n) (q : t xs σ H Q) : gTup K n t (.ref a) σ H Q := ⟨a, xs, rfl, SqT.of h, hl, q⟩
theorem w_gcons {t : TG} {u : TGs} {v : V} {r : List V} {Q : L2.St → Hp → Prop} (q : t v σ H fun σ' H' => u r σ' H' Q) : gCons t u (v :: r) σ H Q := ⟨v, r, rfl, q⟩
theorem w_gnil {Q : L2.St → Hp → Prop} (q : Q σ H) : gNil [] σ H Q := ⟨rfl, q⟩
theorem w_gsub {to ti : TE} {t : TSet} {v : V} {Q : L2.St → Hp → Prop} (q : to σ H fun o H1 => ti σ H1 fun i H2 => t o i v H2 fun H3 => Q σ H3) : gSub to ti t v σ H Q := q
theorem w_setL {p : Addr} {xs : List V} {k : Int} {j : Nat} {v : V} {Q : Hp → Prop} (h : H p = some (.lst xs)) (e : ixN xs.length k = some j) (q : ∀ H1, H1 p = some (.lst (xs.set j v)) → Of p H H1 → Q H1) : rSetL (.ref p) (.int k) v H Q := ⟨p, xs, k, j, rfl, rfl, h, e, q _ upd_same .mk'⟩
def kSFld (K : PySem.W.Frag) (f : Str) (y : V) (n : L2.St → Hp → Prop) (σ : L2.St) : VK := fun x H2 => ∃ a C dx fs, x = .ref a ∧ H2 a = some (.ins C dx fs) ∧ Cls K C ∧ NoAttr K C f ∧ fs.length < 1000 ∧ n σ (upd H2 a (.ins C dx (putF f y fs)))
theorem w_sfld {ta tv : TE} {f : Str} {n : L2.St → Hp → Prop} {rt : VK} {bk ct : L2.St → Hp → Prop} (q : tv σ H fun y H1 => ta σ H1 (kSFld K f y n σ)) : sFld K ta tv f ⟨n, rt, bk, ct⟩ σ H := q
theorem w_kSFld {a C dx : Addr} {fs : List (Str × V)} {f : Str} {y : V} {n : L2.St → Hp → Prop} (h : H a = some (.ins C dx fs)) (c : Cls K C) (na : NoAttr K C f) (hl : fs.length < 1000) (k : ∀ H1, H1 a = some (.ins C dx (putF f y fs)) → Of a H H1 → n σ H1) : kSFld K f y n σ (.ref a) H :=
  ⟨a, C, dx, fs, rfl, h, c, na, hl, k _ upd_same .mk'⟩
theorem w_aug {i : Nat} {x : V} {te : TE} {ti : TIp} {n : L2.St → Hp → Prop} {rt : VK} {bk ct : L2.St → Hp → Prop} (h : σ[i]? = some (some x)) (q : te σ H fun y H1 => ti x y H1 fun z H2 => n (σ.set i (some z)) H2) : tAug i te ti ⟨n, rt, bk, ct⟩ σ H := ⟨x, h, q⟩
theorem w_ipI {f : Int → Int → Int} {i j : Int} (q : Q (.int (f i j)) H) : ipI f (.int i) (.int j) H Q := ⟨i, j, rfl, rfl, q⟩
/-! loops -/
def kFor (g : TG) (tb : TS) (D : Ends) (σ : L2.St) : It → Hp → Prop := fun J H1 => ∃ W : Nat → Nat → L2.St → Hp → Prop, (∃ m, W 0 m σ H1) ∧ ∀ i m σ H, W i m σ H →
  (J.stop i H ∧ D.nx σ H) ∨ (J.go i H ∧ ∃ N : L2.St → Hp → Prop, (∀ σ' H', N σ' H' → ∃ m', m' < m ∧ W (i + 1) m' σ' H') ∧ ∀ x H', J.yld i H x H' → g x σ H' fun σ2 H2 => tb { D with nx := N, ct := N, bk := D.nx } σ2 H2)
theorem w_for {wi : TI} {g : TG} {tb : TS} (q : wi σ H (kFor g tb D σ)) : tFor wi g tb D σ H := q
def kRng1 (R : It → Hp → Prop) : List V → Hp → Prop := fun vs H1 => ∃ j : Int, vs = [.int j] ∧ -(2 ^ 62) ≤ j ∧ j < 2 ^ 62 ∧ R (Itr 0 j.toNat) H1
theorem w_rng1 {ta : TA} {R : It → Hp → Prop} (q : ta σ H (kRng1 R)) : iRng1 ta σ H R := q
theorem w_kRng1 {j : Int} {R : It → Hp → Prop} (h0 : -(2 ^ 62) ≤ j) (h1 : j < 2 ^ 62) (q : R (Itr 0 j.toNat) H) : kRng1 R [.int j] H := ⟨j, rfl, h0, h1, q⟩
def kList (K : PySem.W.Frag) (R : It → Hp → Prop) : VK := fun x H1 => ∃ a, x = .ref a ∧ (∃ xs, SqL K H1 a xs) ∧ R (Itl K a) H1
theorem w_ilist {tl : TE} {R : It → Hp → Prop} (q : tl σ H (kList K R)) : iList K tl σ H R := q
theorem w_kList {a : Addr} {xs : List V} {R : It → Hp → Prop} (h : H a = some (.lst xs)) (q : R (Itl K a) H) : kList K R (.ref a) H := ⟨a, rfl, ⟨xs, SqL.of h⟩, q⟩
def kTupI (K : PySem.W.Frag) (R : It → Hp → Prop) : VK := fun x H1 => ∃ a, x = .ref a ∧ (∃ xs, SqT K H1 a xs) ∧ R (Itt K a) H1
theorem w_itup {tl : TE} {R : It → Hp → Prop} (q : tl σ H (kTupI K R)) : iTup K tl σ H R := q
theorem w_kTupI {a : Addr} {xs : List V} {R : It → Hp → Prop} (h : H a = some (.tup xs)) (q : R (Itt K a) H) : kTupI K R (.ref a) H := ⟨a, rfl, ⟨xs, SqT.of h⟩, q⟩
def kStr (R : It → Hp → Prop) : VK := fun v H1 => ∃ x, v = .str x ∧ R (Its x) H1
theorem w_istr {te : TE} {R : It → Hp → Prop} (q : te σ H (kStr R)) : iStr te σ H R := q
theorem w_kStr {x : Str} {R : It → Hp → Prop} (q : R (Its x) H) : kStr R (.str x) H := ⟨x, rfl, q⟩
def kEnum (K : PySem.W.Frag) (R : It → Hp → Prop) : List V → Hp → Prop := fun vs H1 => ∃ a xs, vs = [.ref a] ∧ SqL K H1 a xs ∧ R (Ite K a) H1
theorem w_ienum {ta : TA} {R : It → Hp → Prop} (q : ta σ H (kEnum K R)) : iEnum K ta σ H R := q
theorem w_kEnum {a : Addr} {xs : List V} {R : It → Hp → Prop} (h : H a = some (.lst xs)) (q : R (Ite K a) H) : kEnum K R [.ref a] H := ⟨a, xs, rfl, SqL.of h, q⟩
/-- a loop: what holds ahead of turn i -/
theorem w_range {lo : Int} {n : Nat} {g : TG} {tb : TS} {nx : L2.St → Hp → Prop} {rt : VK} {bk ct : L2.St → Hp → Prop} (Pv : Nat → L2.St → Hp → Prop) (h0 : Pv 0 σ H)
    (hs : ∀ i σ H, i < n → Pv i σ H → g (.int (lo + i)) σ H fun σ2 H2 => tb ⟨Pv (i + 1), rt, nx, Pv (i + 1)⟩ σ2 H2) (hd : ∀ σ H, Pv n σ H → nx σ H) : kFor g tb ⟨nx, rt, bk, ct⟩ σ (Itr lo n) H :=
  for_range (lo := lo) (n := n) Pv h0 hs hd
theorem w_list {a : Addr} {xs : List V} {g : TG} {tb : TS} {nx : L2.St → Hp → Prop} {rt : VK} {bk ct : L2.St → Hp → Prop} (Pv : Nat → L2.St → Hp → Prop) (h0 : Pv 0 σ H) (hl : ∀ i σ H, i ≤ xs.length → Pv i σ H → H a = some (.lst xs))
    (hs : ∀ i x σ H, xs[i]? = some x → Pv i σ H → g x σ H fun σ2 H2 => tb ⟨Pv (i + 1), rt, nx, Pv (i + 1)⟩ σ2 H2) (hd : ∀ σ H, Pv xs.length σ H → nx σ H) : kFor g tb ⟨nx, rt, bk, ct⟩ σ (Itl K a) H :=
  for_list (K := K) (a := a) (xs := xs) Pv h0 (fun i σ H hi p => SqL.of (hl i σ H hi p)) hs hd
theorem w_tupF {a : Addr} {xs : List V} {g : TG} {tb : TS} {nx : L2.St → Hp → Prop} {rt : VK} {bk ct : L2.St → Hp → Prop} (Pv : Nat → L2.St → Hp → Prop) (h0 : Pv 0 σ H) (hl : ∀ i σ H, i ≤ xs.length → Pv i σ H → H a = some (.tup xs))
    (hs : ∀ i x σ H, xs[i]? = some x → Pv i σ H → g x σ H fun σ2 H2 => tb ⟨Pv (i + 1), rt, nx, Pv (i + 1)⟩ σ2 H2) (hd : ∀ σ H, Pv xs.length σ H → nx σ H) : kFor g tb ⟨nx, rt, bk, ct⟩ σ (Itt K a) H := by
  refine for_gen (n := xs.length) Pv h0 (fun i σ H hi p => ⟨xs, xs[i], SqT.of (hl i σ H (Nat.le_of_lt hi) p), List.getElem?_eq_getElem hi⟩) (fun σ H p => ⟨xs, SqT.of (hl _ σ H (Nat.le_refl _) p), Nat.le_refl _⟩) ?_ hd
  rintro i v σ H H' hi p ⟨rfl, hx⟩
  exact hs i v σ H' (hx xs (SqT.of (hl i σ H' (Nat.le_of_lt hi) p))) p
theorem w_str {x : Str} {g : TG} {tb : TS} {nx : L2.St → Hp → Prop} {rt : VK} {bk ct : L2.St → Hp → Prop} (Pv : Nat → L2.St → Hp → Prop) (h0 : Pv 0 σ H)
    (hs : ∀ i c σ H, (tl x)[i]? = some c → Pv i σ H → g (.str (one c)) σ H fun σ2 H2 => tb ⟨Pv (i + 1), rt, nx, Pv (i + 1)⟩ σ2 H2) (hd : ∀ σ H, Pv (tl x).length σ H → nx σ H) : kFor g tb ⟨nx, rt, bk, ct⟩ σ (Its x) H := by
  have hz : x.cps.size = (tl x).length := len_tl x
  refine for_gen (n := x.cps.size) Pv h0 (fun i σ H hi _ => hi) (fun σ H _ => Nat.le_refl _) ?_ (fun σ H p => hd σ H (by rw [← hz]; exact p))
  rintro i v σ H H' hi p ⟨rfl, c, hc, rfl⟩
  exact hs i c σ H' (getElem?_of_cps hc) p
theorem w_enum {a : Addr} {xs : List V} {g : TG} {tb : TS} {nx : L2.St → Hp → Prop} {rt : VK} {bk ct : L2.St → Hp → Prop} (Pv : Nat → L2.St → Hp → Prop) (h0 : Pv 0 σ H) (hl : ∀ i σ H, i ≤ xs.length → Pv i σ H → H a = some (.lst xs))
    (hs : ∀ i x t σ H H1, xs[i]? = some x → Pv i σ H → H1 t = some (.tup [.int (i : Nat), x]) → Nw t H H1 → g (.ref t) σ H1 fun σ2 H2 => tb ⟨Pv (i + 1), rt, nx, Pv (i + 1)⟩ σ2 H2) (hd : ∀ σ H, Pv xs.length σ H → nx σ H) : kFor g tb ⟨nx, rt, bk, ct⟩ σ (Ite K a) H := by
  refine for_gen (n := xs.length) Pv h0 (fun i σ H hi p => ⟨xs, xs[i], SqL.of (hl i σ H (Nat.le_of_lt hi) p), List.getElem?_eq_getElem hi⟩) (fun σ H p => ⟨xs, SqL.of (hl _ σ H (Nat.le_refl _) p), Nat.le_refl _⟩) ?_ hd
  rintro i v σ H H' hi p ⟨t, x, rfl, nt, rfl, hx⟩
  exact hs i x t σ H _ (hx xs (SqL.of (hl i σ H (Nat.le_of_lt hi) p))) p upd_same (.mk' nt)
/-! comprehensions -/
def kLc (g : TG) (tt : TT) (te : TE) (vs : List Nat) (σ : L2.St) (Q : VK) : It → Hp → Prop := fun J H1 => ∀ D, H1 D = none → ∃ W : Nat → Nat → Hp → Prop, (∃ m, W 0 m (upd H1 D (.lst []))) ∧ ∀ i m H, W i m H →
  (J.stop i H ∧ Q (.ref D) H) ∨ (J.go i H ∧ ∃ Nx : Hp → Prop, (∀ H', Nx H' → ∃ m', m' < m ∧ W (i + 1) m' H') ∧ ∀ x H', J.yld i H x H' → g x (wipe σ vs) H' fun σ2 H2 => wipe σ2 vs = wipe σ vs ∧ tt σ2 H2 fun b H3 =>
    if b = true then te σ2 H3 fun y H4 => ∃ acc, H4 D = some (.lst acc) ∧ acc.length < sizeLine ∧ Nx (upd H4 D (.lst (acc ++ [y]))) else Nx H3)
theorem w_lc {wi : TI} {g : TG} {tt : TT} {te : TE} {vs : List Nat} (q : wi σ H (kLc g tt te vs σ Q)) : tLc wi g tt te vs σ H Q := q
/-- what an item of the list does: the item, then the list -/
def kIt (D : Addr) (N : Hp → Prop) : VK := fun y H4 => ∃ acc, H4 D = some (.lst acc) ∧ acc.length < sizeLine ∧ N (upd H4 D (.lst (acc ++ [y])))
theorem w_kIt {p : Addr} {N : Hp → Prop} {acc : List V} {y : V} (h : H p = some (.lst acc)) (hl : acc.length < sizeLine) (k : ∀ H5, H5 p = some (.lst (acc ++ [y])) → Of p H H5 → N H5) : kIt p N y H := ⟨acc, h, hl, k _ upd_same .mk'⟩
def kTst (te : TE) (σ : L2.St) (D : Addr) (N : Hp → Prop) : Bool → Hp → Prop := fun b H3 => if b = true then te σ H3 (kIt D N) else N H3
theorem w_yes {Q : Bool → Hp → Prop} (q : Q true H) : tYes σ H Q := q
theorem w_tstT {te : TE} {p : Addr} {N : Hp → Prop} (q : te σ H (kIt p N)) : kTst te σ p N true H := iteT q
theorem w_tstF {te : TE} {p : Addr} {N : Hp → Prop} (q : N H) : kTst te σ p N false H := iteF q
theorem w_tst2 {c : Prop} [Decidable c] {te : TE} {p : Addr} {N : Hp → Prop} (h1 : c → te σ H (kIt p N)) (h2 : ¬ c → N H) : kTst te σ p N (decide c) H :=
  ite2 (fun e => h1 (of_decide_eq_true e)) fun e => h2 fun z => e (decide_eq_true z)
theorem w_tstB {b : Bool} {te : TE} {p : Addr} {N : Hp → Prop} (h1 : b = true → te σ H (kIt p N)) (h2 : b = false → N H) : kTst te σ p N b H := by
  cases b with
  | true => exact iteT (h1 rfl)
  | false => exact iteF (h2 rfl)
def kEach (tt : TT) (te : TE) (vs : List Nat) (σ : L2.St) (D : Addr) (N : Hp → Prop) : L2.St → Hp → Prop := fun σ2 H2 => wipe σ2 vs = wipe σ vs ∧ tt σ2 H2 (kTst te σ2 D N)
theorem w_each {tt : TT} {te : TE} {vs : List Nat} {σ σ2 : L2.St} {p : Addr} {N : Hp → Prop} (e : wipe σ2 vs = wipe σ vs) (q : tt σ2 H (kTst te σ2 p N)) : kEach tt te vs σ p N σ2 H := ⟨e, q⟩
/-- a comprehension by what holds ahead of item i; p: where the made list stands -/
theorem w_lcG {J : It} {n : Nat} {g : TG} {tt : TT} {te : TE} {vs : List Nat} (Pv : Addr → Nat → Hp → Prop) (h0 : ∀ p H1, H1 p = some (.lst []) → Nw p H H1 → Pv p 0 H1)
    (hgo : ∀ p i H, i < n → Pv p i H → J.go i H) (hst : ∀ p H, Pv p n H → J.stop n H)
    (hs : ∀ p i x H H', i < n → Pv p i H → J.yld i H x H' → g x (wipe σ vs) H' (kEach tt te vs σ p (Pv p (i + 1)))) (hd : ∀ p H, Pv p n H → Q (.ref p) H) : kLc g tt te vs σ Q J H := fun p np =>
  lc_gen (n := n) (Pv p) (h0 p _ upd_same (.mk' np)) (hgo p) (hst p) (hs p) (hd p)
theorem w_lcL {a : Addr} {xs : List V} {g : TG} {tt : TT} {te : TE} {vs : List Nat} (Pv : Addr → Nat → Hp → Prop) (h0 : ∀ p H1, H1 p = some (.lst []) → Nw p H H1 → Pv p 0 H1)
    (hl : ∀ p i H, i ≤ xs.length → Pv p i H → H a = some (.lst xs)) (hs : ∀ p i x H, xs[i]? = some x → Pv p i H → g x (wipe σ vs) H (kEach tt te vs σ p (Pv p (i + 1)))) (hd : ∀ p H, Pv p xs.length H → Q (.ref p) H) : kLc g tt te vs σ Q (Itl K a) H := by
  refine w_lcG (n := xs.length) Pv h0 (fun p i H hi h => ⟨xs, xs[i], SqL.of (hl p i H (Nat.le_of_lt hi) h), List.getElem?_eq_getElem hi⟩) (fun p H h => ⟨xs, SqL.of (hl p _ H (Nat.le_refl _) h), Nat.le_refl _⟩) ?_ hd
  rintro p i x H H' hi h ⟨rfl, hx⟩
  exact hs p i x H' (hx xs (SqL.of (hl p i H' (Nat.le_of_lt hi) h))) h
theorem w_lcR {lo : Int} {n : Nat} {g : TG} {tt : TT} {te : TE} {vs : List Nat} (Pv : Addr → Nat → Hp → Prop) (h0 : ∀ p H1, H1 p = some (.lst []) → Nw p H H1 → Pv p 0 H1)
    (hs : ∀ p i H, i < n → Pv p i H → g (.int (lo + i)) (wipe σ vs) H (kEach tt te vs σ p (Pv p (i + 1)))) (hd : ∀ p H, Pv p n H → Q (.ref p) H) : kLc g tt te vs σ Q (Itr lo n) H := by
  refine w_lcG (n := n) Pv h0 (fun p i H hi h => hi) (fun p H h => Nat.le_refl _) ?_ hd
  rintro p i x H H' hi h ⟨rfl, rfl⟩
  exact hs p i H' hi h
theorem w_lcS {x : Str} {g : TG} {tt : TT} {te : TE} {vs : List Nat} (Pv : Addr → Nat → Hp → Prop) (h0 : ∀ p H1, H1 p = some (.lst []) → Nw p H H1 → Pv p 0 H1)
    (hs : ∀ p i c H, (tl x)[i]? = some c → Pv p i H → g (.str (one c)) (wipe σ vs) H (kEach tt te vs σ p (Pv p (i + 1)))) (hd : ∀ p H, Pv p (tl x).length H → Q (.ref p) H) : kLc g tt te vs σ Q (Its x) H := by
  have hz : x.cps.size = (tl x).length := len_tl x
  refine w_lcG (n := x.cps.size) Pv h0 (fun p i H hi h => hi) (fun p H h => Nat.le_refl _) ?_ (fun p H h => hd p H (by rw [← hz]; exact h))
  rintro p i v H H' hi h ⟨rfl, c, hc, rfl⟩
  exact hs p i c H' (getElem?_of_cps hc) h
end
end Sf
namespace Sf
open PySem PySem.Spec PyProof.Rows L2 TL
/-! ### worlds: the mathematics -/
/-- a move: the code of its letter, from, to -/
abbrev Mv := Nat × Int × Int
def sgs : List Nat := [97, 65, 98, 66, 99, 67, 100, 68, 101, 69, 102, 70, 103, 71, 104, 72]
theorem sgs_iff {c : Nat} : c ∈ sgs ↔ sgn c = true := by
  rw [sgn_iff]
  unfold sgs
  simp only [List.mem_cons, List.not_mem_nil, or_false]
  omega
theorem sgs_nd : sgs.Nodup := by decide
def mvOn (c : Nat) (m : Mv) : Option (Int × Int) := if m.1 = c then some (m.2.1, m.2.2) else if m.1 = c + 32 then some (m.2.2, m.2.1) else none
def LM (ms : List Mv) (c : Nat) : List (Int × Int) := ms.filterMap (mvOn c)
def lk (l : List (Int × Int)) (x : Int) : Option Int := (l.find? fun p => decide (p.1 = x)).map (·.2)
def kvI (l : List (Int × Int)) : List (Key × V) := l.map fun p => (Sum.inl p.1, V.int p.2)
def oV : Option Int → V
  | none => .non
  | some i => .int i
theorem kvI_len (l : List (Int × Int)) : (kvI l).length = l.length := List.length_map ..
theorem val_kvI (x : Int) : ∀ l : List (Int × Int), valV (kvI l) (Sum.inl x) = (lk l x).map V.int
  | [] => rfl
  | (a, b) :: r => by
    unfold kvI lk
    rw [List.map_cons, List.find?_cons]
    by_cases h : a = x
    · rw [valV_pos (by show (Sum.inl a : Key) = Sum.inl x; rw [h]), decide_eq_true h]
      rfl
    · rw [valV_neg (fun e => h (Sum.inl.inj e)), decide_eq_false h]
      exact val_kvI x r
theorem getD_kvI (x : Int) (l : List (Int × Int)) : (valV (kvI l) (Sum.inl x)).getD .non = oV (lk l x) := by
  rw [val_kvI]
  cases lk l x <;> rfl
theorem lk_none {l : List (Int × Int)} {x : Int} (h : ∀ p ∈ l, p.1 ≠ x) : lk l x = none := by
  unfold lk
  rw [List.find?_eq_none.mpr fun p hp => by simp [h p hp]]
  rfl
theorem lk_mem {l : List (Int × Int)} {x y : Int} (h : lk l x = some y) : (x, y) ∈ l := by
  unfold lk at h
  rw [Option.map_eq_some_iff] at h
  obtain ⟨p, hp, rfl⟩ := h
  have h1 := List.find?_some hp
  have h2 := List.mem_of_find?_eq_some hp
  rw [decide_eq_true_eq] at h1
  rw [← h1]
  exact h2
theorem lk_of {l : List (Int × Int)} {x y : Int} (hu : ∀ p ∈ l, ∀ q ∈ l, p.1 = q.1 → p = q) (h : (x, y) ∈ l) : lk l x = some y := by
  cases e : lk l x with
  | none =>
    unfold lk at e
    rw [Option.map_eq_none_iff, List.find?_eq_none] at e
    exact absurd (decide_eq_true rfl) (e _ h)
  | some z =>
    have := hu _ (lk_mem e) _ h rfl
    exact congrArg some (congrArg Prod.snd this)
structure WOk (n : Int) (ms : List Mv) : Prop where
  rg : ∀ m ∈ ms, 97 ≤ m.1 ∧ m.1 ≤ 104 ∧ 0 ≤ m.2.1 ∧ m.2.1 < n ∧ 0 ≤ m.2.2 ∧ m.2.2 < n
  pw : ms.Pairwise fun m k => m.1 = k.1 → m.2.1 ≠ k.2.1 ∧ m.2.2 ≠ k.2.2
theorem WOk.pre {n : Int} {ms : List Mv} {m : Mv} (h : WOk n (ms ++ [m])) : WOk n ms ∧ ∀ k ∈ ms, k.1 = m.1 → k.2.1 ≠ m.2.1 ∧ k.2.2 ≠ m.2.2 :=
  ⟨⟨fun k hk => h.rg k (List.mem_append_left _ hk), (List.pairwise_append.mp h.pw).1⟩, fun k hk => (List.pairwise_append.mp h.pw).2.2 k hk m (List.mem_singleton.mpr rfl)⟩
theorem WOk.take {n : Int} {ms : List Mv} (h : WOk n ms) (i : Nat) : WOk n (ms.take i) := ⟨fun m hm => h.rg m (List.mem_of_mem_take hm), h.pw.sublist (List.take_sublist i ms)⟩
theorem take_snoc {α : Type} {l : List α} {i : Nat} {x : α} (h : l[i]? = some x) : l.take (i + 1) = l.take i ++ [x] := by
  rw [List.take_add_one, h]
  rfl
theorem LM_snoc (ms : List Mv) (m : Mv) (c : Nat) : LM (ms ++ [m]) c = LM ms c ++ (mvOn c m).toList := by
  unfold LM
  rw [List.filterMap_append, List.filterMap_cons]
  cases mvOn c m <;> rfl
theorem LM_mem {ms : List Mv} {c : Nat} {p : Int × Int} : p ∈ LM ms c ↔ ∃ m ∈ ms, (m.1 = c ∧ m.2.1 = p.1 ∧ m.2.2 = p.2) ∨ (m.1 ≠ c ∧ m.1 = c + 32 ∧ m.2.2 = p.1 ∧ m.2.1 = p.2) := by
  unfold LM
  rw [List.mem_filterMap]
  constructor
  · rintro ⟨m, hm, e⟩
    refine ⟨m, hm, ?_⟩
    unfold mvOn at e
    split at e
    · rename_i h
      cases e
      exact .inl ⟨h, rfl, rfl⟩
    · rename_i h
      split at e
      · rename_i h2
        cases e
        exact .inr ⟨h, h2, rfl, rfl⟩
      · cases e
  · rintro ⟨m, hm, e⟩
    refine ⟨m, hm, ?_⟩
    unfold mvOn
    rcases e with ⟨h1, h2, h3⟩ | ⟨h0, h1, h2, h3⟩
    · rw [if_pos h1, h2, h3]
    · rw [if_neg h0, if_pos h1, h2, h3]
/-- the step at a new move: its start is free, its end too -/
theorem new_start {n : Int} {ms : List Mv} {m : Mv} (h : WOk n (ms ++ [m])) : lk (LM ms m.1) m.2.1 = none := lk_none fun p hp => by
  obtain ⟨k, hk, e⟩ := LM_mem.mp hp
  have hr := h.rg k (List.mem_append_left _ hk)
  have hm := h.rg m (List.mem_append_right _ (List.mem_singleton.mpr rfl))
  rcases e with ⟨h1, h2, _⟩ | ⟨_, h1, _⟩
  · rw [← h2]
    exact (h.pre.2 k hk h1).1
  · omega
theorem new_end {n : Int} {ms : List Mv} {m : Mv} (h : WOk n (ms ++ [m])) : lk (LM ms (m.1 - 32)) m.2.2 = none := lk_none fun p hp => by
  obtain ⟨k, hk, e⟩ := LM_mem.mp hp
  have hr := h.rg k (List.mem_append_left _ hk)
  have hm := h.rg m (List.mem_append_right _ (List.mem_singleton.mpr rfl))
  rcases e with ⟨h1, h2, _⟩ | ⟨_, h1, h2, _⟩
  · omega
  · rw [← h2]
    exact (h.pre.2 k hk (by omega)).2
theorem mvOn_self (m : Mv) : mvOn m.1 m = some (m.2.1, m.2.2) := by
  unfold mvOn
  rw [if_pos rfl]
theorem mvOn_great {m : Mv} (h : 97 ≤ m.1) : mvOn (m.1 - 32) m = some (m.2.2, m.2.1) := by
  unfold mvOn
  rw [if_neg (by omega), if_pos (by omega)]
theorem mvOn_other {m : Mv} {c : Nat} (h1 : c ≠ m.1) (h2 : c ≠ m.1 - 32) (h : 97 ≤ m.1) : mvOn c m = none := by
  unfold mvOn
  rw [if_neg (Ne.symm h1), if_neg (by omega)]
theorem LM_len (ms : List Mv) (c : Nat) : (LM ms c).length ≤ ms.length := List.length_filterMap_le ..
/-- where a word leads -/
def ledM (st : Nat → Int → Option Int) : List Nat → Int → Option Int
  | [], x => some x
  | c :: r, x => (st c x).bind (ledM st r)
theorem ledM_app (st : Nat → Int → Option Int) : ∀ (l r : List Nat) (x : Int), ledM st (l ++ r) x = (ledM st l x).bind (ledM st r)
  | [], r, x => rfl
  | c :: l, r, x => by
    show (st c x).bind (ledM st (l ++ r)) = ((st c x).bind (ledM st l)).bind (ledM st r)
    cases st c x with
    | none => rfl
    | some y => exact ledM_app st l r y
theorem ledM_snoc {st : Nat → Int → Option Int} {l : List Nat} {i c : Nat} {x : Int} (h : l[i]? = some c) : ledM st (l.take (i + 1)) x = (ledM st (l.take i) x).bind (st c) := by
  rw [take_snoc h, ledM_app]
  cases ledM st (l.take i) x with
  | none => rfl
  | some y =>
    show (st c y).bind (fun z => some z) = st c y
    cases st c y <;> rfl
theorem ledM_none {st : Nat → Int → Option Int} {l : List Nat} {i : Nat} {x : Int} (h : ledM st (l.take i) x = none) : ledM st l x = none := by
  have e := ledM_app st (l.take i) (l.drop i) x
  rw [List.take_append_drop, h] at e
  exact e
theorem one_inj {a b : Nat} (h : one a = one b) : a = b := by
  have h2 : tl (one a) = tl (one b) := by rw [h]
  exact (List.cons.inj h2).1
def stp (L : Nat → List (Int × Int)) (c : Nat) (x : Int) : Option Int := lk (L c) x
theorem val_sgs {f : Nat → V} {c : Nat} : ∀ {l : List Nat}, c ∈ l → valV (l.map fun c => ((Sum.inr (one c) : Key), f c)) (Sum.inr (one c)) = some (f c)
  | a :: r, h => by
    rw [List.map_cons]
    by_cases e : a = c
    · subst e
      exact valV_pos rfl
    · rw [valV_neg fun z => e (by
        have := Sum.inr.inj z
        have h2 : tl (one a) = tl (one c) := by rw [this]
        exact List.cons.inj h2 |>.1)]
      exact val_sgs ((List.mem_cons.mp h).resolve_left fun z => e z.symm)
theorem val_sgs_none {f : Nat → V} {c : Nat} : ∀ {l : List Nat}, c ∉ l → valV (l.map fun c => ((Sum.inr (one c) : Key), f c)) (Sum.inr (one c)) = none
  | [], _ => rfl
  | a :: r, h => by
    rw [List.map_cons, valV_neg fun z => h (by
        have := Sum.inr.inj z
        have h2 : tl (one a) = tl (one c) := by rw [this]
        rw [(List.cons.inj h2).1]
        exact List.mem_cons_self)]
    exact val_sgs_none fun z => h (List.mem_cons_of_mem _ z)
end Sf
namespace Sf
open PySem PySem.Spec PyProof.Rows L2 TL
/-! ### data: lists, tuples compared -/
section
variable {K : PySem.W.Frag} {H : Hp}
theorem lay_all {α : Type} {f : α → PyData} : ∀ {l : List α}, (∀ x ∈ l, PyData.canLay0 (f x) = true) → PyData.canLayAll0 (l.map f) = true
  | [], _ => rfl
  | x :: l, h => by
    rw [List.map_cons, PyData.canLayAll0, h x List.mem_cons_self, lay_all fun y hy => h y (List.mem_cons_of_mem _ hy)]
    rfl
theorem depth_all {α : Type} {f : α → PyData} {k : Nat} : ∀ {l : List α}, (∀ x ∈ l, (f x).depth ≤ k) → PyData.depthAll (l.map f) ≤ k
  | [], _ => Nat.zero_le _
  | x :: l, h => by
    rw [List.map_cons, PyData.depthAll]
    exact Nat.max_le.mpr ⟨h x List.mem_cons_self, depth_all fun y hy => h y (List.mem_cons_of_mem _ hy)⟩
theorem dp_map {α : Type} {f : α → PyData} {vs : List V} {l : List α} (h : Paired (fun v x => Dp K H v (f x)) vs l) : DpAll K H vs (l.map f) := by
  induction h with
  | nil => exact .nil
  | cons r _ ih => exact .cons r ih
theorem shaped_list {α : Type} {f : α → PyData} {l : List α} (h1 : ∀ x ∈ l, PyData.canLay0 (f x) = true) (h2 : ∀ x ∈ l, (f x).depth ≤ 60) : SeqAt.shaped (.list (l.map f)) = true := by
  unfold SeqAt.shaped
  rw [PyData.canLay0, lay_all h1, Bool.true_and, PyData.depth]
  have := depth_all h2
  exact decide_eq_true (by omega)
theorem strOk_wd {x : Str} (h : Wd x) : PyData.canLay0 (.str x) = true := by
  rw [PyData.canLay0]
  unfold PyData.strOk
  rw [Array.all_eq_true']
  intro c hc
  have := sgn_lt (h c (Array.mem_def.mp hc))
  exact decide_eq_true (by omega)
theorem eqv_nil {ds : List PyData} : PyData.eqv (.list ds) (.list []) = ds.isEmpty := by
  cases ds <;> simp [PyData.eqv, PyData.eqvAll]
/-- l != [] -/
theorem w_neNil {Q : VK} {p q : Addr} {ds : List PyData} {vs : List V} (h : H p = some (.lst vs)) (hd : DpAll K H vs ds) (hs : SeqAt.shaped (.list ds) = true) (hq : H q = some (.lst [])) (k : Q (.bl (!ds.isEmpty)) H) : rNeD K (.ref p) (.ref q) H Q :=
  ⟨_, _, .lst (SqL.of h) hd, .lst (SqL.of hq) .nil, hs, by decide +kernel, by rw [eqv_nil]; exact k⟩
theorem dpI : ∀ l : List Int, DpAll K H (l.map V.int) (l.map .int)
  | [] => .nil
  | _ :: l => .cons (.int _) (dpI l)
theorem shapedI (l : List Int) : SeqAt.shaped (.list (l.map .int)) = true := shaped_list (fun x _ => by rw [PyData.canLay0]) (fun x _ => by rw [PyData.depth]; omega)
theorem w_neNilI {Q : VK} {p q : Addr} {ns : List Int} (h : H p = some (.lst (ns.map V.int))) (hq : H q = some (.lst [])) (k : Q (.bl (!ns.isEmpty)) H) : rNeD K (.ref p) (.ref q) H Q :=
  w_neNil h (dpI ns) (shapedI ns) hq (by rw [List.isEmpty_map]; exact k)
/-- two lists of the same data -/
theorem w_neSame {Q : VK} {x y : V} {d : PyData} (h1 : Dp K H x d) (h2 : Dp K H y d) (hs : SeqAt.shaped d = true) (k : Q (.bl false) H) : rNeD K x y H Q :=
  ⟨d, d, h1, h2, hs, hs, by rw [SeqAt.eqv_refl d (SeqAt.canLay_of_shaped hs)]; exact k⟩
theorem w_eqSame {Q : VK} {x y : V} {d : PyData} (h1 : Dp K H x d) (h2 : Dp K H y d) (hs : SeqAt.shaped d = true) (k : Q (.bl true) H) : rEqD K x y H Q :=
  ⟨d, d, h1, h2, hs, hs, by rw [SeqAt.eqv_refl d (SeqAt.canLay_of_shaped hs)]; exact k⟩
end
end Sf
namespace Sf
open PySem PySem.Spec PyProof.Rows L2 TL
theorem passes_len {X : Cx} {W : WX} (n : Nat) (hn : X.N.length = n) (tk : Takes X W) : Passes (L2.CX X.prog X.w) X (fun cls d H => ∀ σ : L2.St, σ.length = n → W cls d σ H) := fun _ σ _ _ e s' I c => tk e s' (XE.of_call I (fun _ _ _ h => h σ (I.len.trans hn)) c)
section
variable {X : Cx} {CX : CXT} {k : Nat} {f C : Addr} {fd : FuncData} {ps : List Str} {sp : Sp} {E : XK} {x m : Str} {p pos apos : Pos} {e o : Expr} {es : List Expr} {te ta : TE} {t : TA} {mc : Value}
/-! ### C(), C an own exception whose __init__ is walked -/
theorem pmk_oex0 {fI : Addr} (T : OexC X.K C) (iC : PySem.W.findIn X.K (.ref C) "__init__" = some (some (.ref fI))) (tI : PySem.W.typeIn X.K (.ref fI) = some (.type "function"))
    (F1 : FnOk X.prog X.w X.K X.mg X.base CX k fI fd ps sp) (hr : Room (k + 1) X.A) (hb : Binds X.K fd ps []) (hx : Passes CX X (fun _ _ _ => False)) (hg : Gl X x) (hm : X.mg x = some (.ref C))
    (hdb : (x == ("__debug__" : Str)) = false := by decide) : PMk X (.Call (.Name x p) [] [] pos) (tMkO C sp [] tNil) := by
  intro pins s σ H Q I h
  obtain ⟨nm, q, N, bs, bm, sn, sub, ab, col, dd, k0, k1, k2, k3, k5, hC, hbm⟩ := T.cls
  refine wpAny_Call_Name_kw (ld_glob I hg hm ?_ hdb)
  refine PySem.W.callWith_K0 I.kIn T.kC ?_
  show wpAny _ _ (call (.ref C) []) _ _ _
  obtain ⟨hz, q1⟩ := h
  obtain ⟨hp, g, dr, tk, os⟩ := s
  have hsz : hp.objs.size ≤ hp.objs.size + 1 := Nat.le_succ _
  have hn : H (hp.objs.size + 1) = none := I.hok.fresh hsz
  have hq := q1 (hp.objs.size + 1) hn
  have kk : ∀ b o, hp.get? b = some o → ((hp.push (PySem.W.kdv_tup [])).push (PySem.HandSPX.excO C hp.objs.size)).get? b = some o := fun b o e => Heap.get?_push_of_some _ (Heap.get?_push_of_some _ e)
  have hget : ((hp.push (PySem.W.kdv_tup [])).push (PySem.HandSPX.excO C hp.objs.size)).get? (hp.objs.size + 1) = some (PySem.HandSPX.excO C hp.objs.size) := by heap_get
  have I2 : Inv X pins σ (upd H (hp.objs.size + 1) (exo (hp.objs.size + 1) C none)) ⟨(hp.push (PySem.W.kdv_tup [])).push (PySem.HandSPX.excO C hp.objs.size), g, dr, tk, os⟩ :=
    I.laid (t' := tk) (a := hp.objs.size + 1) (o := exo (hp.objs.size + 1) C none) (h' := (hp.push (PySem.W.kdv_tup [])).push (PySem.HandSPX.excO C hp.objs.size)) kk hsz (exo_ok hget)
  have r2 : Vals [V.ref (hp.objs.size + 1)] [Value.ref (hp.objs.size + 1)] := .cons rfl .nil
  have hl : [Value.ref (hp.objs.size + 1)].length = ps.length := by
    have e : [V.ref (hp.objs.size + 1)].length = ps.length := F1.len _ _ _ _ hq
    exact e
  refine wpAny_call (PySem.HandSPX.call_own F.excBase_ValueError (fun Y => PySem.HandSPX.refsVE_contains Y bm hbm) (I.kIn _ _ hC) (PySem.W.looks_findIn I.kIn iC) (fun self => PySem.W.bind_fn I.kIn self tI) (by decide)
    (codeAny_mono (F1.run _ X.stack _ _ ⟨[Value.ref (hp.objs.size + 1)], []⟩ [Value.ref (hp.objs.size + 1)] _ _ (fun _ _ _ => False) (hr.make C [] []) (I2.env0.make C [] []) (hb _ [Value.ref (hp.objs.size + 1)] I2.kIn hl) r2 hq) fun r s' hq' => ?_))
  cases r with
  | error er => exact hx pins σ _ _ er s' I2 hq'
  | ok fl =>
    cases fl with
    | ret u =>
      obtain ⟨v, H2, os2, bare2, un2, hok2, rv, ev, d, fs, ea, ed, hd1, q2⟩ := hq'
      subst ev
      obtain ⟨h2, g2, d2, t2, os'⟩ := s'
      exact ⟨rv, mk_end (raises_own T.exC T.tyC) I hsz kk un2 hok2 os2 bare2 ea ed hd1 q2⟩
    | next => exact False.elim hq'
    | brk => exact False.elim hq'
    | cont => exact False.elim hq'
/-! ### C.m(..), C an own class, m a def of it -/
def tClsFn (C : Addr) (sp : Sp) (E : XK) (ta : TE) (t : TA) : TE := fun σ H Q => ta σ H fun x H1 => x = .ref C ∧ t σ H1 fun vs H2 => sp vs H2 Q E
theorem pe_clsFn {pl : Sem Bool} (he : PE X o ta) (rd : PySem.W.readsIn X.K C mc = true) (ga : PySem.W.specialIn X.K (.ref C) "__getattribute__" = some (some (.builtin "type.__getattribute__"))) (at_ : PySem.W.findCls X.K (.ref C) mc m = some (.val (.ref f)))
    (F : FnOk X.prog X.w X.K X.mg X.base CX k f fd ps sp) (hr : Room k X.A) (kp : PySem.W.keepIn X.K (.ref f) = true) (hb : Binds X.K fd ps []) (hx : Passes CX X E) (ha : PA X (e :: es) t)
    (hst : starEach (e :: es) X.env = (false, eval e X.env) :: starEach es X.env := by rfl) (hpl : (backTo pos (starEach es X.env)).any (·.1) = false := by rfl)
    (ht : eval (.Call (.Attribute o m apos) (e :: es) [] pos) X.env = (do
      let ov ← eval o X.env
      standAt apos.atName
      let (f, first) ← holding [ov] (getMethod ov m pl)
      callWith pos f first (backTo pos (starEach (e :: es) X.env)) (backToKw pos (keywordEach [] X.env))) := by rfl) :
    PE X (.Call (.Attribute o m apos) (e :: es) [] pos) (tClsFn C sp E ta t) := by
  refine ⟨fun pins s σ H Q I h => ?_⟩
  refine PySem.W.methodCall_KW (pl := pl) (thn (he.run pins s σ H _ I h) fun u s1 ⟨x, H1, I1, rx, ex, q⟩ => ?_) ht
  subst ex
  obtain rfl : u = Value.ref C := rx
  refine PySem.W.method_cls I1.kIn ga (PySem.W.cls_value I1.kIn rd at_ rfl ?_)
  refine PySem.W.callWith_K (h₀ := X.base) I1.ok.mod.kin kp (thn (ha.run pos pins _ σ H1 _ (I1.tok _) q) fun us s3 ⟨vs, H2, I3, rv, q2⟩ => ⟨I3.kIn, ?_⟩) hst hpl
  exact run_fn F hr hb (dvs := []) .nil hx I3 rv (by rw [List.append_nil]; exact q2)
end
end Sf
namespace Sf
open PySem PySem.Spec PyProof.Rows L2 TL
/-! ### a def with defaults -/
structure FunD (K : PySem.W.Frag) (x qual : Str) (st : Stmt) (f : Addr) (fd : FuncData) : Prop where
  ex : ∃ (oc : Value) (od : Option Addr) (dV kV doc pm : Value) (an : Option Addr) (cdv ct : Value) (osl : Array (Option Value)),
    fd = PySem.W.fnOf x qual (defArgs st) (defBody st) (defScope st) dV kV doc pm an cdv ct ∧ K.lookup f = some ⟨oc, od, .func fd, osl⟩ ∧ PySem.W.codeIn K cdv qual = true
  kp : PySem.W.keepIn K (.ref f) = true
theorem FunD.ok {P : Program} {w : World} {K : PySem.W.Frag} {mg : Str → Option Value} {base : Heap} {x qual : Str} {st : Stmt} {f : Addr} {fd : FuncData} {N ps : List Str} {k : Nat} {sp : Sp} (F : FunD K x qual st f fd) (S : FnScope N ps (defScope st)) (len : ∀ vs H Q E, sp vs H Q E → vs.length = ps.length)
    (hbody : ∀ (cdv : Value) (A : Around) (outer : List Env) (s : Shared) (H : Hp) (vs : List V) (Q : VK) (E : XK), Room k (A.deeper (envOfC qual (defScope st) s.heap.objs.size f cdv)) → sp vs H Q E →
      ∃ t, PSs (cxOf CX0 P w K mg base N qual (defScope st) f cdv A outer s H E).nox (defBody st) t ∧ t { nx := fun _ H' => Q .non H', rt := Q } (start N vs) H) : FnOk P w K mg base CX0 (k + 1) f fd ps sp := by
  obtain ⟨oc, od, dV, kV, doc, pm, an, cdv, ct, osl, rfl, lk, hcd⟩ := F.ex
  refine fn_of lk hcd S len fun A outer s H vs Q E hr hsp => ?_
  obtain ⟨t, h, q⟩ := hbody cdv A outer s H vs Q E hr hsp
  exact ⟨t, h.nox, q⟩
def FbD (K : PySem.W.Frag) (x qual : Str) (st : Stmt) (f : Addr) (ps : List Str) : Prop := ∃ fd, FunD K x qual st f fd ∧ Binds K fd ps []
def Fb (K : PySem.W.Frag) (x qual : Str) (st : Stmt) (f : Addr) (ps : List Str) : Prop := ∃ fd, Fun K x qual st f fd ∧ Binds K fd ps []
theorem fbD_mk {K : PySem.W.Frag} {x qual : Str} {st : Stmt} {f T : Addr} {ps : List Str} {oc : Value} {od an : Option Addr} {osl : Array (Option Value)} {kV doc pm cdv ct : Value} (l : K.lookup f = some ⟨oc, od, .func (PySem.W.fnOf x qual (defArgs st) (defBody st) (defScope st) (.ref T) kV doc pm an cdv ct), osl⟩)
    (c : PySem.W.codeIn K cdv qual = true) (k : PySem.W.keepIn K (.ref f) = true)
    (b : ∀ (kV doc pm : Value) (an : Option Addr) (cdv ct : Value) (s : Shared) (us : List Value), K.In s.heap → us.length = ps.length → BindsTo s (PySem.W.fnOf x qual (defArgs st) (defBody st) (defScope st) (.ref T) kV doc pm an cdv ct) ⟨us, []⟩ (ps.zip us)) : FbD K x qual st f ps :=
  ⟨_, ⟨⟨oc, od, .ref T, kV, doc, pm, an, cdv, ct, osl, rfl, l, c⟩, k⟩, fun s us X hl => by
    rw [List.append_nil] at hl ⊢
    exact b kV doc pm an cdv ct s us X hl⟩
theorem se_binds {K : PySem.W.Frag} {T : Addr} {o : Obj} {v1 v2 : Value} {n : Nat} (ho : K.lookup T = some o) (hs : o.data = .seq #[v1, v2] n) (kV doc pm : Value) (an : Option Addr) (cdv ct : Value) (s : Shared) (us : List Value) (X : K.In s.heap) (hl : us.length = 3) :
    BindsTo s (PySem.W.fnOf "__init__" "SpoorError.__init__" (defArgs s_SpoorError___init__) (defBody s_SpoorError___init__) (defScope s_SpoorError___init__) (.ref T) kV doc pm an cdv ct) ⟨us, []⟩ ((["self", "word", "message"] : List Str).zip us) := by
  match us, hl with
  | [_, _, _], _ => exact PySem.W.binds_K X rfl ho hs rfl rfl
theorem fb_mk {K : PySem.W.Frag} {x qual : Str} {st : Stmt} {f : Addr} {ps : List Str} {oc : Value} {od an : Option Addr} {osl : Array (Option Value)} {kV doc pm cdv ct : Value} (l : K.lookup f = some ⟨oc, od, .func (PySem.W.fnOf x qual (defArgs st) (defBody st) (defScope st) .none kV doc pm an cdv ct), osl⟩)
    (c : PySem.W.codeIn K cdv qual = true) (k : PySem.W.keepIn K (.ref f) = true) (b : ∀ (kV doc pm : Value) (an : Option Addr) (cdv ct : Value) (us : List Value), us.length = ps.length → bindArgs (PySem.W.fnOf x qual (defArgs st) (defBody st) (defScope st) .none kV doc pm an cdv ct) ⟨us, []⟩ = pure (ps.zip us)) : Fb K x qual st f ps :=
  ⟨_, fun_mk l c k, (fun_mk l c k).binds b⟩
theorem exm_self {K : PySem.W.Frag} {C : Addr} (h0 : PySem.W.subIn K (.ref C) (.type "BaseException") = some true) (h1 : PySem.W.isClsIn K C = true) (h2 : PySem.W.typeIn K (.ref C) = some (.type "type")) (h3 : PySem.W.subIn K (.ref C) (.ref C) = some true) : PySem.W.exmOne K (.ref C) (.ref C) = some true := by
  unfold PySem.W.exmOne
  rw [if_pos (by rw [h0]; rfl)]
  unfold PySem.W.isClsIn at h1
  unfold PySem.W.kitCls
  dsimp only
  rw [h1, h2, if_pos (by simp), h3]
/-! ### the refusals -/
/-- an own refusal, the class at C, its __init__ at f -/
structure EC (K : PySem.W.Frag) (mg : Str → Option Value) (nm : Str) (C f : Addr) : Prop where
  ox : OexC K C
  iC : PySem.W.findIn K (.ref C) "__init__" = some (some (.ref f))
  tI : PySem.W.typeIn K (.ref f) = some (.type "function")
  gC : mg nm = some (.ref C)
  xf : XfC K C
  nw : PySem.W.findIn K (.ref C) "word" = some none
  te : PySem.W.exmOne K (.ref C) (.ref C) = some true
theorem oex_mk {K : PySem.W.Frag} {C : Addr} {nm q : Str} {N : Addr} {bs bm : List Value} {sn : List Str} {sub : List Value} {ab : Bool} {col : Option Bool} {dd : Option Addr} {k0 k1 k2 k3 k5 : Option Value}
    (lk : K.lookup C = some (excClassObj nm q C N bs bm true sn sub ab col dd k0 k1 k2 k3 k5 "ValueError.__new__")) (rv : PySem.HandSPX.refsVE bm = true) (sa : PySem.W.findIn K (.ref C) "__setattr__" = some (some (.builtin "object.__setattr__"))) (ex : PySem.W.subIn K (.ref C) (.type "BaseException") = some true)
    (ty : PySem.W.typeIn K (.ref C) = some (.type "type")) (kC : PySem.W.keepIn K (.ref C) = true) : OexC K C := ⟨⟨nm, q, N, bs, bm, sn, sub, ab, col, dd, k0, k1, k2, k3, k5, lk, rv⟩, sa, ex, ty, kC⟩
/-- SpoorError itself -/
structure SE (K : PySem.W.Frag) (mg : Str → Option Value) (C f : Addr) : Prop where
  gC : mg "SpoorError" = some (.ref C)
  rd : PySem.W.readsIn K C (.type "type") = true
  ga : PySem.W.specialIn K (.ref C) "__getattribute__" = some (some (.builtin "type.__getattribute__"))
  at_ : PySem.W.findCls K (.ref C) (.type "type") "__init__" = some (.val (.ref f))
  vV : PySem.W.findCls K (.type "ValueError") (.type "type") "__init__" = some (.val (.builtin "ValueError.__init__"))
  mV : mg "ValueError" = none
section
variable {P : Program} {w : World} {K : PySem.W.Frag} {mg : Str → Option Value} {base : Heap} {C CS fS : Addr}
def spSE (K : PySem.W.Frag) : Sp := fun vs H Q _ => ∃ (a C : Addr) (z m : Str), vs = [.ref a, .str z, .str m] ∧ OexC K C ∧ PySem.W.findIn K (.ref C) "word" = some none ∧ H a = some (exo a C none) ∧
  ∀ dx, H dx = none → dx ≠ a → Q .non (upd (upd H dx (exd dx [(("word" : Str), .str z)])) a (exo a C (some dx)))
theorem sc_se : FnScope ["self", "word", "message"] ["self", "word", "message"] (defScope s_SpoorError___init__) := ⟨rfl, rfl, rfl, by decide +kernel, rfl, by decide +kernel, by decide +kernel⟩
theorem ok_se {f : Addr} {fd : FuncData} {j : Nat} (F : FunD K "__init__" "SpoorError.__init__" s_SpoorError___init__ f fd) (S : SE K mg CS fS) : FnOk P w K mg base CX0 (j + 1) f fd ["self", "word", "message"] (spSE K) := by
  refine F.ok sc_se (fun vs H Q E h => ?_) (fun cdv A outer s H vs Q E hr h => ?_)
  · obtain ⟨a, C, z, m, rfl, _⟩ := h
    rfl
  · obtain ⟨a, C, z, m, rfl, ox, nw, ha, q⟩ := h
    refine ⟨_, pss_cons (ps_expr (pe_veinit (by rfl) S.mV S.vV (pa_cons (pv 0) (pa_cons (pv 2) pa_nil)))) (pss_one (ps_ost (pv 0) (pv 1))), ?_⟩
    refine ⟨_, rfl, _, rfl, a, C, _, rfl, (by show 1 ≤ 1000; decide), ox, ha, ?_⟩
    exact ⟨_, rfl, _, rfl, a, C, rfl, ox, nw, .inl ⟨ha, fun dx n ne => q dx n ne⟩⟩
/-- X.__init__(self): the word of X -/
def spEx (K : PySem.W.Frag) (z : Str) : Sp := fun vs H Q _ => ∃ (a C : Addr), vs = [.ref a] ∧ OexC K C ∧ PySem.W.findIn K (.ref C) "word" = some none ∧ H a = some (exo a C none) ∧
  ∀ dx, H dx = none → dx ≠ a → Q .non (upd (upd H dx (exd dx [(("word" : Str), .str z)])) a (exo a C (some dx)))
theorem w_mkO {H : Hp} {σ : L2.St} {W : XK} {z nm : Str} {f : Addr} (T : EC K mg nm C f) (k : ∀ (d : Addr) (H' : Hp), H d = none → H' d = some (.xd [(("word" : Str), .str z)]) → Same H H' → W (.ref C) (some d) H') : tMkO C (spEx K z) [] tNil σ H W := by
  refine ⟨by show 0 ≤ 1000; decide, fun a na => ⟨a, C, rfl, T.ox, T.nw, upd_same, fun dx n ne => ⟨rfl, dx, _, upd_same, ?_, ?_, k dx _ ?_ upd_same fun b o e => ?_⟩⟩⟩
  · rw [upd_ne ne, upd_same]
  · rw [upd_ne ne] at n
    exact n
  · rw [upd_ne ne] at n
    exact n
  · rw [upd_ne ne] at n
    rw [upd_ne (ne_of_none e n), del_ne (ne_of_none e na), upd_ne (ne_of_none e na), upd_ne (ne_of_none e n), upd_ne (ne_of_none e na)]
    exact e
end
end Sf
namespace Sf
open PySem PySem.Spec PyProof.Rows L2 TL
/-! ### own refusals under LookupError -/
abbrev leT : List Value := [.type "LookupError", .type "Exception", .type "BaseException", .type "object"]
structure OexL (K : PySem.W.Frag) (C : Addr) : Prop where
  ini : PySem.W.excInitIn K C leT "LookupError.__new__" = true
  ovr : PySem.W.excOver K C leT = true
  dct : PySem.W.hasDictIn K C = true
  sa : PySem.W.findIn K (.ref C) "__setattr__" = some (some (.builtin "object.__setattr__"))
  exC : PySem.W.subIn K (.ref C) (.type "BaseException") = some true
  tyC : PySem.W.typeIn K (.ref C) = some (.type "type")
  kC : PySem.W.keepIn K (.ref C) = true
theorem taker_no {K : PySem.W.Frag} {C : Addr} {f : Str} (h : PySem.W.findIn K (.ref C) f = some none) : PySem.W.takerIn K C f = some none := by
  unfold PySem.W.takerIn
  rw [h]
  rfl
section
variable {X : Cx} {pins : List (Addr × Obj)} {σ : L2.St} {H : Hp} {s : Shared} {a C dx : Addr} {f : Str} {y : V} {u : Value} {fs : List (Str × V)} {Q : Unit → Shared → Prop} {E : Value → Shared → Prop} {A : Around}
theorem lst_new (T : OexL X.K C) (I : Inv X pins σ H s) (e : H a = some (exo a C none)) (hno : PySem.W.findIn X.K (.ref C) f = some none) (ry : RelV y u)
    (h : ∀ dx s', H dx = none → dx ≠ a → Inv X pins σ (upd (upd H dx (exd dx [(f, y)])) a (exo a C (some dx))) s' → Q () s') : wpAny (model X.prog X.w) A (setAttr (.ref a) f u) Q E s := by
  obtain ⟨t1, ho⟩ := exo_at I.hok e
  obtain ⟨cd, hc, hd⟩ := PySem.W.any_some T.dct
  obtain ⟨hp, g, d, t, os⟩ := s
  have na : a < hp.objs.size := Heap.lt_size ho
  have nd : H hp.objs.size = none := I.hok.fresh (Nat.le_refl _)
  have ne : hp.objs.size ≠ a := Nat.ne_of_gt na
  refine PySem.W.set_plain I.kIn (ox := PySem.W.excObj C t1 none .none) (od := none) ⟨ho, rfl, rfl, trivial⟩ T.sa ?_
  refine PySem.W.osa_openX (od := none) PySem.F.store_LookupError I.kIn ⟨ho, rfl, rfl, trivial⟩ T.ovr (taker_no hno) fun b => ?_
  refine wpAny_bind (wpAny_pure (wpAny_bind (PySem.W.instanceDict_exc (t := t1) (c2 := .none) ho (PySem.W.looks_clsIn I.kIn hc) hd ?_)))
  show wpAny _ _ (PySem.Builtin.ObjectAttr.storeInDict hp.objs.size _ _ _) _ _ _
  have k1 : ∀ b o, hp.get? b = some o → (hp.push (PySem.W.dictOf [] 0)).get? b = some o := fun b o z => Heap.get?_push_of_some _ z
  have hD0 : (hp.push (PySem.W.dictOf [] 0)).get? hp.objs.size = some (PySem.W.dictOf [] 0) := Heap.get?_push_at rfl rfl
  have hN0 : (hp.push (PySem.W.dictOf [] 0)).Ns hp.objs.size (fun _ => none) := ⟨_, #[], _, hD0, rfl, fun e he => absurd he (by simp), fun _ => rfl⟩
  have I1 : Inv X pins σ (upd H hp.objs.size (exd hp.objs.size [])) ⟨hp.push (PySem.W.dictOf [] 0), g, d, t, os⟩ := I.laid (t' := t) (a := hp.objs.size) (o := exd hp.objs.size []) k1 (Nat.le_refl _) (exd_ok (Heap.Ns1.of_empty hN0) fun _ => True.intro)
  have hx1 : ((hp.push (PySem.W.dictOf [] 0)).update a fun o => { o with dict := some hp.objs.size }).get? a = some (PySem.W.excObj C t1 (some hp.objs.size) .none) := Heap.get?_update_self _ (k1 _ _ ho) rfl
  have ko : ∀ b u, b ≠ a → (hp.push (PySem.W.dictOf [] 0)).get? b = some u → ((hp.push (PySem.W.dictOf [] 0)).update a fun o => { o with dict := some hp.objs.size }).get? b = some u := fun b u hb z => (Heap.get?_update_ne _ _ _ _ hb).trans z
  have I2 := I1.write (t' := t) (x := a) (e := a) (o := exo a C (some hp.objs.size)) (by rw [upd_ne (Ne.symm ne), e]; exact True.intro) (.inl rfl) ko ⟨_, hx1⟩ (exo_ok hx1)
  have hN1 : ((hp.push (PySem.W.dictOf [] 0)).update a fun o => { o with dict := some hp.objs.size }).Ns hp.objs.size (fun _ => none) := ⟨_, #[], _, ko _ _ ne hD0, rfl, fun e he => absurd he (by simp), fun _ => rfl⟩
  refine PySem.HandSPX.store_in_new hN1 fun h' tk' hn hs => ?_
  have hd' : ∃ o, h'.get? hp.objs.size = some o := by
    obtain ⟨o, _, _, e', _⟩ := hn
    exact ⟨o, e'⟩
  have I3 := I2.write (t' := tk') (x := hp.objs.size) (e := hp.objs.size) (o := exd hp.objs.size [(f, y)]) (by rw [upd_ne ne, upd_same]; exact True.intro) (.inl rfl) (fun b u hb z => (hs.2 b hb).trans z) hd' (exd_ok hn (relO_put (fs := []) (mA := fun _ => none) ry fun g => True.intro))
  refine h hp.objs.size _ nd ne ?_
  have ee : upd (upd (upd H hp.objs.size (exd hp.objs.size [])) a (exo a C (some hp.objs.size))) hp.objs.size (exd hp.objs.size [(f, y)]) = upd (upd H hp.objs.size (exd hp.objs.size [(f, y)])) a (exo a C (some hp.objs.size)) := by
    funext b
    by_cases h1 : b = a
    · subst h1
      rw [upd_ne (Ne.symm ne), upd_same, upd_same]
    · by_cases h2 : b = hp.objs.size
      · subst h2
        rw [upd_same, upd_ne h1, upd_same]
      · rw [upd_ne h2, upd_ne h1, upd_ne h2, upd_ne h1, upd_ne h2]
  rw [ee] at I3
  exact I3
theorem lst_old (T : OexL X.K C) (I : Inv X pins σ H s) (e : H a = some (exo a C (some dx))) (ed : H dx = some (exd dx fs)) (hl : fs.length ≤ 900) (hno : PySem.W.findIn X.K (.ref C) f = some none) (ry : RelV y u)
    (h : ∀ s', Inv X pins σ (upd H dx (exd dx ((f, y) :: fs))) s' → Q () s') : wpAny (model X.prog X.w) A (setAttr (.ref a) f u) Q E s := by
  obtain ⟨t1, ho⟩ := exo_at I.hok e
  obtain ⟨mA, hns, rel⟩ := exd_at I.hok ed
  obtain ⟨cd, hc, hd⟩ := PySem.W.any_some T.dct
  have hw := within_of rel
  obtain ⟨hp, g, d, t, os⟩ := s
  obtain ⟨oD, _, _, hoD, _, _⟩ := hns.count hw
  refine PySem.W.set_plain I.kIn (ox := PySem.W.excObj C t1 (some dx) .none) (od := some oD) ⟨ho, rfl, rfl, hoD⟩ T.sa ?_
  refine PySem.W.osa_openX (od := some oD) PySem.F.store_LookupError I.kIn ⟨ho, rfl, rfl, hoD⟩ T.ovr (taker_no hno) fun b => ?_
  refine wpAny_bind (wpAny_pure (wpAny_bind (wpAny_bind (wpAny_loadPart ho (wpAny_bind ((PySem.W.looks_clsIn I.kIn hc).at ?_))))))
  rw [hd]
  refine wpAny_pure (a := some dx) ?_
  refine PySem.OEX.store_in_old hns hw (by rw [List.length_map]; omega) fun h' tk' hn hs => ?_
  have hd' : ∃ o, h'.get? dx = some o := by
    obtain ⟨o, _, _, e', _⟩ := hn
    exact ⟨o, e'⟩
  exact h _ (I.write (t' := tk') (x := dx) (e := dx) (o := exd dx ((f, y) :: fs)) (by rw [ed]; exact True.intro) (.inl rfl) (fun b u hb z => (hs.2 b hb).trans z) hd' (exd_ok hn (relO_put ry rel)))
theorem linit_ok {us : List Value} {Q : Value → Shared → Prop} (T : OexL X.K C) (I : Inv X pins σ H s) (e : H a = some (exo a C none)) (hl : us.length ≤ sizeLine) (h : ∀ s', Inv X pins σ H s' → Q .none s') :
    wpAny (model X.prog X.w) A (call (.builtin "LookupError.__init__") (.ref a :: us)) Q E s := by
  obtain ⟨nm, N', qn, bs, bm, hdct, sn, sub, ab, col, dd, k0, k1, k2, k3, k5, hC, hT⟩ := PySem.W.excInit_of I.kIn T.ini
  obtain ⟨t1, ho⟩ := exo_at I.hok e
  obtain ⟨hp, g, d, t, os⟩ := s
  refine wpAny_call (PySem.HandSPX.init_base PySem.F.excBase_LookupError hT hC ho hl fun h' t2 k hx => ?_)
  have J := I.write (t' := t) (x := a) (e := a) (o := exo a C none) (by rw [e]; exact True.intro) (.inl rfl) k ⟨_, hx⟩ (exo_ok hx)
  have eu : upd H a (exo a C none) = H := funext fun b => by
    by_cases hb : b = a
    · rw [hb, upd_same, e]
    · rw [upd_ne hb]
  rw [eu] at J
  exact h _ J
end
/-- LookupError.__init__(self, ..) -/
def tLeI (K : PySem.W.Frag) (ta : TA) : TE := fun σ H Q => ta σ H fun vs H1 => ∃ (a C : Addr) (ws : List V), vs = .ref a :: ws ∧ ws.length ≤ 1000 ∧ OexL K C ∧ H1 a = some (exo a C none) ∧ Q .non H1
/-- self.f = e -/
def tLst (K : PySem.W.Frag) (f : Str) (to te : TE) : TS := fun D σ H => te σ H fun y H1 => to σ H1 fun x H2 => ∃ a C : Addr, x = .ref a ∧ OexL K C ∧ PySem.W.findIn K (.ref C) f = some none ∧
  ((H2 a = some (exo a C none) ∧ ∀ dx, H2 dx = none → dx ≠ a → D.nx σ (upd (upd H2 dx (exd dx [(f, y)])) a (exo a C (some dx)))) ∨
    ∃ (dx : Addr) (fs : List (Str × V)), H2 a = some (exo a C (some dx)) ∧ H2 dx = some (exd dx fs) ∧ fs.length ≤ 900 ∧ D.nx σ (upd H2 dx (exd dx ((f, y) :: fs))))
theorem typ_LE : typeOf (.type "LookupError") = pure (.type "type") := by kernel_rfl
section
variable {X : Cx} {o e : Expr} {es : List Expr} {to te : TE} {ta : TA} {f : Str} {p p' p1 p2 pos : Pos}
theorem pe_leinit {pl : Sem Bool} (hg : Gl X "LookupError") (hm : X.mg "LookupError" = none) (vV : PySem.W.findCls X.K (.type "LookupError") (.type "type") "__init__" = some (.val (.builtin "LookupError.__init__"))) (ha : PA X (e :: es) ta)
    (hc : eval (.Call (.Attribute (.Name "LookupError" p1) "__init__" p2) (e :: es) [] pos) X.env = (do
      let ov ← eval (.Name "LookupError" p1) X.env
      standAt p2.atName
      let (f, first) ← holding [ov] (getMethod ov "__init__" pl)
      callWith pos f first (backTo pos (starEach (e :: es) X.env)) (backToKw pos (keywordEach [] X.env))) := by rfl)
    (he : starEach (e :: es) X.env = (false, eval e X.env) :: starEach es X.env := by rfl) (hpl : (backTo pos (starEach es X.env)).any (·.1) = false := by rfl) :
    PE X (.Call (.Attribute (.Name "LookupError" p1) "__init__" p2) (e :: es) [] pos) (tLeI X.K ta) := by
  refine ⟨fun pins s σ H Q I h => ?_⟩
  refine PySem.W.methodCall_KW (ld_blt I hg hm PyProof.Rows.Boot.«LookupError» ?_ (by decide) (by decide)) hc
  obtain ⟨m, fr⟩ := I.fr
  refine PySem.W.method_type fr I.ok.mod.kin typ_LE (by decide +kernel) vV (by decide +kernel) ?_
  show wpAny _ _ (callWith pos (Value.builtin "LookupError.__init__") [] (backTo pos (starEach (e :: es) X.env)) []) _ _ _
  refine PyProof.Rows.callWith_method1 (thn (ha.run pos pins _ σ H _ (I.tok _) h) fun us s1 ⟨vs, H1, I1, r1, a, C, ws, ev, hl, T, ea, q⟩ => ?_) he hpl
  subst ev
  cases r1 with
  | @cons _ u0 _ ur ra rw' =>
    obtain rfl : u0 = Value.ref a := ra
    have hlen : ur.length ≤ sizeLine := by
      rw [← Paired.length rw', sizeLine_eq]
      omega
    exact linit_ok T I1 ea hlen fun s' J => ⟨.non, H1, J, rfl, q⟩
theorem ps_lst (ho : PE X o to) (he : PE X e te) (hs : swapsWith e (some (.Attribute o f p')) pos.line X.env = pure false := by rfl) : PS X (.Assign [.Attribute o f p'] e pos) (tLst X.K f to te) := by
  refine ⟨fun pins s σ H D I h => ?_⟩
  refine plainObj_wpAny_Assign_Attribute (thn (he.run pins s σ H _ I h) fun v s1 ⟨y, H1, I1, r1, q1⟩ => thn (ho.run pins s1 σ H1 _ I1 q1) fun u s2 ⟨x, H2, I2, r2, a, C, ex, T, hno, q⟩ => ?_) hs
  subst ex
  obtain rfl : u = Value.ref a := r2
  rcases q with ⟨ea, q⟩ | ⟨dx, fs, ea, ed, hl, q⟩
  · exact lst_new T I2 ea hno r1 fun dx s' n ne J => ⟨σ, _, J, q dx n ne⟩
  · exact lst_old T I2 ea ed hl hno r1 fun s' J => ⟨σ, _, J, q⟩
theorem pmk_oexL {CX : CXT} {x : Str} {C fI : Addr} {k : Nat} {fd : FuncData} {ps : List Str} {sp : Sp} (T : OexL X.K C) (iC : PySem.W.findIn X.K (.ref C) "__init__" = some (some (.ref fI))) (tI : PySem.W.typeIn X.K (.ref fI) = some (.type "function"))
    (F1 : FnOk X.prog X.w X.K X.mg X.base CX k fI fd ps sp) (hr : Room (k + 1) X.A) (hb : Binds X.K fd ps []) (hx : Passes CX X (fun _ _ _ => False)) (hg : Gl X x) (hm : X.mg x = some (.ref C)) (ha : PA X (e :: es) ta)
    (hdb : (x == ("__debug__" : Str)) = false := by decide) (he : starEach (e :: es) X.env = (false, eval e X.env) :: starEach es X.env := by rfl) (hpl : (backTo pos (starEach es X.env)).any (·.1) = false := by rfl) :
    PMk X (.Call (.Name x p) (e :: es) [] pos) (tMkO C sp [] ta) := by
  intro pins s σ H Q I h
  refine wpAny_Call_Name_kw (ld_glob I hg hm ?_ hdb)
  refine PySem.W.callWith_K (h₀ := X.base) I.ok.mod.kin T.kC (thn (ha.run pos pins s σ H _ I h) fun us s1 ⟨vs, H1, I1, r1, hz, q1⟩ => ⟨I1.kIn, ?_⟩) he hpl
  show wpAny _ _ (call (.ref C) us) _ _ _
  obtain ⟨nm, N', qn, bs, bm, hdct, sn, sub, ab, col, dd, k0, k1, k2, k3, k5, hC, hT⟩ := PySem.W.excInit_of I1.kIn T.ini
  obtain ⟨hp, g, dr, tk, os⟩ := s1
  have hn : H1 (hp.objs.size + 1) = none := I1.hok.fresh (Nat.le_succ _)
  have hq := q1 (hp.objs.size + 1) hn
  have kk : ∀ b o, hp.get? b = some o → ((hp.push (PySem.W.kdv_tup us)).push (PySem.HandSPX.excO C hp.objs.size)).get? b = some o := fun b o z => Heap.get?_push_of_some _ (Heap.get?_push_of_some _ z)
  have hget : ((hp.push (PySem.W.kdv_tup us)).push (PySem.HandSPX.excO C hp.objs.size)).get? (hp.objs.size + 1) = some (PySem.HandSPX.excO C hp.objs.size) := by heap_get
  have I2 : Inv X pins σ (upd H1 (hp.objs.size + 1) (exo (hp.objs.size + 1) C none)) ⟨(hp.push (PySem.W.kdv_tup us)).push (PySem.HandSPX.excO C hp.objs.size), g, dr, tk, os⟩ :=
    I1.laid (t' := tk) (a := hp.objs.size + 1) (o := exo (hp.objs.size + 1) C none) kk (Nat.le_succ _) (exo_ok hget)
  have r2 : Vals (V.ref (hp.objs.size + 1) :: (vs ++ [])) (Value.ref (hp.objs.size + 1) :: us) := by
    rw [List.append_nil]
    exact .cons rfl r1
  have hl : (Value.ref (hp.objs.size + 1) :: us ++ []).length = ps.length := by
    rw [List.append_nil]
    have z := r2.length
    rw [F1.len _ _ _ _ hq] at z
    exact z.symm
  have hus : us.length ≤ sizeLine := by
    rw [← Paired.length r1, sizeLine_eq]
    omega
  have bb := hb _ (Value.ref (hp.objs.size + 1) :: us) I2.kIn hl
  rw [List.append_nil] at bb
  refine wpAny_call (PySem.HandSPX.call_own PySem.F.excBase_LookupError hT hC (PySem.W.looks_findIn I1.kIn iC) (fun self => PySem.W.bind_fn I1.kIn self tI) hus
    (codeAny_mono (F1.run _ X.stack _ _ ⟨Value.ref (hp.objs.size + 1) :: us, []⟩ (Value.ref (hp.objs.size + 1) :: us) _ _ (fun _ _ _ => False) (hr.make C us []) (I2.env0.make C us []) bb r2 hq) fun r s' hq' => ?_))
  match r, hq' with
  | .error er, hq' => exact hx pins σ _ _ er s' I2 hq'
  | .ok (.ret u), hq' =>
    obtain ⟨v, H2, os2, bare2, un2, hok2, rv, ev, d, fs, ea, ed, hd1, q2⟩ := hq'
    subst ev
    obtain ⟨h2, g2, d2, t2, os'⟩ := s'
    exact ⟨rv, mk_end (raises_own T.exC T.tyC) I1 (Nat.le_succ _) kk un2 hok2 os2 bare2 ea ed hd1 q2⟩
  | .ok .next, hq' => exact False.elim hq'
  | .ok .brk, hq' => exact False.elim hq'
  | .ok .cont, hq' => exact False.elim hq'
end
/-! ### isinstance of a caught refusal that has a dict -/
def rIsX (K : PySem.W.Frag) (D a : Addr) (cls : Value) (d : Option Addr) : List V → Hp → VK → Prop := fun xs H Q => ∃ (c : V) (cv : Value) (b : Bool) (dd : Addr) (fs : List (Str × V)), cls = .ref D ∧ d = some dd ∧ xs = [.ref a, c] ∧ (∀ u, RelV c u → u = cv) ∧ H dd = some (.xd fs) ∧ PySem.W.kitOne K (.ref D) cv = some b ∧ Q (.bl b) H
theorem call_isX {X : Cx} {a D : Addr} {cls : Value} {d : Option Addr} {oe : Obj} {pn : List (Addr × Obj)} (C : L2.ExcC X.K D) (hz : Zc cls d oe) (hf : ∃ vs, oe.data = .fields vs) : CallR (X.suite a ((a, oe) :: pn)) (.builtin "isinstance") (rIsX X.K D a cls d) := by
  intro pins s σ H xs us Q I r h
  obtain ⟨c, cv, b, dd, fs, rfl, rfl, rfl, hcv, ed, e, q⟩ := h
  match us, r with
  | [_, _], .cons rx (.cons rt .nil) =>
    cases rx
    have ec := hcv _ rt
    subst ec
    obtain ⟨hget, _⟩ := I.pin (a, oe) (List.mem_append_left _ List.mem_cons_self)
    obtain ⟨vs, hv⟩ := hf
    have hx : ObjOk X.prog X.w H s.heap dd (.xd fs) := I.hok dd _ ed
    obtain ⟨mA, hns, hr⟩ := hx
    obtain ⟨od, ho, hl⟩ := lookIn_ns hns
    have J : PySem.W.InstAt s.heap a oe D (some od) := ⟨hget, hz.1, by unfold PySem.W.notCls; rw [hv] <;> rfl, by rw [hz.2]; exact ho⟩
    have hcl : (PySem.W.clsIn X.K D).isSome = true := by
      obtain ⟨cd, hc, _⟩ := PySem.W.any_some C.hd
      rw [hc]
      rfl
    exact PySem.W.kia_one (PySem.W.kitx_exc hcl C.hg C.hk C.hs C.ha C.hn C.ht C.hm) I.kIn J e (fun z => nomatch z) fun tk => ⟨.bl b, H, I.kept (t' := tk) fun _ _ z => z, rfl, q⟩
theorem kit_ref {K : PySem.W.Frag} {C D : Addr} {b : Bool} (h0 : (D == C) = false) (h1 : PySem.W.isClsIn K C = true) (h2 : PySem.W.typeIn K (.ref C) = some (.type "type")) (h3 : PySem.W.subIn K (.ref D) (.ref C) = some b) : PySem.W.kitOne K (.ref D) (.ref C) = some b := by
  unfold PySem.W.isClsIn at h1
  unfold PySem.W.kitOne
  rw [if_neg (by intro e; have z := Value.ref.inj (eq_of_beq e); subst z; rw [beq_self_eq_true] at h0; cases h0)]
  unfold PySem.W.kitCls
  dsimp only
  rw [h1, h2, if_pos (by simp), h3]
theorem kit_bty {K : PySem.W.Frag} {D : Addr} {T : String} {b : Bool} (h1 : PySem.W.kitMeta T = true) (h3 : PySem.W.subIn K (.ref D) (.type T) = some b) : PySem.W.kitOne K (.ref D) (.type T) = some b := by
  unfold PySem.W.kitOne
  rw [if_neg (by intro e; have z := eq_of_beq e; cases z)]
  unfold PySem.W.kitCls
  dsimp only
  rw [if_pos h1, h3]
/-! ### the refusals that say what is not there -/
/-- an own refusal under LookupError, the class at C, its __init__ at f -/
structure EL (K : PySem.W.Frag) (mg : Str → Option Value) (nm : Str) (C f : Addr) : Prop where
  ox : OexL K C
  iC : PySem.W.findIn K (.ref C) "__init__" = some (some (.ref f))
  tI : PySem.W.typeIn K (.ref f) = some (.type "function")
  gC : mg nm = some (.ref C)
  xf : XfC K C
  nw : PySem.W.findIn K (.ref C) "word" = some none
  te : PySem.W.exmOne K (.ref C) (.ref C) = some true
/-- Lacking itself -/
structure LE (K : PySem.W.Frag) (mg : Str → Option Value) (C f : Addr) : Prop where
  gC : mg "Lacking" = some (.ref C)
  rd : PySem.W.readsIn K C (.type "type") = true
  ga : PySem.W.specialIn K (.ref C) "__getattribute__" = some (some (.builtin "type.__getattribute__"))
  at_ : PySem.W.findCls K (.ref C) (.type "type") "__init__" = some (.val (.ref f))
  vV : PySem.W.findCls K (.type "LookupError") (.type "type") "__init__" = some (.val (.builtin "LookupError.__init__"))
  mV : mg "LookupError" = none
section
variable {P : Program} {w : World} {K : PySem.W.Frag} {mg : Str → Option Value} {base : Heap} {C CS fS : Addr}
def spLE (K : PySem.W.Frag) : Sp := fun vs H Q _ => ∃ (a C : Addr) (z m : Str), vs = [.ref a, .str z, .str m] ∧ OexL K C ∧ PySem.W.findIn K (.ref C) "word" = some none ∧ H a = some (exo a C none) ∧
  ∀ dx, H dx = none → dx ≠ a → Q .non (upd (upd H dx (exd dx [(("word" : Str), .str z)])) a (exo a C (some dx)))
theorem sc_le : FnScope ["self", "word", "message"] ["self", "word", "message"] (defScope s_Lacking___init__) := ⟨rfl, rfl, rfl, by decide +kernel, rfl, by decide +kernel, by decide +kernel⟩
theorem ok_le {f : Addr} {fd : FuncData} {j : Nat} (F : FunD K "__init__" "Lacking.__init__" s_Lacking___init__ f fd) (S : LE K mg CS fS) : FnOk P w K mg base CX0 (j + 1) f fd ["self", "word", "message"] (spLE K) := by
  refine F.ok sc_le (fun vs H Q E h => ?_) (fun cdv A outer s H vs Q E hr h => ?_)
  · obtain ⟨a, C, z, m, rfl, _⟩ := h
    rfl
  · obtain ⟨a, C, z, m, rfl, ox, nw, ha, q⟩ := h
    refine ⟨_, pss_cons (ps_expr (pe_leinit (by rfl) S.mV S.vV (pa_cons (pv 0) (pa_cons (pv 2) pa_nil)))) (pss_one (ps_lst (pv 0) (pv 1))), ?_⟩
    refine ⟨_, rfl, _, rfl, a, C, _, rfl, (by show 1 ≤ 1000; decide), ox, ha, ?_⟩
    exact ⟨_, rfl, _, rfl, a, C, rfl, ox, nw, .inl ⟨ha, fun dx n ne => q dx n ne⟩⟩
theorem le_binds {K : PySem.W.Frag} {T : Addr} {o : Obj} {v1 v2 : Value} {n : Nat} (ho : K.lookup T = some o) (hs : o.data = .seq #[v1, v2] n) (kV doc pm : Value) (an : Option Addr) (cdv ct : Value) (s : Shared) (us : List Value) (X : K.In s.heap) (hl : us.length = 3) :
    BindsTo s (PySem.W.fnOf "__init__" "Lacking.__init__" (defArgs s_Lacking___init__) (defBody s_Lacking___init__) (defScope s_Lacking___init__) (.ref T) kV doc pm an cdv ct) ⟨us, []⟩ ((["self", "word", "message"] : List Str).zip us) := by
  match us, hl with
  | [_, _, _], _ => exact PySem.W.binds_K X rfl ho hs rfl rfl
/-- X.__init__(self, number) -/
def spExL (K : PySem.W.Frag) (z fl : Str) : Sp := fun vs H Q _ => ∃ (a C : Addr) (i : Int), vs = [.ref a, .int i] ∧ i.natAbs.log2 < 1920 ∧ OexL K C ∧ PySem.W.findIn K (.ref C) "word" = some none ∧ PySem.W.findIn K (.ref C) fl = some none ∧ H a = some (exo a C none) ∧
  ∀ (dx : Addr) (H' : Hp), H dx = none → dx ≠ a → H' a = some (exo a C (some dx)) → H' dx = some (exd dx [(fl, .int i), (("word" : Str), .str z)]) → (∀ b, b ≠ a → b ≠ dx → H' b = H b) → Q .non H'
def kMkL (C : Addr) (sp : Sp) (W : XK) : List V → Hp → Prop := fun vs H1 => vs.length ≤ 1000 ∧ ∀ a, H1 a = none → sp (.ref a :: (vs ++ [])) (upd H1 a (exo a C none))
  (fun v H2 => v = .non ∧ ∃ (d : Addr) (fs : List (Str × V)), H2 a = some (exo a C (some d)) ∧ H2 d = some (exd d fs) ∧ H1 d = none ∧ W (.ref C) (some d) (upd (del H2 a) d (.xd fs))) (fun _ _ _ => False)
theorem w_mkOL {H : Hp} {σ : L2.St} {W : XK} {sp : Sp} {ta : TA} (q : ta σ H (kMkL C sp W)) : tMkO C sp [] ta σ H W := q
theorem w_kMkL {H : Hp} {W : XK} {z fl nm : Str} {f : Addr} {i : Int} (T : EL K mg nm C f) (nf : PySem.W.findIn K (.ref C) fl = some none) (hi : i.natAbs.log2 < 1920)
    (k : ∀ (d : Addr) (H' : Hp), H d = none → H' d = some (.xd [(fl, .int i), (("word" : Str), .str z)]) → Same H H' → W (.ref C) (some d) H') : kMkL C (spExL K z fl) W [.int i] H := by
  refine ⟨by show 1 ≤ 1000; decide, fun a na => ⟨a, C, i, rfl, hi, T.ox, T.nw, nf, upd_same, fun dx H' n ne e1 e2 e3 => ?_⟩⟩
  rw [upd_ne ne] at n
  refine ⟨rfl, dx, _, e1, e2, n, k dx _ n upd_same fun b o e => ?_⟩
  have h1 : b ≠ dx := ne_of_none e n
  have h2 : b ≠ a := ne_of_none e na
  rw [upd_ne h1, del_ne h2, e3 b h2 h1, upd_ne h2]
  exact e
theorem sc_npx : FnScope ["self", "place"] ["self", "place"] (defScope s_NoPlace___init__) := ⟨rfl, rfl, rfl, by decide +kernel, rfl, by decide +kernel, by decide +kernel⟩
theorem ok_npx {f : Addr} {fd fdS : FuncData} (F : Fun K "__init__" "NoPlace.__init__" s_NoPlace___init__ f fd) (S : LE K mg CS fS) (FS : FunD K "__init__" "Lacking.__init__" s_Lacking___init__ fS fdS) (bS : Binds K fdS ["self", "word", "message"] []) : FnOk P w K mg base CX0 2 f fd ["self", "place"] (spExL K (Str.ofString "noplace") "place") := by
  refine F.ok sc_npx (fun vs H Q E h => ?_) (fun cdv A outer s H vs Q E hr h => ?_)
  · obtain ⟨a, C, i, rfl, _⟩ := h
    rfl
  · obtain ⟨a, C, i, rfl, hi, ox, nw, nf, ha, q⟩ := h
    have GS : FnOk P w K mg base CX0 1 fS fdS ["self", "word", "message"] (spLE K) := ok_le FS S
    refine ⟨_, pss_cons (ps_expr (pe_clsFn (pe_glob (v := .ref CS) (by rfl) S.gC rfl) S.rd S.ga S.at_ GS hr FS.kp bS pass0 (pa_cons (pv 0) (pa_cons pe_str (pa_cons (pe_joined (.cons pe_str (.cons (pe_fmt (pv 1)) .nil))) pa_nil))))) (pss_one (ps_lst (pv 0) (pv 1))), ?_⟩
    have l1 : (toString i : Str).length ≤ 1921 := int_text_len_1921 hi
    refine ⟨rfl, _, rfl, ?_⟩
    refine ⟨_, rfl, by decide +kernel, _, rfl, .inr ⟨i, rfl, hi, _, rfl, ?_, ?_⟩⟩
    · rw [len_app, len_app]
      have : (Str.empty.length + (Str.ofString "there is no place ").length) = 18 := by decide +kernel
      exact line_of (by omega)
    · refine ⟨a, C, _, _, rfl, ox, nw, ha, fun dx n ne => ?_⟩
      refine ⟨_, rfl, _, rfl, a, C, rfl, ox, nf, .inr ⟨dx, [(("word" : Str), .str (Str.ofString "noplace"))], upd_same, by rw [upd_ne ne, upd_same], by show 1 ≤ 900; decide, ?_⟩⟩
      refine q dx _ n ne (by rw [upd_ne ne.symm, upd_same]) upd_same fun b h1 h2 => ?_
      rw [upd_ne h2, upd_ne h1, upd_ne h2]
end
end Sf
set_option hygiene false
/-! heap look-ups: hp; unlike addresses: ne; steps: st, go -/
local macro_rules | `(tactic| walk_at "hp") => `(tactic| first
  | assumption
  | (refine Sf.Nw.at (by assumption) ?_; walk_at "hp")
  | (refine L2.Same.at (by assumption) ?_; walk_at "hp")
  | (refine Sf.Of.at (by assumption) ?_ ?_; (case refine_1 => walk_at "ne"); (case refine_2 => walk_at "hp"))
  | (refine Sf.Fx.at (by assumption) ?_ ?_; (case refine_1 => walk_at "ne"); (case refine_2 => walk_at "hp")))
local macro_rules | `(tactic| walk_at "ne") => `(tactic| first
  | assumption
  | exact Ne.symm (by assumption)
  | exact Sf.Nw.ne (by assumption) (by walk_at "hp")
  | exact (Sf.Nw.ne (by assumption) (by walk_at "hp")).symm)
local macro_rules | `(tactic| walk_at "sm") => `(tactic| first
  | assumption
  | exact L2.Same.refl _
  | (refine L2.Same.nw ?_ (by assumption); walk_at "sm")
  | (refine L2.Same.trans ?_ (by assumption); walk_at "sm"))
local macro_rules | `(tactic| walk_at "bg") => `(tactic| first
  | assumption
  | (refine Sf.Bag.nw ?_ (by assumption); walk_at "bg")
  | (refine Sf.Bag.same (by assumption) ?_; walk_at "bg"))
local macro_rules | `(tactic| walk_at "fx") => `(tactic| first
  | assumption
  | exact Sf.Fx.refl
  | (refine Sf.Fx.nw ?_ (by assumption); walk_at "fx")
  | (refine Sf.Fx.same ?_ (by assumption); walk_at "fx")
  | (refine Sf.Fx.trans ?_ (by assumption); walk_at "fx"))
local macro_rules | `(tactic| walk_at "sz") => `(tactic| first
  | decide
  | (simp only [List.length_cons, List.length_nil, Nat.zero_add]; decide))
local macro_rules | `(tactic| walk_at "s0") => `(tactic| first
  | with_reducible refine Sf.w_var rfl ?_
  | with_reducible refine Sf.w_c ?_
  | with_reducible refine Sf.w_cons ?_
  | with_reducible refine Sf.w_nil ?_
  | with_reducible refine Sf.w_op ?_
  | with_reducible refine Sf.w_asg ?_
  | with_reducible refine Sf.w_gn ?_
  | with_reducible refine Sf.w_call ?_
  | with_reducible refine Sf.w_cb ?_
  | with_reducible refine Sf.w_if ?_
  | with_reducible refine Sf.w_test ?_
  | with_reducible refine Sf.w_tB ?_
  | with_reducible refine Sf.w_kB ?_
  | with_reducible refine Sf.w_i0 ?_
  | with_reducible refine Sf.w_eqI ?_
  | with_reducible refine Sf.w_neI ?_
  | with_reducible refine Sf.w_eqS ?_
  | with_reducible refine Sf.w_neS ?_
  | with_reducible refine Sf.w_eqB ?_
  | with_reducible refine Sf.w_neB ?_
  | with_reducible refine Sf.w_inSg ?_
  | with_reducible refine Sf.w_notInSg ?_
  | with_reducible refine Sf.w_isNI ?_
  | with_reducible refine Sf.w_isNN ?_
  | with_reducible refine Sf.w_isN ?_
  | with_reducible refine Sf.w_notNI ?_
  | with_reducible refine Sf.w_notNN ?_
  | with_reducible refine Sf.w_notN ?_
  | with_reducible refine Sf.w_un ?_
  | with_reducible refine Sf.w_u ?_
  | with_reducible refine Sf.w_sl ?_
  | with_reducible refine Sf.w_nopart ?_
  | with_reducible refine Sf.w_part ?_
  | with_reducible refine Sf.w_kpart ?_
  | with_reducible refine Sf.w_and ?_
  | with_reducible refine Sf.w_or ?_
  | with_reducible refine Sf.w_not ?_
  | with_reducible refine Sf.w_kNotT ?_
  | with_reducible refine Sf.w_kNotF ?_
  | with_reducible refine Sf.w_kNotN ?_
  | with_reducible refine Sf.w_kNot ?_
  | with_reducible refine Sf.w_andT ?_
  | with_reducible refine Sf.w_andF ?_
  | with_reducible refine Sf.w_orT ?_
  | with_reducible refine Sf.w_orF ?_
  | with_reducible refine Sf.w_andV ?_
  | with_reducible refine Sf.w_andVT ?_
  | with_reducible refine Sf.w_andVF ?_
  | with_reducible refine Sf.w_orV ?_
  | with_reducible refine Sf.w_notV ?_
  | with_reducible refine Sf.w_kNotVT ?_
  | with_reducible refine Sf.w_kNotVF ?_
  | with_reducible refine Sf.w_kNotV ?_
  | with_reducible refine Sf.w_ifE ?_
  | with_reducible refine Sf.w_ifET ?_
  | with_reducible refine Sf.w_ifEF ?_
  | with_reducible refine Sf.w_ifT ?_
  | with_reducible refine Sf.w_ifF ?_
  | with_reducible refine Sf.w_chain ?_
  | with_reducible refine Sf.w_lst ?_
  | with_reducible refine Sf.w_tup ?_
  | with_reducible refine Sf.w_drop ?_
  | with_reducible refine Sf.w_ret ?_
  | with_reducible refine Sf.w_retN ?_
  | with_reducible refine Sf.w_next ?_
  | with_reducible refine Sf.w_break ?_
  | with_reducible refine Sf.w_cont ?_
  | with_reducible refine Sf.w_meth ?_
  | with_reducible refine Sf.w_make ?_
  | with_reducible refine Sf.w_fld ?_
  | with_reducible refine Sf.w_sfld ?_
  | with_reducible refine Sf.w_bm ?_
  | with_reducible refine Sf.w_bm0 ?_
  | ((with_reducible refine' Sf.w_kbmL ?hp_ ?_); (case hp_ => walk_at "hp"))
  | with_reducible refine Sf.w_m0 ?_
  | with_reducible refine Sf.w_kM0 ?_
  | with_reducible refine Sf.w_m1 ?_
  | with_reducible refine Sf.w_kM1 ?_
  | with_reducible refine Sf.w_par ?_
  | with_reducible refine Sf.w_kPar ?_
  | with_reducible refine Sf.w_gcons ?_
  | with_reducible refine Sf.w_gnil ?_
  | with_reducible refine Sf.w_gsub ?_
  | with_reducible refine Sf.w_for ?_
  | with_reducible refine Sf.w_rng1 ?_
  | with_reducible refine Sf.w_ilist ?_
  | with_reducible refine Sf.w_itup ?_
  | with_reducible refine Sf.w_istr ?_
  | with_reducible refine Sf.w_kStr ?_
  | with_reducible refine Sf.w_ienum ?_
  | with_reducible refine Sf.w_lc ?_
  | with_reducible refine Sf.w_yes ?_
  | with_reducible refine Sf.w_tstT ?_
  | with_reducible refine Sf.w_tstF ?_
  | with_reducible refine Sf.w_each rfl ?_
  | with_reducible refine Sf.w_dget ?_
  | with_reducible refine Sf.w_din ?_
  | with_reducible refine Sf.w_dnotin ?_
  | ((with_reducible refine' Sf.w_kDInI ?hp_ ?_); (case hp_ => walk_at "hp"))
  | ((with_reducible refine' Sf.w_kDInS ?hp_ ?_); (case hp_ => walk_at "hp"))
  | ((with_reducible refine' Sf.w_kDNotInI ?hp_ ?_); (case hp_ => walk_at "hp"))
  | ((with_reducible refine' Sf.w_kDNotInS ?hp_ ?_); (case hp_ => walk_at "hp"))
  | with_reducible refine Sf.w_dget1 ?_
  | ((with_reducible refine' Sf.w_kDGet1 ?hp_ ?_); (case hp_ => walk_at "hp"))
  | ((with_reducible refine' Sf.w_kDGet1I ?hp_ ?_); (case hp_ => walk_at "hp"))
  | ((with_reducible refine' Sf.w_kDGet1S ?hp_ ?_); (case hp_ => walk_at "hp"))
  | with_reducible refine Sf.w_sdput ?_
  | with_reducible refine Sf.w_dc ?_
  | with_reducible refine Sf.w_tstDT ?_
  | with_reducible refine Sf.w_eachD rfl ?_
  | with_reducible refine Sf.w_lstRg ?_
  | with_reducible refine Sf.w_min2 ?_
  | with_reducible refine Sf.w_max2 ?_
  | with_reducible refine Sf.w_starts ?_
  | with_reducible refine Sf.w_ends ?_
  | with_reducible refine Sf.w_rg1 ?_
  | with_reducible refine Sf.w_kRg1 ?_
  | with_reducible refine Sf.w_aug rfl ?_
  | with_reducible refine Sf.w_ipI ?_
  | with_reducible refine Sf.w_isi_int_int ?_
  | with_reducible refine Sf.w_isi_int_bool ?_
  | with_reducible refine Sf.w_isi_int_str ?_
  | with_reducible refine Sf.w_isi_str_int ?_
  | with_reducible refine Sf.w_isi_str_bool ?_
  | with_reducible refine Sf.w_isi_str_str ?_
  | with_reducible refine Sf.w_isi_bool_int ?_
  | with_reducible refine Sf.w_isi_bool_bool ?_
  | with_reducible refine Sf.w_isi_bool_str ?_
  | with_reducible refine Sf.w_isi_NoneType_int ?_
  | with_reducible refine Sf.w_isi_NoneType_str ?_
  | with_reducible refine Sf.w_isi_NoneType_bool ?_
  | ((with_reducible refine' Sf.w_lenL ?hp_ ?_); (case hp_ => walk_at "hp"))
  | ((with_reducible refine' Sf.w_lenT ?hp_ ?_); (case hp_ => walk_at "hp"))
  | ((with_reducible refine' Sf.w_lenD ?hp_ ?_); (case hp_ => walk_at "hp"))
  | ((with_reducible refine' Sf.w_kList ?hp_ ?_); (case hp_ => walk_at "hp"))
  | ((with_reducible refine' Sf.w_kTupI ?hp_ ?_); (case hp_ => walk_at "hp"))
  | ((with_reducible refine' Sf.w_kEnum ?hp_ ?_); (case hp_ => walk_at "hp"))
  | ((with_reducible refine' Sf.w_ixT ?hp_ ?rf_ ?_); (case hp_ => walk_at "hp"); (case rf_ => exact rfl))
  | ((with_reducible refine' Sf.w_ixL ?hp_ ?rf_ ?_); (case hp_ => walk_at "hp"); (case rf_ => exact rfl))
  | ((with_reducible refine' Sf.w_gtup ?hp_ ?rf_ ?_); (case hp_ => walk_at "hp"); (case rf_ => exact rfl)))
local macro_rules | `(tactic| walk_at "gs") => `(tactic| repeat walk_at "s0")
local macro_rules | `(tactic| walk_at "go") => `(tactic| repeat (first | walk_at "s0" | with_reducible refine Sf.w_seq ?_))
namespace Sf
open PySem PySem.Spec PyProof.Rows L2 TL
section
variable {P : Program} {w : World} {K : PySem.W.Frag} {mg : Str → Option Value} {base : Heap}
/-! ### is_upto -/
def upB : V → Int → Bool
  | .int i, m => decide (0 ≤ i) && decide (i ≤ m)
  | _, _ => false
def flat3 : V → Prop
  | .bl _ => True
  | .int _ => True
  | .str _ => True
  | _ => False
def spUp : Sp := fun vs H Q _ => ∃ (v : V) (m : Int), vs = [v, .int m] ∧ flat3 v ∧ Q (.bl (upB v m)) H
abbrev HasUp (P : Program) (w : World) (K : PySem.W.Frag) (mg : Str → Option Value) (base : Heap) : Prop := Has P w K mg base 1 "is_upto" ["thing", "most"] spUp
theorem sc_up : FnScope ["thing", "most"] ["thing", "most"] (defScope s_is_upto) := ⟨rfl, rfl, rfl, by decide +kernel, rfl, by decide +kernel, by decide +kernel⟩
theorem has_up (F : FnAt K mg "is_upto" s_is_upto ["thing", "most"]) (B : Blt mg) : HasUp P w K mg base := F.has fun F => by
  refine F.ok sc_up (fun vs H Q E h => ?_) (fun cdv A outer s H vs Q E hr h => ?_)
  · obtain ⟨v, m, rfl, _⟩ := h
    rfl
  · obtain ⟨v, m, rfl, hv, q⟩ := h
    refine ⟨_, (pss_one (ps_ret (pe_and (pe_callB call_isi (by rfl) B.isinstance (by decide +kernel) (pa_cons (pv 0) (pa_cons (pe_bltn (v := .ty "int") (by rfl) B.int (by decide +kernel) rfl) pa_nil))) (pe_and (pe_not (pe_callB call_isi (by rfl) B.isinstance (by decide +kernel) (pa_cons (pv 0) (pa_cons (pe_bltn (v := .ty "bool") (by rfl) B.bool (by decide +kernel) rfl) pa_nil)))) (pe_one (pe_chain op_le op_le pe_int (pv 0) (pv 1))))))), ?_⟩
    cases v with
    | int i =>
      walk_at "go"
      refine w_chain2 (fun h0 => ?_) (fun h0 => ?_)
      · walk_at "go"
        rw [upB, decide_eq_true h0, Bool.true_and] at q
        exact q
      · walk_at "go"
        rw [upB, decide_eq_false h0, Bool.false_and] at q
        exact q
    | bl b =>
      walk_at "go"
      exact q
    | str x =>
      walk_at "go"
      exact q
    | non => exact hv.elim
    | byt b => exact hv.elim
    | flt b => exact hv.elim
    | ref b => exact hv.elim
    | ty b => exact hv.elim
end
end Sf
namespace Sf
open PySem PySem.Spec PyProof.Rows L2 TL
/-! ### worlds in the heap -/
def wf (pl ld : Addr) : List (Str × V) := putF "leads" (.ref ld) (putF "places" (.ref pl) [])
theorem fpl_ne : ¬ (("places" : Str) = "leads") := by decide +kernel
theorem wf_places (pl ld : Addr) : (wf pl ld).lookup ("places" : Str) = some (.ref pl) := by
  unfold wf
  rw [lookup_putF, if_neg fpl_ne, lookup_putF, if_pos rfl]
theorem wf_leads (pl ld : Addr) : (wf pl ld).lookup ("leads" : Str) = some (.ref ld) := by
  unfold wf
  rw [lookup_putF, if_pos rfl]
theorem wf_no (pl ld : Addr) {m : Str} (h1 : ¬ m = "leads") (h2 : ¬ m = "places") : (wf pl ld).lookup m = none := by
  unfold wf
  rw [lookup_putF, if_neg h1, lookup_putF, if_neg h2]
  all_goals rfl
/-- moves in the heap -/
def MvAt (H : Hp) (v : V) (m : Mv) : Prop := ∃ t, v = .ref t ∧ H t = some (.tup [.str (one m.1), .int m.2.1, .int m.2.2])
abbrev MvsAt (H : Hp) (vs : List V) (ms : List Mv) : Prop := Paired (MvAt H) vs ms
/-- tuples stand -/
def Tps (H H' : Hp) : Prop := ∀ a xs, H a = some (.tup xs) → H' a = some (.tup xs)
theorem Tps.of {H H' : Hp} (s : Same H H') : Tps H H' := fun a xs h => s _ _ h
theorem Tps.refl {H : Hp} : Tps H H := fun _ _ h => h
theorem Tps.trans {H H1 H2 : Hp} (a : Tps H H1) (b : Tps H1 H2) : Tps H H2 := fun c xs h => b c xs (a c xs h)
theorem Tps.off {H H1 H2 : Hp} {p : Addr} {ys : List V} (a : Tps H H1) (h1 : H1 p = some (.lst ys)) (b : Of p H1 H2) : Tps H H2 := fun c xs h => b.at (ne_of (a _ _ h) h1 (by intro z; cases z)) (a _ _ h)
theorem Tps.offD {H H1 H2 : Hp} {p : Addr} {ys : List (Key × V)} (a : Tps H H1) (h1 : H1 p = some (.dK ys)) (b : Of p H1 H2) : Tps H H2 := fun c xs h => b.at (ne_of (a _ _ h) h1 (by intro z; cases z)) (a _ _ h)
theorem Tps.fx {H H1 : Hp} {b l : Addr} (h : Bag H b l) (f : Fx b H H1) : Tps H H1 := fun c xs e => f _ _ e (by
  obtain ⟨ns, k, z, r, hb⟩ := h
  exact ne_of e hb.hb (by intro q; cases q))
theorem MvsAt.tps {H H' : Hp} (s : Tps H H') {vs : List V} {ms : List Mv} (h : MvsAt H vs ms) : MvsAt H' vs ms := Paired.mapP h fun v m ⟨t, e, ht⟩ => ⟨t, e, s _ _ ht⟩
theorem paired_get {α β : Type} {R : α → β → Prop} : ∀ {as : List α} {bs : List β} {i : Nat} {a : α}, Paired R as bs → as[i]? = some a → ∃ b, bs[i]? = some b ∧ R a b
  | _, _, _, _, .nil, e => by simp at e
  | _, _, 0, _, .cons r _, e => by simp at e; subst e; exact ⟨_, rfl, r⟩
  | _, _, i + 1, x, .cons _ t, e => by
    obtain ⟨u, h1, h2⟩ := paired_get (i := i) (a := x) t (by simpa using e)
    exact ⟨u, by simpa using h1, h2⟩
def leV (d : Nat → Addr) (l : List Nat) : List (Key × V) := l.map fun c => ((Sum.inr (one c) : Key), V.ref (d c))
/-- leads in the heap; those of N are not known ahead -/
structure LdAt (H : Hp) (ld : Addr) (d : Nat → Addr) (L : Nat → List (Int × Int)) : Prop where
  hd : H ld = some (.dK (leV d sgs))
  hc : ∀ c ∈ sgs, H (d c) = some (.dK (kvI (L c)))
theorem LdAt.same {H H' : Hp} {ld : Addr} {d : Nat → Addr} {L : Nat → List (Int × Int)} (h : LdAt H ld d L) (s : Same H H') : LdAt H' ld d L := ⟨s _ _ h.hd, fun c hc => s _ _ (h.hc c hc)⟩
/-- a world -/
def WAt (C : Addr) (H : Hp) (p : Addr) (n : Int) (L : Nat → List (Int × Int)) : Prop := ∃ (dx pl ld : Addr) (d : Nat → Addr), H p = some (.ins C dx (wf pl ld)) ∧ H pl = some (.lst (rgV 0 n)) ∧ LdAt H ld d L
theorem WAt.same {C : Addr} {H H' : Hp} {p : Addr} {n : Int} {L : Nat → List (Int × Int)} (s : Same H H') : WAt C H p n L → WAt C H' p n L
  | ⟨dx, pl, ld, d, h1, h2, h3⟩ => ⟨dx, pl, ld, d, s _ _ h1, s _ _ h2, h3.same s⟩
structure WC (K : PySem.W.Frag) (mg : Str → Option Value) (C : Addr) : Prop where
  cl : Cls K C
  nP : PySem.W.findIn K (.ref C) "places" = some none
  nL : PySem.W.findIn K (.ref C) "leads" = some none
  mgC : mg "World" = some (.ref C)
  ha : PySem.W.findIn K (.ref C) "__class__" = some (some (.builtin "object.__class__"))
  hn : PySem.W.specialIn K (.builtin "object.__class__") "__get__" = some (some (.builtin "getset_descriptor.__get__"))
  htk : PySem.W.takesIn K (.builtin "object.__class__") = some true
  hm : PySem.W.mroIn K C (.type "object") = some true
  ne : PySem.W.findIn K (.ref C) "__ne__" = some (some (.builtin "object.__ne__"))
section
variable {P : Program} {w : World} {K : PySem.W.Frag} {mg : Str → Option Value} {base : Heap} {C : Addr}
/-! ### is_move (a move that is one) -/
def spIm : Sp := fun vs H Q _ => ∃ (t : Addr) (m : Mv) (n : Int), vs = [.ref t, .int n] ∧ H t = some (.tup [.str (one m.1), .int m.2.1, .int m.2.2]) ∧ 97 ≤ m.1 ∧ m.1 ≤ 104 ∧ 0 ≤ m.2.1 ∧ m.2.1 < n ∧ 0 ≤ m.2.2 ∧ m.2.2 < n ∧ Q (.bl true) H
abbrev HasIm (P : Program) (w : World) (K : PySem.W.Frag) (mg : Str → Option Value) (base : Heap) : Prop := Has P w K mg base 2 "is_move" ["move", "many"] spIm
theorem sc_im : FnScope ["move", "many"] ["move", "many"] (defScope s_is_move) := ⟨rfl, rfl, rfl, by decide +kernel, rfl, by decide +kernel, by decide +kernel⟩
theorem upB_true {i m : Int} (h0 : 0 ≤ i) (h1 : i ≤ m) : upB (.int i) m = true := by
  show (decide (0 ≤ i) && decide (i ≤ m)) = true
  rw [decide_eq_true h0, decide_eq_true h1]
  rfl
theorem has_im (F : FnAt K mg "is_move" s_is_move ["move", "many"]) (B : Blt mg) (h_Up : HasUp P w K mg base) {t1 : Tok} (C_LETTERS : mg "LETTERS" = some (.str (Str.ofString "abcdefgh") t1)) : HasIm P w K mg base := F.has fun F => by
  obtain ⟨f_Up, fd_Up, g_Up, k_Up, b_Up, G_Up⟩ := h_Up
  refine F.ok sc_im (fun vs H Q E h => ?_) (fun cdv A outer s H vs Q E hr h => ?_)
  · obtain ⟨t, m, n, rfl, _⟩ := h
    rfl
  · obtain ⟨t, m, n, rfl, ht, a1, a2, a3, a4, a5, a6, q⟩ := h
    refine ⟨_, (pss_cons (ps_if (PW.pt (pw_or (pt_cmpR op_ne (pe_callB call_lenQ (by rfl) B.len PySem.boot_len (pa_cons (pv 0) pa_nil)) pe_int (nomark _)) (pw_or (pt_not (pt_val (pe_call G_Up (hr.mono (by decide)) (by rfl) g_Up k_Up b_Up .nil pass0 (pa_cons (pe_ix ix_tup (pv 0) pe_int (fun _ _ => rfl)) (pa_cons (pe_op op_sub (pv 1) pe_int) pa_nil))))) (pw_or1 (pt_not (pt_val (pe_call G_Up (hr.mono (by decide)) (by rfl) g_Up k_Up b_Up .nil pass0 (pa_cons (pe_ix ix_tup (pv 0) pe_int (fun _ _ => rfl)) (pa_cons (pe_op op_sub (pv 1) pe_int) pa_nil))))))))) (pss_one (ps_ret pe_bl)) pss_nil) (pss_one (ps_ret (pe_and (pe_callB call_isi (by rfl) B.isinstance (by decide +kernel) (pa_cons (pe_ix ix_tup (pv 0) pe_int (fun _ _ => rfl)) (pa_cons (pe_bltn (v := .ty "str") (by rfl) B.str (by decide +kernel) rfl) pa_nil))) (pe_and (pe_cmpR op_eq (pe_callB call_lenS (by rfl) B.len PySem.boot_len (pa_cons (pe_ix ix_tup (pv 0) pe_int (fun _ _ => rfl)) pa_nil)) pe_int (nomark _)) (pe_one (pe_cmpR op_inSg (pe_ix ix_tup (pv 0) pe_int (fun _ _ => rfl)) (pe_gS (by rfl) C_LETTERS) rfl))))))), ?_⟩
    walk_at "go"
    refine w_orN2 (fun z => absurd rfl z) fun _ => ?_
    walk_at "go"
    refine ⟨_, _, rfl, trivial, ?_⟩
    rw [upB_true a3 (by omega)]
    walk_at "go"
    refine ⟨_, _, rfl, trivial, ?_⟩
    rw [upB_true a5 (by omega)]
    walk_at "go"
    refine w_lenS (by rw [len_one]; decide) ?_
    walk_at "go"
    refine w_andV2 (fun _ => ?_) (fun z => absurd rfl z)
    walk_at "go"
    rw [decide_eq_true (in_small.mpr ⟨a1, a2⟩)]
    exact q
end
end Sf
namespace Sf
open PySem PySem.Spec PyProof.Rows L2 TL
section
variable {P : Program} {w : World} {K : PySem.W.Frag} {mg : Str → Option Value} {base : Heap} {C : Addr}
/-! ### leads_by -/
def spLb : Sp := fun vs H Q _ => ∃ (n : Int) (a : Addr) (us : List V) (ms : List Mv), vs = [.int n, .ref a] ∧ H a = some (.lst us) ∧ MvsAt H us ms ∧ WOk n ms ∧ ms.length ≤ 100000 ∧
  ∀ (ld : Addr) (d : Nat → Addr) (H' : Hp), H ld = none → (∀ c ∈ sgs, H (d c) = none) → Same H H' → LdAt H' ld d (LM ms) → Q (.ref ld) H'
abbrev HasLb (P : Program) (w : World) (K : PySem.W.Frag) (mg : Str → Option Value) (base : Heap) : Prop := Has P w K mg base 3 "leads_by" ["many", "moves"] spLb
theorem sc_lb : FnScope ["many", "moves", "sign", "leads", "move", "letter", "start", "end"] ["many", "moves"] (defScope s_leads_by) := ⟨rfl, rfl, rfl, by decide +kernel, rfl, by decide +kernel, by decide +kernel⟩
/-- what stands while leads are laid -/
structure LdIn (H0 H : Hp) (ld : Addr) (d : Nat → Addr) (S : List Nat) (L : Nat → List (Int × Int)) : Prop where
  hd : H ld = some (.dK (leV d S))
  hc : ∀ c ∈ S, H (d c) = some (.dK (kvI (L c)))
  sm : Same H0 H
  nl : H0 ld = none
  nd : ∀ c ∈ S, H0 (d c) = none
  ne : ∀ c ∈ S, d c ≠ ld
  inj : ∀ c ∈ S, ∀ e ∈ S, d c = d e → c = e
theorem kvI_put {l : List (Int × Int)} {x y : Int} (h : lk l x = none) : putK (kvI l) (Sum.inl x) (.int y) = kvI (l ++ [(x, y)]) := by
  rw [putK_new _ (by rw [val_kvI, h]; rfl)]
  unfold kvI
  rw [List.map_append]
  rfl
theorem LdIn.put {H0 H H1 : Hp} {ld : Addr} {d : Nat → Addr} {L : Nat → List (Int × Int)} {c : Nat} {x y : Int} (h : LdIn H0 H ld d sgs L) (hc : c ∈ sgs) (hx : lk (L c) x = none)
    (h1 : H1 (d c) = some (.dK (putK (kvI (L c)) (Sum.inl x) (.int y)))) (o : Of (d c) H H1) : LdIn H0 H1 ld d sgs (fun e => if e = c then L c ++ [(x, y)] else L e) := by
  refine ⟨o.at (h.ne c hc).symm h.hd, fun e he => ?_, h.sm.off o (h.nd c hc), h.nl, h.nd, h.ne, h.inj⟩
  by_cases z : e = c
  · subst z
    rw [if_pos rfl, h1, kvI_put hx]
  · rw [if_neg z]
    exact o.at (fun q => z (h.inj e he c hc q)) (h.hc e he)
theorem LdIn.cong {H0 H : Hp} {ld : Addr} {d : Nat → Addr} {S : List Nat} {L L' : Nat → List (Int × Int)} (h : LdIn H0 H ld d S L) (e : ∀ c ∈ S, L c = L' c) : LdIn H0 H ld d S L' := ⟨h.hd, fun c hc => by rw [← e c hc]; exact h.hc c hc, h.sm, h.nl, h.nd, h.ne, h.inj⟩
theorem up_one {c : Nat} (h : 97 ≤ c ∧ c ≤ 104) : Txt.upper (one c) = one (c - 32) := upper_one h
theorem small_sgs {c : Nat} (h : 97 ≤ c ∧ c ≤ 104) : c ∈ sgs := sgs_iff.mpr (sgn_iff.mpr (.inl h))
theorem great_sgs {c : Nat} (h : 97 ≤ c ∧ c ≤ 104) : c - 32 ∈ sgs := sgs_iff.mpr (sgn_iff.mpr (.inr (by omega)))
theorem has_lb (F : FnAt K mg "leads_by" s_leads_by ["many", "moves"]) (B : Blt mg) (h_Im : HasIm P w K mg base) {t1 : Tok} (C_SIGNS : mg "SIGNS" = some (.str (Str.ofString "aAbBcCdDeEfFgGhH") t1)) : HasLb P w K mg base := F.has fun F => by
  obtain ⟨f_Im, fd_Im, g_Im, k_Im, b_Im, G_Im⟩ := h_Im
  refine F.ok sc_lb (fun vs H Q E h => ?_) (fun cdv A outer s H vs Q E hr h => ?_)
  · obtain ⟨n, a, us, ms, rfl, _⟩ := h
    rfl
  · obtain ⟨n, a, us, ms, rfl, ha, hm, ok, hlen, q⟩ := h
    refine ⟨_, (pss_cons (ps_setDc (i := 3) (own := [("sign", 2)]) (g := gName 2) (tt := tYes) (by rfl) sc_lb.nd rfl rfl (swD_true rfl rfl rfl (by decide +kernel)) (pi_str (pe_gS (by rfl) C_SIGNS)) (blkOk_by (own := [("sign", 2)]) (N := ["many", "moves", "sign", "leads", "move", "letter", "start", "end"]) (sc := defScope s_leads_by) (by decide +kernel)) (fun _ _ _ _ _ => pg_name (i := 2) sc_lb.nd rfl (.inl rfl)) (fun _ _ _ _ _ => pts_nil) (fun _ _ _ _ _ => (pv 2)) (fun _ _ _ _ _ => pe_dnewK)) (pss_cons (ps_for PassesOwn.never rfl (pi_list (pv 1)) (pg_name (i := 4) sc_lb.nd rfl (.inl rfl)) (pss_cons (ps_if (pt_not (pt_val (pe_call G_Im (hr.mono (by decide)) (by rfl) g_Im k_Im b_Im .nil pass0 (pa_cons (pv 4) (pa_cons (pv 0) pa_nil))))) (pss_one (ps_never)) pss_nil) (pss_cons (ps_asg (pv 4) (pg_tup rfl (pgs_cons (pg_name (i := 5) sc_lb.nd rfl (.inl rfl)) (pgs_cons (pg_name (i := 6) sc_lb.nd rfl (.inl rfl)) (pgs_cons (pg_name (i := 7) sc_lb.nd rfl (.inl rfl)) pgs_nil))))) (pss_cons (ps_if (PW.pt (pw_or (pt_cmp (pc_din (hu_of hr) (pv 6) (pe_dget (hu_of hr) (pv 3) (pv 5) (fun _ _ => rfl)))) (pw_or1 (pt_cmp (pc_din (hu_of hr) (pv 7) (pe_dget (hu_of hr) (pv 3) (pe_m0 PySem.F.slot_str_upper PySem.F.type_str_upper mt_upN (pv 5)) (fun _ _ => rfl))))))) (pss_one (ps_never)) pss_nil) (pss_cons (ps_dput (hu_of hr) (pe_dget (hu_of hr) (pv 3) (pv 5) (fun _ _ => rfl)) (pv 6) (pv 7) rfl) (pss_one (ps_dput (hu_of hr) (pe_dget (hu_of hr) (pv 3) (pe_m0 PySem.F.slot_str_upper PySem.F.type_str_upper mt_upN (pv 5)) (fun _ _ => rfl)) (pv 7) (pv 6) rfl))))))) (pss_one (ps_ret (pv 3))))), ?_⟩
    walk_at "go"
    refine w_dcS (fun p i H1 => ∃ d, LdIn H H1 p d (sgs.take i) fun _ => []) (fun p H1 hp nw => ⟨fun _ => 0, hp, fun c hc => absurd hc (by simp), nw.same, nw.nn, fun c hc => absurd hc (by simp), fun c hc => absurd hc (by simp), fun c hc => absurd hc (by simp)⟩) ?_ ?_
    · rintro p i c H1 hc ⟨d, hI⟩
      have hc' : sgs[i]? = some c := by rw [← hc]; exact congrArg (·[i]?) tl_signs.symm
      have hnd : c ∉ sgs.take i := fun z => by
        have := take_snoc hc' ▸ (sgs_nd.sublist (List.take_sublist (i + 1) sgs))
        rw [List.nodup_append] at this
        exact this.2.2 c z c (List.mem_singleton.mpr rfl) rfl
      walk_at "go"
      refine w_dnewK (fun q H2 hq nq => ?_)
      refine w_kItDS (nq.at hI.hd) (by rw [leV, List.length_map, List.length_take]; exact Nat.lt_of_le_of_lt (Nat.min_le_right _ _) (by decide)) (fun H3 h3 o3 => ?_)
      have hin : ∀ e ∈ sgs.take (i + 1), e = c ∨ (e ≠ c ∧ e ∈ sgs.take i) := fun e he => by
        by_cases z : e = c
        · exact .inl z
        · rw [take_snoc hc', List.mem_append] at he
          exact .inr ⟨z, he.resolve_right fun y => z (List.mem_singleton.mp y)⟩
      refine ⟨fun e => if e = c then q else d e, ?_, fun e he => ?_, (hI.sm.nw nq).off o3 hI.nl, hI.nl, fun e he => ?_, fun e he => ?_, fun e he f hf z => ?_⟩
      · unfold leV at h3 ⊢
        rw [h3, putK_new _ (val_sgs_none hnd), take_snoc hc', List.map_append]
        refine congrArg some (congrArg HO.dK ?_)
        refine congr (congrArg _ (List.map_congr_left fun e he => ?_)) ?_
        · show _ = (Sum.inr (one e), V.ref (if e = c then q else d e))
          rw [if_neg (show ¬ e = c from fun z => hnd (z ▸ he))]
        · show _ = [((Sum.inr (one c) : Key), V.ref (if c = c then q else d c))]
          rw [if_pos rfl]
      · rcases hin e he with rfl | ⟨z, hz⟩
        · rw [if_pos rfl]
          exact o3.at (Nw.ne nq hI.hd).symm hq
        · rw [if_neg z]
          exact o3.at (hI.ne e hz) (nq.at (hI.hc e hz))
      · rcases hin e he with rfl | ⟨z, hz⟩
        · rw [if_pos rfl]
          exact hI.sm.free nq.nn
        · rw [if_neg z]
          exact hI.nd e hz
      · rcases hin e he with rfl | ⟨z, hz⟩
        · rw [if_pos rfl]
          exact (Nw.ne nq hI.hd).symm
        · rw [if_neg z]
          exact hI.ne e hz
      · rcases hin e he with rfl | ⟨ze, hze⟩
        · rcases hin f hf with rfl | ⟨zf, hzf⟩
          · rfl
          · rw [if_pos rfl, if_neg zf] at z
            exact absurd z.symm (Nw.ne nq (hI.hc f hzf))
        · rcases hin f hf with rfl | ⟨zf, hzf⟩
          · rw [if_neg ze, if_pos rfl] at z
            exact absurd z (Nw.ne nq (hI.hc e hze))
          · rw [if_neg ze, if_neg zf] at z
            exact hI.inj e hze f hzf z
    · rintro ld H1 ⟨d, hI⟩
      have hI : LdIn H H1 ld d sgs fun _ => [] := by
        have e : sgs.take (tl (Str.ofString "aAbBcCdDeEfFgGhH")).length = sgs := by
          rw [show tl (Str.ofString "aAbBcCdDeEfFgGhH") = sgs from tl_signs]
          exact List.take_length
        rw [e] at hI
        exact hI
      have ha1 := hI.sm _ _ ha
      walk_at "go"
      refine w_list (xs := us) (fun i σ H2 => ∃ (y2 y4 y5 y6 y7 : Option V), σ = [some (.int n), some (.ref a), y2, some (.ref ld), y4, y5, y6, y7] ∧ LdIn H H2 ld d sgs (LM (ms.take i)))
        ⟨none, none, none, none, none, rfl, hI.cong fun c _ => by rw [List.take_zero]; rfl⟩ (fun i σ H2 _ ⟨_, _, _, _, _, _, h⟩ => h.sm _ _ ha) ?_ ?_
      · rintro i v σ H2 hv ⟨y2, y4, y5, y6, y7, rfl, hJ⟩
        obtain ⟨m, hmi, t, rfl, ht⟩ := paired_get hm hv
        have ht2 := hJ.sm _ _ ht
        have hok : WOk n (ms.take i ++ [m]) := by rw [← take_snoc hmi]; exact ok.take _
        have hr' := hok.rg m (List.mem_append_right _ (List.mem_singleton.mpr rfl))
        have hsm := small_sgs ⟨hr'.1, hr'.2.1⟩
        have hgr := great_sgs ⟨hr'.1, hr'.2.1⟩
        have e1 := new_start hok
        have e2 := new_end hok
        have hne : m.1 - 32 ≠ m.1 := by omega
        have len0 : ∀ c, (kvI (LM (ms.take i) c)).length < sizeLine := fun c => by
          rw [kvI_len]
          exact lineLt_of (Nat.le_trans (LM_len _ _) (Nat.le_trans (by rw [List.length_take]; exact Nat.min_le_right _ _) hlen))
        walk_at "go"
        refine ⟨t, m, n, rfl, ht2, hr'.1, hr'.2.1, hr'.2.2.1, hr'.2.2.2.1, hr'.2.2.2.2.1, hr'.2.2.2.2.2, ?_⟩
        walk_at "go"
        refine w_kDGetS hJ.hd (val_sgs hsm) ?_
        have hd1 := hJ.hc _ hsm
        have hd2 := hJ.hc _ hgr
        walk_at "go"
        rw [val_kvI, e1]
        refine w_orF ?_
        walk_at "go"
        refine w_up1 ⟨hr'.1, hr'.2.1⟩ ?_
        refine w_kDGetS hJ.hd (val_sgs hgr) ?_
        walk_at "go"
        rw [val_kvI, e2]
        refine w_ifF ?_
        walk_at "go"
        refine w_kDGetS hJ.hd (val_sgs hsm) ?_
        walk_at "go"
        refine w_kDPutI hd1 (len0 _) (fun H3 h3 o3 => ?_)
        have hJ3 := hJ.put hsm e1 h3 o3
        walk_at "go"
        refine w_up1 ⟨hr'.1, hr'.2.1⟩ ?_
        refine w_kDGetS hJ3.hd (val_sgs hgr) ?_
        walk_at "go"
        have hd3 := hJ3.hc _ hgr
        rw [if_neg hne] at hd3
        refine w_kDPutI hd3 (len0 _) (fun H4 h4 o4 => ?_)
        have hJ4 := hJ3.put hgr (by rw [if_neg hne]; exact e2) (by rw [if_neg hne]; exact h4) o4
        walk_at "go"
        refine ⟨_, _, _, _, _, rfl, hJ4.cong fun c _ => ?_⟩
        rw [take_snoc hmi, LM_snoc]
        by_cases z1 : c = m.1 - 32
        · subst z1
          rw [if_pos rfl, if_neg hne, mvOn_great hr'.1]
          rfl
        · rw [if_neg z1]
          by_cases z2 : c = m.1
          · subst z2
            rw [if_pos rfl, mvOn_self]
            rfl
          · rw [if_neg z2, mvOn_other z2 z1 hr'.1, Option.toList, List.append_nil]
      · rintro σ H2 ⟨y2, y4, y5, y6, y7, rfl, hJ⟩
        walk_at "go"
        refine q ld d H2 hJ.nl hJ.nd hJ.sm ⟨hJ.hd, fun c hc => ?_⟩
        have e : ms.take us.length = ms := by rw [Paired.length hm, List.take_length]
        have := hJ.hc c hc
        rw [e] at this
        exact this
end
end Sf
namespace Sf
open PySem PySem.Spec PyProof.Rows L2 TL
section
variable {P : Program} {w : World} {K : PySem.W.Frag} {mg : Str → Option Value} {base : Heap} {C : Addr}
/-! ### World.__init__ -/
def spWI (C : Addr) : Sp := fun vs H Q _ => ∃ (p dx a : Addr) (n : Int) (us : List V) (ms : List Mv), vs = [.ref p, .int n, .ref a] ∧ H p = some (.ins C dx []) ∧ H a = some (.lst us) ∧ MvsAt H us ms ∧ WOk n ms ∧ ms.length ≤ 100000 ∧ 1 ≤ n ∧ n ≤ 1000 ∧
  ∀ H' G : Hp, WAt C G p n (LM ms) → Same G H' → (∀ b o, G b = some o → b = p ∨ H b = none) → (∀ b o, H b = some o → b ≠ p → H' b = some o) → Q .non H'
theorem sc_wi : FnScope ["self", "many", "moves"] ["self", "many", "moves"] (defScope s_World___init__) := ⟨rfl, rfl, rfl, by decide +kernel, rfl, by decide +kernel, by decide +kernel⟩
theorem has_wi (F : MAt K C "__init__" "World.__init__" s_World___init__ ["self", "many", "moves"]) (B : Blt mg) (T : WC K mg C) (h_Up : HasUp P w K mg base) (h_Lb : HasLb P w K mg base) {t1 : Tok} (C_MOST_PLACES : mg "MOST_PLACES" = some (.int 1000 t1)) : HasM P w K mg base C 4 "__init__" ["self", "many", "moves"] (spWI C) := F.has fun F => by
  obtain ⟨f_Up, fd_Up, g_Up, k_Up, b_Up, G_Up⟩ := h_Up
  obtain ⟨f_Lb, fd_Lb, g_Lb, k_Lb, b_Lb, G_Lb⟩ := h_Lb
  refine F.ok sc_wi (fun vs H Q E h => ?_) (fun cdv A outer s H vs Q E hr h => ?_)
  · obtain ⟨p, dx, a, n, us, ms, rfl, _⟩ := h
    rfl
  · obtain ⟨p, dx, a, n, us, ms, rfl, hp, ha, hm, ok, hlen, n1, n2, q⟩ := h
    refine ⟨_, (pss_cons (ps_if (PW.pt (pw_or (pt_not (pt_val (pe_call G_Up (hr.mono (by decide)) (by rfl) g_Up k_Up b_Up .nil pass0 (pa_cons (pv 1) (pa_cons (pe_gI (by rfl) C_MOST_PLACES) pa_nil))))) (pw_or1 (pt_cmpR op_eq (pv 1) pe_int (nomark _))))) (pss_one (ps_never)) pss_nil) (pss_cons (ps_fld (pv 0) (pe_listRg rfl (by rfl) B.list (prg_1 (by rfl) B.range (pv 1))) rfl) (pss_one (ps_fld (pv 0) (pe_call G_Lb (hr.mono (by decide)) (by rfl) g_Lb k_Lb b_Lb .nil pass0 (pa_cons (pv 1) (pa_cons (pv 2) pa_nil))) rfl)))), ?_⟩
    walk_at "go"
    refine ⟨_, _, rfl, trivial, ?_⟩
    rw [upB_true (by omega) n2]
    walk_at "go"
    refine w_if2 (fun z => absurd z (by omega)) fun _ => ?_
    walk_at "go"
    refine w_kRgL (.of_le (by decide) (by omega) (by decide) (by omega)) (fun pl H1 hpl npl => ?_)
    walk_at "go"
    refine w_kSFld (npl.at hp) T.cl T.nP (by decide) (fun H2 hp2 o2 => ?_)
    have nep : a ≠ p := ne_of ha hp (by intro z; cases z)
    have hpl2 : H2 pl = some (.lst (rgV 0 n)) := o2.at (Nw.ne npl hp).symm hpl
    have t2 : Tps H H2 := fun b xs h => o2.at (ne_of h hp (by intro z; cases z)) (npl.at h)
    walk_at "go"
    refine ⟨n, a, us, ms, rfl, o2.at nep (npl.at ha), hm.tps t2, ok, hlen, fun ld d H3 nld nd s3 hL => ?_⟩
    walk_at "go"
    refine w_kSFld (s3.at hp2) T.cl T.nL (by rw [show (putF "places" (V.ref pl) [] : List (Str × V)).length = 1 from rfl]; decide) (fun H4 hp4 o4 => ?_)
    walk_at "go"
    have hpl3 := s3.at hpl2
    have npp : pl ≠ p := (Nw.ne npl hp).symm
    have nlp : ld ≠ p := fun z => by rw [z, hp2] at nld; cases nld
    have ndp : ∀ c ∈ sgs, d c ≠ p := fun c hc z => by have := nd c hc; rw [z, hp2] at this; cases this
    have hnone : ∀ b, b ≠ p → H2 b = none → H b = none := fun b hb h => by
      cases e : H b with
      | none => rfl
      | some o => rw [o2.at hb (npl.at e)] at h; cases h
    refine q H4 (fun b => if b = p ∨ b = pl ∨ b = ld ∨ ∃ c ∈ sgs, b = d c then H4 b else none) ⟨dx, pl, ld, d, ?_, ?_, ?_, fun c hc => ?_⟩ (fun b o e => ?_) (fun b o e => ?_) (fun b o e hb => ?_)
    · show (if _ then _ else _) = _
      rw [if_pos (.inl rfl)]
      exact hp4
    · show (if _ then _ else _) = _
      rw [if_pos (.inr (.inl rfl))]
      exact o4.at npp hpl3
    · show (if _ then _ else _) = _
      rw [if_pos (.inr (.inr (.inl rfl)))]
      exact o4.at nlp hL.hd
    · show (if _ then _ else _) = _
      rw [if_pos (.inr (.inr (.inr ⟨c, hc, rfl⟩)))]
      exact o4.at (ndp c hc) (hL.hc c hc)
    · have e : (if _ then _ else _) = _ := e
      split at e
      · exact e
      · cases e
    · have e : (if _ then _ else _) = _ := e
      split at e
      · rename_i h
        rcases h with h | h | h | ⟨c, hc, h⟩
        · exact .inl h
        · exact .inr (by rw [h]; exact npl.nn)
        · exact .inr (hnone b (by rw [h]; exact nlp) (by rw [h]; exact nld))
        · exact .inr (hnone b (by rw [h]; exact ndp c hc) (by rw [h]; exact nd c hc))
      · cases e
    · exact o4.at hb (s3.at (o2.at hb (npl.at e)))
/-- a new world: what stands of it, and what stood -/
theorem w_world {H : Hp} {Q : VK} {a : Addr} {n : Int} {us : List V} {ms : List Mv} {E : XK} (ha : H a = some (.lst us)) (hm : MvsAt H us ms) (ok : WOk n ms) (hlen : ms.length ≤ 100000) (n1 : 1 ≤ n) (n2 : n ≤ 1000)
    (k : ∀ (p : Addr) (H' G : Hp), WAt C G p n (LM ms) → Same G H' → (∀ b o, G b = some o → H b = none) → Same H H' → Q (.ref p) H') : kMake C (spWI C) [] E Q [.int n, .ref a] H := fun x dx nx ndx hne => by
  have sm : Same H (upd (upd H dx (.own x)) x (.ins C dx [])) := (same_upd ndx).trans (same_upd (by rw [upd_ne hne.symm]; exact nx))
  refine ⟨x, dx, a, n, us, ms, rfl, upd_same, sm.at ha, hm.tps (.of sm), ok, hlen, n1, n2, fun H' G hW sG hG hf => ⟨rfl, k x H' G hW sG (fun b o e => ?_) fun b o e => hf b o (sm _ _ e) (ne_of_none e nx)⟩⟩
  rcases hG b o e with h | h
  · rw [h]
    exact nx
  · exact sm.free h
end
end Sf
namespace Sf
open PySem PySem.Spec PyProof.Rows L2 TL
section
variable {P : Program} {w : World} {K : PySem.W.Frag} {mg : Str → Option Value} {base : Heap} {C : Addr}
/-! ### World.led -/
def spLed (C : Addr) : Sp := fun vs H Q _ => ∃ (p : Addr) (n x : Int) (L : Nat → List (Int × Int)) (z : Str), vs = [.ref p, .str z, .int x] ∧ WAt C H p n L ∧ Wd z ∧ Q (oV (ledM (stp L) (tl z) x)) H
theorem sc_led : FnScope ["self", "word", "place", "here", "sign"] ["self", "word", "place"] (defScope s_World_led) := ⟨rfl, rfl, rfl, by decide +kernel, rfl, by decide +kernel, by decide +kernel⟩
theorem has_led (F : MAt K C "led" "World.led" s_World_led ["self", "word", "place"]) (T : WC K mg C) : HasM P w K mg base C 1 "led" ["self", "word", "place"] (spLed C) := F.has fun F => by
  refine F.ok sc_led (fun vs H Q E h => ?_) (fun cdv A outer s H vs Q E hr h => ?_)
  · obtain ⟨p, n, x, L, z, rfl, _⟩ := h
    rfl
  · obtain ⟨p, n, x, L, z, rfl, ⟨dx, pl, ld, d, hp, hpl, hL⟩, hz, q⟩ := h
    refine ⟨_, (pss_cons (ps_set (i := 3) sc_led.nd rfl (.inl rfl) (pv 2)) (pss_cons (ps_for PassesOwn.never rfl (pi_str (pv 1)) (pg_name (i := 4) sc_led.nd rfl (.inl rfl)) (pss_cons (ps_set (i := 3) sc_led.nd rfl (.inl rfl) (pe_dget1 (hu_of hr) (pe_dget (hu_of hr) (pe_fld (pv 0) rfl) (pv 4) (fun _ _ => rfl)) (pv 3) ⟨rfl, rfl, rfl, rfl⟩)) (pss_one (ps_if (pt_cmpR op_isNn (pv 3) pe_non (nomark _)) (pss_one (ps_ret pe_non)) pss_nil)))) (pss_one (ps_ret (pv 3))))), ?_⟩
    have hld := hL.hd
    walk_at "go"
    refine w_str (fun i σ H2 => ∃ (y4 : Option V) (y : Int), σ = [some (.ref p), some (.str z), some (.int x), some (.int y), y4] ∧ H2 = H ∧ ledM (stp L) ((tl z).take i) x = some y) ⟨none, x, rfl, rfl, rfl⟩ ?_ ?_
    · rintro i c σ H2 hc ⟨y4, y, rfl, rfl, e⟩
      have hs : c ∈ sgs := sgs_iff.mpr (hz c (List.mem_of_getElem? hc))
      have hdc := hL.hc c hs
      have e1 := ledM_snoc (st := stp L) (x := x) hc
      rw [e] at e1
      walk_at "go"
      refine w_kFld hp T.cl T.nL (wf_leads _ _) ?_
      walk_at "go"
      refine w_kDGetS hld (val_sgs hs) ?_
      walk_at "go"
      rw [getD_kvI]
      cases e2 : lk (L c) y with
      | none =>
        walk_at "go"
        have e3 : ledM (stp L) ((tl z).take (i + 1)) x = none := by rw [e1]; exact e2
        rw [ledM_none e3] at q
        exact q
      | some y' =>
        walk_at "go"
        exact ⟨_, y', rfl, rfl, by rw [e1]; exact e2⟩
    · rintro σ H2 ⟨y4, y, rfl, rfl, e⟩
      walk_at "go"
      rw [List.take_length] at e
      rw [e] at q
      exact q
def plc (n : Int) : List Int := (List.range n.toNat).map fun i => ((i : Nat) : Int)
theorem rgV_plc (n : Int) : rgV 0 n = (plc n).map V.int := by
  unfold rgV plc
  rw [List.map_map, Int.sub_zero]
  exact List.map_congr_left fun i _ => by show V.int (0 + (i : Int)) = V.int (i : Int); rw [Int.zero_add]
theorem oV_inj {a b : Option Int} (h : oV a = oV b) : a = b := by
  cases a <;> cases b <;> first | rfl | cases h | skip
  rfl
theorem scal_oV (a b : Option Int) : scal (oV a) (oV b) = true := by
  cases a <;> cases b <;> rfl
end
end Sf
namespace Sf
open PySem PySem.Spec PyProof.Rows L2 TL
section
variable {P : Program} {w : World} {K : PySem.W.Frag} {mg : Str → Option Value} {base : Heap} {C : Addr}
/-! ### _law_world: some world -/
def spLw : Sp := fun vs H Q _ => ∃ (b l : Addr) (u : Int) (z : Str), vs = [.ref b, .int u, .str z] ∧ Bag H b l ∧ 1 ≤ u ∧ u ≤ 1000 ∧ (∀ c ∈ tl z, 97 ≤ c ∧ c ≤ 104) ∧ (tl z).Nodup ∧ (tl z).length ≤ 8 ∧
  ∀ (t f : Addr) (n : Int) (us : List V) (ms : List Mv) (H' : Hp), H' t = some (.tup [.int n, .ref f]) → H' f = some (.lst us) → MvsAt H' us ms → WOk n ms → 1 ≤ n → n ≤ u → ms.length ≤ 8000 → (∀ m ∈ ms, m.1 ∈ tl z) → Bag H' b l → Fx b H H' → H f = none → f ≠ b → f ≠ l → Q (.ref t) H'
abbrev HasLw (P : Program) (w : World) (K : PySem.W.Frag) (mg : Str → Option Value) (base : Heap) : Prop := Has P w K mg base 2 "_law_world" ["_law_bag", "_law_upto", "_law_letters"] spLw
theorem sc_lw : FnScope ["_law_bag", "_law_upto", "_law_letters", "_law_many", "_law_found", "_law_letter", "_law_starts", "_law_ends", "_law_turn", "_law_start"] ["_law_bag", "_law_upto", "_law_letters"] (defScope s__law_world) := ⟨rfl, rfl, rfl, by decide +kernel, rfl, by decide +kernel, by decide +kernel⟩
theorem plc_mem {n x : Int} : x ∈ plc n ↔ 0 ≤ x ∧ x < n := by
  unfold plc
  rw [List.mem_map]
  constructor
  · rintro ⟨i, hi, rfl⟩
    have := List.mem_range.mp hi
    omega
  · rintro ⟨h0, h1⟩
    exact ⟨x.toNat, List.mem_range.mpr (by omega), by omega⟩
theorem plc_nodup (n : Int) : (plc n).Nodup := by
  unfold plc
  refine List.Pairwise.map _ (fun a b h => ?_) List.nodup_range
  omega
theorem plc_len {n : Int} : (plc n).length = n.toNat := by
  unfold plc
  rw [List.length_map, List.length_range]
theorem plc_at {n : Int} {j : Nat} (h : j < n.toNat) : (plc n)[j]? = some (0 + (j : Int)) := by
  unfold plc
  rw [List.getElem?_map, List.getElem?_range h, Int.zero_add]
  rfl
theorem abc_mem {d : Int} : ∀ c ∈ tl (cutS (Str.ofString "abc") none (some d)), 97 ≤ c ∧ c ≤ 104 := fun c hc => by
  rw [tl_cut] at hc
  have := List.mem_of_mem_drop (List.mem_of_mem_take hc)
  rw [show tl (Str.ofString "abc") = [97, 98, 99] by decide +kernel] at this
  simp only [List.mem_cons, List.not_mem_nil, or_false] at this
  omega
theorem abc_nd {d : Int} : (tl (cutS (Str.ofString "abc") none (some d))).Nodup := by
  rw [tl_cut]
  refine List.Nodup.sublist ((List.take_sublist _ _).trans (List.drop_sublist _ _)) ?_
  rw [show tl (Str.ofString "abc") = [97, 98, 99] by decide +kernel]
  decide
theorem abc_len {d : Int} : (tl (cutS (Str.ofString "abc") none (some d))).length ≤ 8 := by
  rw [tl_cut, List.length_take, List.length_drop, show tl (Str.ofString "abc") = [97, 98, 99] by decide +kernel]
  exact Nat.le_trans (Nat.min_le_right _ _) (Nat.le_trans (Nat.sub_le _ _) (by decide))
/-- what is left to draw from -/
structure Left (n : Int) (S : List Int) (j : Nat) : Prop where
  nd : S.Nodup
  rg : ∀ x ∈ S, 0 ≤ x ∧ x < n
  ln : S.length + j = n.toNat
theorem Left.pop {n x : Int} {S R : List Int} {j : Nat} (h : Left n S j) (p : S.Perm (x :: R)) : Left n R (j + 1) ∧ x ∉ R ∧ x ∈ S ∧ (∀ y ∈ R, y ∈ S) := by
  have nd := p.nodup_iff.mp h.nd
  rw [List.nodup_cons] at nd
  have hl := p.length_eq
  rw [List.length_cons] at hl
  have := h.ln
  exact ⟨⟨nd.2, fun y hy => h.rg y (p.mem_iff.mpr (List.mem_cons_of_mem _ hy)), by omega⟩, nd.1, p.mem_iff.mpr List.mem_cons_self, fun y hy => p.mem_iff.mpr (List.mem_cons_of_mem _ hy)⟩
theorem WOk.snoc {n : Int} {ms : List Mv} {m : Mv} (h : WOk n ms) (hr : 97 ≤ m.1 ∧ m.1 ≤ 104 ∧ 0 ≤ m.2.1 ∧ m.2.1 < n ∧ 0 ≤ m.2.2 ∧ m.2.2 < n) (hp : ∀ k ∈ ms, k.1 = m.1 → k.2.1 ≠ m.2.1 ∧ k.2.2 ≠ m.2.2) : WOk n (ms ++ [m]) := by
  refine ⟨fun k hk => ?_, List.pairwise_append.mpr ⟨h.pw, List.pairwise_singleton _ _, fun k hk m' hm' => ?_⟩⟩
  · rcases List.mem_append.mp hk with hk | hk
    · exact h.rg k hk
    · rw [List.mem_singleton.mp hk]
      exact hr
  · rw [List.mem_singleton.mp hm']
    exact hp k hk
theorem paired_snoc {α β : Type} {R : α → β → Prop} {a : α} {b : β} (h : R a b) : ∀ {as : List α} {bs : List β}, Paired R as bs → Paired R (as ++ [a]) (bs ++ [b])
  | _, _, .nil => .cons h .nil
  | _, _, .cons r t => .cons r (paired_snoc h t)
theorem has_lw (F : FnAt K mg "_law_world" s__law_world ["_law_bag", "_law_upto", "_law_letters"]) (B : Blt mg) (h_Pu : HasPull P w K mg base) : HasLw P w K mg base := F.has fun F => by
  obtain ⟨f_Pu, fd_Pu, g_Pu, k_Pu, b_Pu, G_Pu⟩ := h_Pu
  refine F.ok sc_lw (fun vs H Q E h => ?_) (fun cdv A outer s H vs Q E hr h => ?_)
  · obtain ⟨b, l, u, z, rfl, _⟩ := h
    rfl
  · obtain ⟨b, l, u, z, rfl, hB, u0, u1, hz, hnd, hz8, q⟩ := h
    refine ⟨_, (pss_cons (ps_set (i := 3) sc_lw.nd rfl (.inl rfl) (pe_op op_add pe_int (pe_call G_Pu (hr.mono (by decide)) (by rfl) g_Pu k_Pu b_Pu .nil pass0 (pa_cons (pv 0) (pa_cons (pv 1) pa_nil))))) (pss_cons (ps_set (i := 4) sc_lw.nd rfl (.inl rfl) (pe_lst pa_nil)) (pss_cons (ps_for PassesOwn.never rfl (pi_str (pv 2)) (pg_name (i := 5) sc_lw.nd rfl (.inl rfl)) (pss_cons (ps_set (i := 6) sc_lw.nd rfl (.inl rfl) (pe_listRg rfl (by rfl) B.list (prg_1 (by rfl) B.range (pv 3)))) (pss_cons (ps_set (i := 7) sc_lw.nd rfl (.inl rfl) (pe_listRg rfl (by rfl) B.list (prg_1 (by rfl) B.range (pv 3)))) (pss_one (ps_for PassesOwn.never rfl (pi_range1 rfl B.range (pa_cons (pe_call G_Pu (hr.mono (by decide)) (by rfl) g_Pu k_Pu b_Pu .nil pass0 (pa_cons (pv 0) (pa_cons (pe_op op_add (pv 3) pe_int) pa_nil))) pa_nil)) (pg_name (i := 8) sc_lw.nd rfl (.inl rfl)) (pss_cons (ps_set (i := 9) sc_lw.nd rfl (.inl rfl) (pe_bm PySem.F.plainAttrs_list PySem.F.slot_list_pop PySem.F.type_list_pop mt_popAt (pv 6) (pa_cons (pe_call G_Pu (hr.mono (by decide)) (by rfl) g_Pu k_Pu b_Pu .nil pass0 (pa_cons (pv 0) (pa_cons (pe_callB call_lenQ (by rfl) B.len PySem.boot_len (pa_cons (pv 6) pa_nil)) pa_nil))) pa_nil))) (pss_one (ps_expr (pe_bm PySem.F.plainAttrs_list PySem.F.slot_list_append PySem.F.type_list_append mt_append (pv 4) (pa_cons (pe_tup (pa_cons (pv 5) (pa_cons (pv 9) (pa_cons (pe_bm PySem.F.plainAttrs_list PySem.F.slot_list_pop PySem.F.type_list_pop mt_popAt (pv 7) (pa_cons (pe_call G_Pu (hr.mono (by decide)) (by rfl) g_Pu k_Pu b_Pu .nil pass0 (pa_cons (pv 0) (pa_cons (pe_callB call_lenQ (by rfl) B.len PySem.boot_len (pa_cons (pv 7) pa_nil)) pa_nil))) pa_nil)) pa_nil)))) pa_nil)))))))))) (pss_one (ps_ret (pe_tup (pa_cons (pv 3) (pa_cons (pv 4) pa_nil)))))))), ?_⟩
    walk_at "go"
    refine ⟨b, l, u, rfl, hB, by omega, by omega, fun d H1 d0 d1 B1 f1 => ?_⟩
    walk_at "go"
    refine w_newL (by decide) (fun f H2 hf nf => ?_)
    have B2 := B1.nw nf
    have nfb := B1.ne nf.nn
    have nfl := B1.neL nf.nn
    have nfH : H f = none := by
      cases e : H f with
      | none => rfl
      | some o => have := nf.nn; rw [f1 _ _ e nfb] at this; cases this
    obtain ⟨n, en⟩ : ∃ n, n = 1 + d := ⟨_, rfl⟩
    rw [← en]
    walk_at "go"
    refine w_str (fun i σ H3 => ∃ (y5 y6 y7 y8 y9 : Option V) (us : List V) (ms : List Mv), σ = [some (.ref b), some (.int u), some (.str z), some (.int n), some (.ref f), y5, y6, y7, y8, y9] ∧ H3 f = some (.lst us) ∧ MvsAt H3 us ms ∧ WOk n ms ∧ Bag H3 b l ∧ Fx b H H3 ∧ (∀ m ∈ ms, m.1 ∈ (tl z).take i) ∧ ms.length ≤ i * n.toNat)
      ⟨none, none, none, none, none, [], [], rfl, hf, .nil, ⟨fun m hm => absurd hm (by simp), .nil⟩, B2, f1.nw nf, fun m hm => absurd hm (by simp), Nat.zero_le _⟩ ?_ ?_
    · rintro i c σ H3 hc ⟨y5, y6, y7, y8, y9, us, ms, rfl, hf3, hm3, ok3, B3, f3, hin3, hl3⟩
      have hi8 : i < 8 := Nat.lt_of_lt_of_le (List.getElem?_eq_some_iff.mp hc).1 hz8
      have hc97 := hz c (List.mem_of_getElem? hc)
      have hnotin : ∀ m ∈ ms, m.1 ≠ c := fun m hm e => by
        have h1 := hin3 m hm
        rw [e] at h1
        have h2 := take_snoc hc ▸ (hnd.sublist (List.take_sublist (i + 1) (tl z)))
        rw [List.nodup_append] at h2
        exact h2.2.2 c h1 c (List.mem_singleton.mpr rfl) rfl
      walk_at "go"
      refine w_kRgL (.of_le (by decide) (by omega) (by decide) (by omega)) (fun s1 H4 hs4 ns4 => ?_)
      walk_at "go"
      refine w_kRgL (.of_le (by decide) (by omega) (by decide) (by omega)) (fun e1 H5 he5 ne5 => ?_)
      have B4 := B3.nw ns4
      have B5 := B4.nw ne5
      have sb := B3.ne ns4.nn
      have sl := B3.neL ns4.nn
      have eb := B4.ne ne5.nn
      have el := B4.neL ne5.nn
      have sf : f ≠ s1 := ns4.ne hf3
      have ef : f ≠ e1 := ne5.ne (ns4.at hf3)
      have se : s1 ≠ e1 := ne5.ne hs4
      have sH : H s1 = none := by
        cases e : H s1 with
        | none => rfl
        | some o => have := ns4.nn; rw [f3 _ _ e sb] at this; cases this
      have eH : H e1 = none := by
        cases e : H e1 with
        | none => rfl
        | some o => have := ne5.nn; rw [ns4.at (f3 _ _ e eb)] at this; cases this
      walk_at "go"
      refine ⟨b, l, n + 1, rfl, B5, by omega, by omega, fun k H6 k0 k1 B6 f6 => ?_⟩
      walk_at "go"
      refine w_kRng1 (by omega) (by omega) ?_
      refine w_range (fun j σ H7 => ∃ (y8 y9 : Option V) (us' : List V) (ms' : List Mv) (S R : List Int), σ = [some (.ref b), some (.int u), some (.str z), some (.int n), some (.ref f), some (.str (one c)), some (.ref s1), some (.ref e1), y8, y9] ∧ H7 f = some (.lst us') ∧ MvsAt H7 us' ms' ∧ WOk n ms' ∧ Bag H7 b l ∧ Fx b H H7 ∧ (∀ m ∈ ms', m.1 ∈ (tl z).take (i + 1)) ∧ ms'.length ≤ i * n.toNat + j ∧
          H7 s1 = some (.lst (S.map V.int)) ∧ H7 e1 = some (.lst (R.map V.int)) ∧ Left n S j ∧ Left n R j ∧ ∀ m ∈ ms', m.1 = c → m.2.1 ∉ S ∧ m.2.2 ∉ R)
        ⟨_, _, us, ms, plc n, plc n, rfl, f6.at nfb (ne5.at (ns4.at hf3)), (hm3.tps (.of (ns4.same.trans ne5.same))).tps (.fx B5 f6), ok3, B6, ((f3.nw ns4).nw ne5).trans f6, fun m hm => by rw [take_snoc hc]; exact List.mem_append_left _ (hin3 m hm), hl3, by rw [← rgV_plc]; exact f6.at sb (ne5.at hs4), by rw [← rgV_plc]; exact f6.at eb he5, ⟨plc_nodup n, fun x hx => plc_mem.mp hx, plc_len⟩, ⟨plc_nodup n, fun x hx => plc_mem.mp hx, plc_len⟩, fun m hm e => absurd e (hnotin m hm)⟩ ?_ ?_
      · rintro j σ H7 hj ⟨y8, y9, us', ms', S, R, rfl, hf7, hm7, ok7, B7, f7, hin7, hl7, hs7, he7, LS, LR, hd7⟩
        have lS := LS.ln
        have lR := LR.ln
        walk_at "go"
        refine ⟨b, l, _, rfl, B7, by rw [List.length_map]; omega, by rw [List.length_map]; omega, fun d H8 d0 d1 B8 f8 => ?_⟩
        rw [List.length_map] at d1
        walk_at "go"
        refine w_popI (f8.at sb hs7) d0 d1 (by omega) (fun x S' H9 pS hs9 o9 => ?_)
        obtain ⟨LS', xS', xS, sS⟩ := LS.pop pS
        have B9 := B8.off sb sl o9
        have he9 : H9 e1 = some (.lst (R.map V.int)) := o9.at se.symm (f8.at eb he7)
        have hf9 : H9 f = some (.lst us') := o9.at sf (f8.at nfb hf7)
        have t9 : Tps H7 H9 := (Tps.fx B7 f8).off (f8.at sb hs7) o9
        walk_at "go"
        refine ⟨b, l, _, rfl, B9, by rw [List.length_map]; omega, by rw [List.length_map]; omega, fun d' H10 d0' d1' B10 f10 => ?_⟩
        rw [List.length_map] at d1'
        walk_at "go"
        refine w_popI (f10.at eb he9) d0' d1' (by omega) (fun y R' H11 pR he11 o11 => ?_)
        obtain ⟨LR', yR', yR, sR⟩ := LR.pop pR
        have B11 := B10.off eb el o11
        have hf11 : H11 f = some (.lst us') := o11.at ef (f10.at nfb hf9)
        have hs11 : H11 s1 = some (.lst (S'.map V.int)) := o11.at se (f10.at sb hs9)
        have t11 : Tps H7 H11 := t9.trans ((Tps.fx B9 f10).off (f10.at eb he9) o11)
        walk_at "go"
        refine w_newT (by walk_at "sz") (fun t H12 ht12 nt12 => ?_)
        have t12 : Tps H7 H12 := t11.trans (.of nt12.same)
        have hlu : us'.length = ms'.length := Paired.length hm7
        have hjn : i * n.toNat + j ≤ 8000 := Nat.le_trans (Nat.add_le_add (Nat.mul_le_mul (show i ≤ 7 by omega) (show n.toNat ≤ 1000 by omega)) (show j ≤ 1000 by omega)) (by decide)
        walk_at "go"
        refine w_append (nt12.at hf11) (lineLt_of (by omega)) (fun H13 hf13 o13 => ?_)
        have nft : f ≠ t := nt12.ne hf11
        walk_at "go"
        refine ⟨_, _, us' ++ [.ref t], ms' ++ [(c, x, y)], S', R', rfl, hf13, paired_snoc ⟨t, rfl, o13.at nft.symm ht12⟩ (hm7.tps (t12.off (nt12.at hf11) o13)), ok7.snoc ?_ ?_, (B11.nw nt12).off nfb nfl o13, ?_, ?_, ?_, o13.at sf.symm (nt12.at hs11), o13.at ef.symm (nt12.at he11), LS', LR', ?_⟩
        · exact ⟨hc97.1, hc97.2, (LS.rg x xS).1, (LS.rg x xS).2, (LR.rg y yR).1, (LR.rg y yR).2⟩
        · intro k hk e
          have := hd7 k hk e
          exact ⟨fun z => this.1 (z ▸ xS), fun z => this.2 (z ▸ yR)⟩
        · exact ((((f7.trans f8).off o9 sH).trans f10).off o11 eH |>.nw nt12).off o13 nfH
        · intro m hm
          rcases List.mem_append.mp hm with hm | hm
          · exact hin7 m hm
          · rw [List.mem_singleton.mp hm, take_snoc hc]
            exact List.mem_append_right _ (List.mem_singleton.mpr rfl)
        · rw [List.length_append]
          show ms'.length + 1 ≤ _
          omega
        · intro m hm e
          rcases List.mem_append.mp hm with hm | hm
          · have := hd7 m hm e
            exact ⟨fun z => this.1 (sS _ z), fun z => this.2 (sR _ z)⟩
          · rw [List.mem_singleton.mp hm]
            exact ⟨xS', yR'⟩
      · rintro σ H7 ⟨y8, y9, us', ms', S, R, rfl, hf7, hm7, ok7, B7, f7, hin7, hl7, hs7, he7, LS, LR, hd7⟩
        refine ⟨_, _, _, _, _, us', ms', rfl, hf7, hm7, ok7, B7, f7, hin7, ?_⟩
        have h1 : (i + 1) * n.toNat = i * n.toNat + n.toNat := Nat.succ_mul ..
        omega
    · rintro σ H3 ⟨y5, y6, y7, y8, y9, us, ms, rfl, hf3, hm3, ok3, B3, f3, hin3, hl3⟩
      walk_at "go"
      refine w_newT (by walk_at "sz") (fun t H4 ht4 nt4 => ?_)
      refine q t f n us ms H4 ht4 (nt4.at hf3) (hm3.tps (.of nt4.same)) ok3 (by omega) (by omega) ?_ (fun m hm => ?_) (B3.nw nt4) (f3.nw nt4) nfH nfb nfl
      · exact Nat.le_trans hl3 (Nat.le_trans (Nat.mul_le_mul hz8 (show n.toNat ≤ 1000 by omega)) (by decide))
      · exact List.mem_of_mem_take (hin3 m hm)
end
end Sf
namespace Sf
open PySem PySem.Spec PyProof.Rows L2 TL
/-! ### the law's own leading -/
def hitS (c : Nat) (x : Int) (m : Mv) : Option Int := if m.1 = c ∧ m.2.1 = x then some m.2.2 else none
def hitG (c : Nat) (x : Int) (m : Mv) : Option Int := if m.1 = c ∧ m.2.2 = x then some m.2.1 else none
theorem hitS_lk {c : Nat} {x : Int} : ∀ {ms : List Mv}, (∀ m ∈ ms, m.1 ≠ c + 32) → lk (LM ms c) x = (ms.filterMap (hitS c x)).head?
  | [], _ => rfl
  | m :: r, h => by
    have ih := hitS_lk (c := c) (x := x) fun k hk => h k (List.mem_cons_of_mem _ hk)
    have hm := h m List.mem_cons_self
    unfold LM at ih ⊢
    by_cases e : m.1 = c
    · have e1 : mvOn c m = some (m.2.1, m.2.2) := by unfold mvOn; rw [if_pos e]
      rw [List.filterMap_cons_some e1]
      by_cases e2 : m.2.1 = x
      · have e3 : hitS c x m = some m.2.2 := by unfold hitS; rw [if_pos ⟨e, e2⟩]
        rw [List.filterMap_cons_some e3]
        unfold lk
        rw [List.find?_cons, decide_eq_true e2]
        rfl
      · have e3 : hitS c x m = none := by unfold hitS; rw [if_neg (fun z => e2 z.2)]
        rw [List.filterMap_cons_none e3, ← ih]
        unfold lk
        rw [List.find?_cons, decide_eq_false e2]
    · have e1 : mvOn c m = none := by unfold mvOn; rw [if_neg e, if_neg hm]
      have e3 : hitS c x m = none := by unfold hitS; rw [if_neg (fun z => e z.1)]
      rw [List.filterMap_cons_none e1, List.filterMap_cons_none e3]
      exact ih
theorem hitG_lk {c : Nat} {x : Int} : ∀ {ms : List Mv}, (∀ m ∈ ms, m.1 ≠ c) → lk (LM ms c) x = (ms.filterMap (hitG (c + 32) x)).head?
  | [], _ => rfl
  | m :: r, h => by
    have ih := hitG_lk (c := c) (x := x) fun k hk => h k (List.mem_cons_of_mem _ hk)
    have hm := h m List.mem_cons_self
    unfold LM at ih ⊢
    by_cases e : m.1 = c + 32
    · have e1 : mvOn c m = some (m.2.2, m.2.1) := by unfold mvOn; rw [if_neg hm, if_pos e]
      rw [List.filterMap_cons_some e1]
      by_cases e2 : m.2.2 = x
      · have e3 : hitG (c + 32) x m = some m.2.1 := by unfold hitG; rw [if_pos ⟨e, e2⟩]
        rw [List.filterMap_cons_some e3]
        unfold lk
        rw [List.find?_cons, decide_eq_true e2]
        rfl
      · have e3 : hitG (c + 32) x m = none := by unfold hitG; rw [if_neg (fun z => e2 z.2)]
        rw [List.filterMap_cons_none e3, ← ih]
        unfold lk
        rw [List.find?_cons, decide_eq_false e2]
    · have e1 : mvOn c m = none := by unfold mvOn; rw [if_neg hm, if_neg e]
      have e3 : hitG (c + 32) x m = none := by unfold hitG; rw [if_neg (fun z => e z.1)]
      rw [List.filterMap_cons_none e1, List.filterMap_cons_none e3]
      exact ih
theorem fm_snoc {α β : Type} {f : α → Option β} {l : List α} {i : Nat} {x : α} (h : l[i]? = some x) : (l.take (i + 1)).filterMap f = (l.take i).filterMap f ++ (f x).toList := by
  rw [take_snoc h, List.filterMap_append, List.filterMap_cons]
  cases f x <;> rfl
section
variable {P : Program} {w : World} {K : PySem.W.Frag} {mg : Str → Option Value} {base : Heap} {C : Addr}
def spLld : Sp := fun vs H Q _ => ∃ (a : Addr) (us : List V) (ms : List Mv) (z : Str) (x : Int), vs = [.ref a, .str z, .int x] ∧ H a = some (.lst us) ∧ MvsAt H us ms ∧ (∀ m ∈ ms, 97 ≤ m.1 ∧ m.1 ≤ 104) ∧ ms.length ≤ 100000 ∧ Wd z ∧
  ∀ H', Same H H' → Q (oV (ledM (stp (LM ms)) (tl z) x)) H'
abbrev HasLld (P : Program) (w : World) (K : PySem.W.Frag) (mg : Str → Option Value) (base : Heap) : Prop := Has P w K mg base 1 "_law_led" ["_law_moves", "_law_word_here", "_law_place"] spLld
theorem sc_lld : FnScope ["_law_moves", "_law_word_here", "_law_place", "_law_sign_here", "_law_letter", "_law_start", "_law_end", "_law_ends"] ["_law_moves", "_law_word_here", "_law_place"] (defScope s__law_led) := ⟨rfl, rfl, rfl, by decide +kernel, rfl, by decide +kernel, by decide +kernel⟩
theorem has_lld (F : FnAt K mg "_law_led" s__law_led ["_law_moves", "_law_word_here", "_law_place"]) : HasLld P w K mg base := F.has fun F => by
  refine F.ok sc_lld (fun vs H Q E h => ?_) (fun cdv A outer s H vs Q E hr h => ?_)
  · obtain ⟨a, us, ms, z, x, rfl, _⟩ := h
    rfl
  · obtain ⟨a, us, ms, z, x, rfl, ha, hm, hms, hlen, hz, q⟩ := h
    refine ⟨_, (pss_cons (ps_for PassesOwn.never rfl (pi_str (pv 1)) (pg_name (i := 3) sc_lld.nd rfl (.inr rfl)) (pss_one (ps_if (PW.pt (pw_and (pt_cmpR op_notNn (pv 2) pe_non (nomark _)) (pw_and1 (pt_cmpR op_inSg (pv 3) pe_str rfl)))) (pss_cons (ps_setLc (i := 7) (own := [("_law_letter", 4), ("_law_start", 5), ("_law_end", 6)]) (g := gTup K 3 (gCons (gName 4) (gCons (gName 5) (gCons (gName 6) gNil)))) (by rfl) sc_lld.nd rfl rfl (sw_true rfl rfl rfl (by decide +kernel)) (pi_list (pv 0)) (blkOk_by (own := [("_law_letter", 4), ("_law_start", 5), ("_law_end", 6)]) (N := ["_law_moves", "_law_word_here", "_law_place", "_law_sign_here", "_law_letter", "_law_start", "_law_end", "_law_ends"]) (sc := defScope s__law_led) (by decide +kernel)) (fun _ _ _ _ _ => pg_tup rfl (pgs_cons (pg_name (i := 4) sc_lld.nd rfl (.inl rfl)) (pgs_cons (pg_name (i := 5) sc_lld.nd rfl (.inl rfl)) (pgs_cons (pg_name (i := 6) sc_lld.nd rfl (.inl rfl)) pgs_nil)))) (fun _ _ _ _ _ => pts_one (PW.pt (pw_and (pt_cmpR op_eq (pv 4) (pv 3) (nomark _)) (pw_and1 (pt_cmpR op_eq (pv 5) (pv 2) (nomark _)))))) (fun _ _ _ _ _ => (pv 6))) (pss_one (ps_set (i := 2) sc_lld.nd rfl (.inr rfl) (pe_ifExp (pt_cmpR (op_neD hr.units) (pv 7) (pe_lst pa_nil) (nomark _)) (pe_ix ix_list (pv 7) pe_int (fun _ _ => rfl)) pe_non)))) (pss_one (ps_if (pt_cmpR op_notNn (pv 2) pe_non (nomark _)) (pss_cons (ps_setLc (i := 7) (own := [("_law_letter", 4), ("_law_start", 5), ("_law_end", 6)]) (g := gTup K 3 (gCons (gName 4) (gCons (gName 5) (gCons (gName 6) gNil)))) (by rfl) sc_lld.nd rfl rfl (sw_true rfl rfl rfl (by decide +kernel)) (pi_list (pv 0)) (blkOk_by (own := [("_law_letter", 4), ("_law_start", 5), ("_law_end", 6)]) (N := ["_law_moves", "_law_word_here", "_law_place", "_law_sign_here", "_law_letter", "_law_start", "_law_end", "_law_ends"]) (sc := defScope s__law_led) (by decide +kernel)) (fun _ _ _ _ _ => pg_tup rfl (pgs_cons (pg_name (i := 4) sc_lld.nd rfl (.inl rfl)) (pgs_cons (pg_name (i := 5) sc_lld.nd rfl (.inl rfl)) (pgs_cons (pg_name (i := 6) sc_lld.nd rfl (.inl rfl)) pgs_nil)))) (fun _ _ _ _ _ => pts_one (PW.pt (pw_and (pt_cmpR op_eq (pv 4) (pe_m0 PySem.F.slot_str_lower PySem.F.type_str_lower mt_loN (pv 3)) (nomark _)) (pw_and1 (pt_cmpR op_eq (pv 6) (pv 2) (nomark _)))))) (fun _ _ _ _ _ => (pv 5))) (pss_one (ps_set (i := 2) sc_lld.nd rfl (.inr rfl) (pe_ifExp (pt_cmpR (op_neD hr.units) (pv 7) (pe_lst pa_nil) (nomark _)) (pe_ix ix_list (pv 7) pe_int (fun _ _ => rfl)) pe_non)))) pss_nil))))) (pss_one (ps_ret (pv 2)))), ?_⟩
    walk_at "go"
    refine w_str (fun i σ H2 => ∃ (y3 y4 y5 y6 y7 : Option V), σ = [some (.ref a), some (.str z), some (oV (ledM (stp (LM ms)) ((tl z).take i) x)), y3, y4, y5, y6, y7] ∧ Same H H2) ⟨none, none, none, none, none, rfl, .refl _⟩ ?_ ?_
    · rintro i c σ H2 hc ⟨y3, y4, y5, y6, y7, rfl, s2⟩
      have e1 := ledM_snoc (st := stp (LM ms)) (x := x) hc
      have ha2 := s2.at ha
      have hsg := sgn_iff.mp (hz c (List.mem_of_getElem? hc))
      have hus : us.length = ms.length := Paired.length hm
      have hlf : ∀ (f : Mv → Option Int) (j : Nat), (((ms.take j).filterMap f).map V.int).length < sizeLine := fun f j => by
        rw [List.length_map]
        exact lineLt_of (Nat.le_trans (List.length_filterMap_le ..) (Nat.le_trans (by rw [List.length_take]; exact Nat.min_le_right _ _) hlen))
      cases e2 : ledM (stp (LM ms)) ((tl z).take i) x with
      | none =>
        rw [e2] at e1
        have e1 : ledM (stp (LM ms)) ((tl z).take (i + 1)) x = none := e1
        show gName _ _ [some (V.ref a), some (V.str z), some V.non, y3, y4, y5, y6, y7] _ _
        walk_at "go"
        exact ⟨_, _, _, _, _, by rw [e1]; rfl, s2⟩
      | some y =>
        rw [e2] at e1
        have e1 : ledM (stp (LM ms)) ((tl z).take (i + 1)) x = lk (LM ms c) y := e1
        show gName _ _ [some (V.ref a), some (V.str z), some (V.int y), y3, y4, y5, y6, y7] _ _
        walk_at "go"
        refine w_if2 (fun hin => ?_) (fun hin => ?_)
        · have hs := in_small.mp hin
          rw [hitS_lk (fun m hm => by have := hms m hm; omega)] at e1
          walk_at "go"
          refine w_lcL (xs := us) (fun p j H3 => Same H2 H3 ∧ H2 p = none ∧ H3 p = some (.lst (((ms.take j).filterMap (hitS c y)).map V.int))) (fun p H3 hp np => ⟨np.same, np.nn, hp⟩) (fun p j H3 _ h => h.1.at ha2) ?_ ?_
          · rintro p j v H3 hv ⟨s3, np, hp⟩
            obtain ⟨m, hmj, t, rfl, ht⟩ := paired_get hm hv
            have ht3 := s3.at (s2.at ht)
            walk_at "go"
            refine w_and2 (fun h1 => ?_) (fun h1 => ?_)
            · walk_at "go"
              refine w_tst2 (fun h2 => ?_) (fun h2 => ?_)
              · walk_at "go"
                refine w_kIt hp (hlf _ _) (fun H4 hp4 o4 => ⟨s3.off o4 np, np, ?_⟩)
                have e3 : hitS c y m = some m.2.2 := by unfold hitS; rw [if_pos ⟨one_inj h1, h2⟩]
                rw [hp4, fm_snoc hmj, e3, List.map_append]
                rfl
              · have e3 : hitS c y m = none := by unfold hitS; rw [if_neg (fun z => h2 z.2)]
                exact ⟨s3, np, by rw [fm_snoc hmj, e3, Option.toList, List.append_nil]; exact hp⟩
            · walk_at "go"
              have e3 : hitS c y m = none := by unfold hitS; rw [if_neg (fun z => h1 (congrArg one z.1))]
              exact ⟨s3, np, by rw [fm_snoc hmj, e3, Option.toList, List.append_nil]; exact hp⟩
          · rintro p H3 ⟨s3, np, hp⟩
            rw [hus, List.take_length] at hp
            walk_at "go"
            refine w_newL (by decide) (fun p2 H4 hp4 np4 => ?_)
            refine w_neNilI (np4.at hp) hp4 ?_
            walk_at "go"
            cases e5 : ms.filterMap (hitS c y) with
            | nil =>
              rw [e5] at e1
              have e1 : ledM (stp (LM ms)) ((tl z).take (i + 1)) x = none := e1
              refine w_ifEF ?_
              walk_at "go"
              exact ⟨_, _, _, _, _, by rw [e1]; rfl, (s2.trans s3).nw np4⟩
            | cons u r =>
              rw [e5] at e1 hp
              have e1 : ledM (stp (LM ms)) ((tl z).take (i + 1)) x = some u := e1
              refine w_ifET ?_
              walk_at "go"
              refine w_ixL (np4.at hp) (at_of (j := 0) rfl rfl) ?_
              walk_at "go"
              exact ⟨_, _, _, _, _, by rw [e1]; rfl, (s2.trans s3).nw np4⟩
        · have hs : 65 ≤ c ∧ c ≤ 72 := by
            rcases hsg with h | h
            · exact absurd (in_small.mpr h) hin
            · exact h
          rw [hitG_lk (fun m hm => by have := hms m hm; omega)] at e1
          walk_at "go"
          refine w_lcL (xs := us) (fun p j H3 => Same H2 H3 ∧ H2 p = none ∧ H3 p = some (.lst (((ms.take j).filterMap (hitG (c + 32) y)).map V.int))) (fun p H3 hp np => ⟨np.same, np.nn, hp⟩) (fun p j H3 _ h => h.1.at ha2) ?_ ?_
          · rintro p j v H3 hv ⟨s3, np, hp⟩
            obtain ⟨m, hmj, t, rfl, ht⟩ := paired_get hm hv
            have ht3 := s3.at (s2.at ht)
            walk_at "go"
            refine w_lo1 hs ?_
            walk_at "go"
            refine w_and2 (fun h1 => ?_) (fun h1 => ?_)
            · walk_at "go"
              refine w_tst2 (fun h2 => ?_) (fun h2 => ?_)
              · walk_at "go"
                refine w_kIt hp (hlf _ _) (fun H4 hp4 o4 => ⟨s3.off o4 np, np, ?_⟩)
                have e3 : hitG (c + 32) y m = some m.2.1 := by unfold hitG; rw [if_pos ⟨one_inj h1, h2⟩]
                rw [hp4, fm_snoc hmj, e3, List.map_append]
                rfl
              · have e3 : hitG (c + 32) y m = none := by unfold hitG; rw [if_neg (fun z => h2 z.2)]
                exact ⟨s3, np, by rw [fm_snoc hmj, e3, Option.toList, List.append_nil]; exact hp⟩
            · walk_at "go"
              have e3 : hitG (c + 32) y m = none := by unfold hitG; rw [if_neg (fun z => h1 (congrArg one z.1))]
              exact ⟨s3, np, by rw [fm_snoc hmj, e3, Option.toList, List.append_nil]; exact hp⟩
          · rintro p H3 ⟨s3, np, hp⟩
            rw [hus, List.take_length] at hp
            walk_at "go"
            refine w_newL (by decide) (fun p2 H4 hp4 np4 => ?_)
            refine w_neNilI (np4.at hp) hp4 ?_
            walk_at "go"
            cases e5 : ms.filterMap (hitG (c + 32) y) with
            | nil =>
              rw [e5] at e1
              have e1 : ledM (stp (LM ms)) ((tl z).take (i + 1)) x = none := e1
              refine w_ifEF ?_
              walk_at "go"
              exact ⟨_, _, _, _, _, by rw [e1]; rfl, (s2.trans s3).nw np4⟩
            | cons u r =>
              rw [e5] at e1 hp
              have e1 : ledM (stp (LM ms)) ((tl z).take (i + 1)) x = some u := e1
              refine w_ifET ?_
              walk_at "go"
              refine w_ixL (np4.at hp) (at_of (j := 0) rfl rfl) ?_
              walk_at "go"
              exact ⟨_, _, _, _, _, by rw [e1]; rfl, (s2.trans s3).nw np4⟩
    · rintro σ H2 ⟨y3, y4, y5, y6, y7, rfl, s2⟩
      rw [List.take_length]
      walk_at "go"
      exact q _ s2
end
end Sf
namespace Sf
open PySem PySem.Spec PyProof.Rows L2 TL
def HasMX (P : Program) (w : World) (K : PySem.W.Frag) (mg : Str → Option Value) (base : Heap) (C : Addr) (k : Nat) (m : Str) (ps : List Str) (sp : Sp) : Prop :=
  ∃ (f : Addr) (fd : FuncData), Meth K C m f ∧ Binds K fd ps [] ∧ FnOk P w K mg base (L2.CX P w) k f fd ps sp
def HasX (P : Program) (w : World) (K : PySem.W.Frag) (mg : Str → Option Value) (base : Heap) (k : Nat) (x : Str) (ps : List Str) (sp : Sp) : Prop :=
  ∃ (f : Addr) (fd : FuncData), mg x = some (.ref f) ∧ PySem.W.keepIn K (.ref f) = true ∧ Binds K fd ps [] ∧ FnOk P w K mg base (L2.CX P w) k f fd ps sp
end Sf
namespace Sf
open PySem PySem.Spec PyProof.Rows L2 TL
/-! ### a method whose last parameter has a default -/
theorem vals_i {i : Int} {t : Tok} : Vals [V.int i] [Value.int i t] := .cons ⟨t, rfl⟩ .nil
def MAtD (K : PySem.W.Frag) (C : Addr) (m q : Str) (st : Stmt) (ps : List Str) (dv : Value) : Prop := ∃ (f : Addr) (fd : FuncData), Meth K C m f ∧ FunD K m q st f fd ∧ Binds K fd ps [] ∧ Binds K fd ps [dv]
def HasMD (P : Program) (w : World) (K : PySem.W.Frag) (mg : Str → Option Value) (base : Heap) (C : Addr) (k : Nat) (m : Str) (ps : List Str) (dv : Value) (sp : Sp) : Prop :=
  ∃ (f : Addr) (fd : FuncData), Meth K C m f ∧ Binds K fd ps [] ∧ Binds K fd ps [dv] ∧ FnOk P w K mg base CX0 k f fd ps sp
theorem MAtD.has {P : Program} {w : World} {K : PySem.W.Frag} {mg : Str → Option Value} {base : Heap} {C : Addr} {k : Nat} {m q : Str} {st : Stmt} {ps : List Str} {dv : Value} {sp : Sp} (h : MAtD K C m q st ps dv)
    (ok : ∀ {f : Addr} {fd : FuncData}, FunD K m q st f fd → FnOk P w K mg base CX0 k f fd ps sp) : HasMD P w K mg base C k m ps dv sp := by
  obtain ⟨f, fd, g, F, b, bd⟩ := h
  exact ⟨f, fd, g, b, bd, ok F⟩
theorem mAtD_mk {K : PySem.W.Frag} {C T : Addr} {m q : Str} {st : Stmt} {ps : List Str} {dv : Value} {f : Addr} {oc : Value} {od an : Option Addr} {osl : Array (Option Value)} {kV doc pm cdv ct : Value} {o : Obj} {n : Nat}
    (a : PySem.W.findIn K (.ref C) m = some (some (.ref f))) (i : PySem.W.isFn K (.ref f) = true) (l : K.lookup f = some ⟨oc, od, .func (PySem.W.fnOf m q (defArgs st) (defBody st) (defScope st) (.ref T) kV doc pm an cdv ct), osl⟩)
    (c : PySem.W.codeIn K cdv q = true) (k : PySem.W.keepIn K (.ref f) = true) (ho : K.lookup T = some o) (hs : o.data = .seq #[dv] n)
    (b : ∀ (kV doc pm : Value) (an : Option Addr) (cdv ct : Value) (s : Shared) (us : List Value), K.In s.heap → us.length = ps.length → BindsTo s (PySem.W.fnOf m q (defArgs st) (defBody st) (defScope st) (.ref T) kV doc pm an cdv ct) ⟨us, []⟩ (ps.zip us))
    (bd : ∀ (kV doc pm : Value) (an : Option Addr) (cdv ct : Value) (s : Shared) (us : List Value), K.In s.heap → (us ++ [dv]).length = ps.length → BindsTo s (PySem.W.fnOf m q (defArgs st) (defBody st) (defScope st) (.ref T) kV doc pm an cdv ct) ⟨us, []⟩ (ps.zip (us ++ [dv]))) : MAtD K C m q st ps dv :=
  ⟨f, _, ⟨a, i, k⟩, ⟨⟨oc, od, .ref T, kV, doc, pm, an, cdv, ct, osl, rfl, l, c⟩, k⟩, fun s us X hl => by
    rw [List.append_nil] at hl ⊢
    exact b kV doc pm an cdv ct s us X hl, fun s us X hl => bd kV doc pm an cdv ct s us X hl⟩
theorem go_binds {K : PySem.W.Frag} {T : Addr} {o : Obj} {dv : Value} {n : Nat} (ho : K.lookup T = some o) (hs : o.data = .seq #[dv] n) (kV doc pm : Value) (an : Option Addr) (cdv ct : Value) (s : Shared) (us : List Value) (X : K.In s.heap) (hl : us.length = 3) :
    BindsTo s (PySem.W.fnOf "go" "World.go" (defArgs s_World_go) (defBody s_World_go) (defScope s_World_go) (.ref T) kV doc pm an cdv ct) ⟨us, []⟩ ((["self", "word", "place"] : List Str).zip us) := by
  match us, hl with
  | [_, _, _], _ => exact PySem.W.binds_K X rfl ho hs rfl rfl
theorem go_bindsD {K : PySem.W.Frag} {T : Addr} {o : Obj} {dv : Value} {n : Nat} (ho : K.lookup T = some o) (hs : o.data = .seq #[dv] n) (kV doc pm : Value) (an : Option Addr) (cdv ct : Value) (s : Shared) (us : List Value) (X : K.In s.heap) (hl : (us ++ [dv]).length = 3) :
    BindsTo s (PySem.W.fnOf "go" "World.go" (defArgs s_World_go) (defBody s_World_go) (defScope s_World_go) (.ref T) kV doc pm an cdv ct) ⟨us, []⟩ ((["self", "word", "place"] : List Str).zip (us ++ [dv])) := by
  have hl : us.length = 2 := by
    rw [List.length_append] at hl
    have : [dv].length = 1 := rfl
    omega
  match us, hl with
  | [_, _], _ => exact PySem.W.binds_K X rfl ho hs rfl rfl
end Sf
namespace Sf
open PySem PySem.Spec PyProof.Rows L2 TL
section
variable {P : Program} {w : World} {K : PySem.W.Frag} {mg : Str → Option Value} {base : Heap} {C CS fS CW fW : Addr} {fdW : FuncData}
/-! ### BadWord -/
theorem sc_bwd : FnScope ["self"] ["self"] (defScope s_BadWord___init__) := ⟨rfl, rfl, rfl, by decide +kernel, rfl, by decide +kernel, by decide +kernel⟩
theorem ok_bwd {f : Addr} {fd fdS : FuncData} (F : Fun K "__init__" "BadWord.__init__" s_BadWord___init__ f fd) (S : SE K mg CS fS) (FS : FunD K "__init__" "SpoorError.__init__" s_SpoorError___init__ fS fdS) (bS : Binds K fdS ["self", "word", "message"] []) : FnOk P w K mg base CX0 2 f fd ["self"] (spEx K (Str.ofString "badword")) := by
  refine F.ok sc_bwd (fun vs H Q E h => ?_) (fun cdv A outer s H vs Q E hr h => ?_)
  · obtain ⟨a, C, rfl, _⟩ := h
    rfl
  · obtain ⟨a, C, rfl, ox, nw, ha, q⟩ := h
    have GS : FnOk P w K mg base CX0 1 fS fdS ["self", "word", "message"] (spSE K) := ok_se FS S
    refine ⟨_, pss_one (ps_expr (pe_clsFn (pe_glob (v := .ref CS) (by rfl) S.gC rfl) S.rd S.ga S.at_ GS hr FS.kp bS pass0 (pa_cons (pv 0) (pa_cons pe_str (pa_cons pe_str pa_nil))))), ?_⟩
    exact ⟨rfl, _, rfl, a, C, _, _, rfl, ox, nw, ha, fun dx n ne => q dx n ne⟩
/-- BadWord is raised -/
def XEw (CW : Addr) (H : Hp) (E : XK) : Prop := ∀ (d : Addr) (H' : Hp), H d = none → H' d = some (.xd [(("word" : Str), .str (Str.ofString "badword"))]) → Same H H' → E (.ref CW) (some d) H'
theorem XEw.same {H H1 : Hp} {E : XK} (h : XEw CW H E) (s : Same H H1) : XEw CW H1 E := fun d H' nd hd s' => h d H' (s.free nd) hd (s.trans s')
def spNeX (CW : Addr) : Sp := fun vs H Q E => ∃ x : Str, vs = [.str x] ∧ x.length ≤ 100000 ∧ (isW x = true → ∀ H', Same H H' → Q .non H') ∧ (isW x = false → XEw CW H E)
theorem has_neX (F : FnAt K mg "need_word" s_need_word ["text"]) (h_Iw : HasIsWord P w K mg base) (T_BadWord : EC K mg "BadWord" CW fW) (G_BadWord : FnOk P w K mg base CX0 2 fW fdW ["self"] (spEx K (Str.ofString "badword"))) (b_BadWord : Binds K fdW ["self"] []) : HasX P w K mg base 4 "need_word" ["text"] (spNeX CW) := by
  obtain ⟨f, fd, g, F, bb⟩ := F
  refine ⟨f, fd, g, F.kp, bb, ?_⟩
  obtain ⟨f_Iw, fd_Iw, g_Iw, k_Iw, b_Iw, G_Iw⟩ := h_Iw
  refine F.okX sc_need (fun vs H Q E h => ?_) (fun cdv A outer s H vs Q E hr h => ?_)
  · obtain ⟨x, rfl, _⟩ := h
    rfl
  · obtain ⟨x, rfl, hx, q1, q2⟩ := h
    refine ⟨_, (pss_one (ps_if (pt_not (pt_val (pe_call G_Iw (hr.mono (by decide)) (by rfl) g_Iw k_Iw b_Iw .nil pass0 (pa_cons (pv 0) pa_nil)))) (pss_one (ps_raise rfl (takes_of rfl rfl rfl rfl) (pmk_oex0 T_BadWord.ox T_BadWord.iC T_BadWord.tI G_BadWord (hr.mono (by decide)) b_BadWord pass0 (by rfl) T_BadWord.gC))) pss_nil)), ?_⟩
    walk_at "go"
    refine ⟨x, rfl, hx, fun H1 s1 => ?_⟩
    cases e : isW x with
    | true =>
      walk_at "go"
      exact q1 e H1 s1
    | false =>
      walk_at "go"
      exact w_mkO T_BadWord (fun d H' nd hd s' => q2 e d H' (s1.free nd) hd (s1.trans s'))
end
end Sf
namespace Sf
open PySem PySem.Spec PyProof.Rows L2 TL
section
variable {P : Program} {w : World} {K : PySem.W.Frag} {mg : Str → Option Value} {base : Heap} {C CN fN CW fW : Addr} {fdN fdW : FuncData}
def HasMXD (P : Program) (w : World) (K : PySem.W.Frag) (mg : Str → Option Value) (base : Heap) (C : Addr) (k : Nat) (m : Str) (ps : List Str) (dv : Value) (sp : Sp) : Prop :=
  ∃ (f : Addr) (fd : FuncData), Meth K C m f ∧ Binds K fd ps [] ∧ Binds K fd ps [dv] ∧ FnOk P w K mg base (L2.CX P w) k f fd ps sp
theorem FunD.okX {x qual : Str} {st : Stmt} {f : Addr} {fd : FuncData} {N ps : List Str} {k : Nat} {sp : Sp} (F : FunD K x qual st f fd) (S : FnScope N ps (defScope st)) (len : ∀ vs H Q E, sp vs H Q E → vs.length = ps.length)
    (hbody : ∀ (cdv : Value) (A : Around) (outer : List Env) (s : Shared) (H : Hp) (vs : List V) (Q : VK) (E : XK), Room k (A.deeper (envOfC qual (defScope st) s.heap.objs.size f cdv)) → sp vs H Q E →
      ∃ t, PSs (cxOf (L2.CX P w) P w K mg base N qual (defScope st) f cdv A outer s H E) (defBody st) t ∧ t { nx := fun _ H' => Q .non H', rt := Q } (start N vs) H) : FnOk P w K mg base (L2.CX P w) (k + 1) f fd ps sp := by
  obtain ⟨oc, od, dV, kV, doc, pm, an, cdv, ct, osl, rfl, lk, hcd⟩ := F.ex
  exact fn_of lk hcd S len fun A outer s H vs Q E hr hsp => hbody cdv A outer s H vs Q E hr hsp
/-- NoPlace is raised -/
def XEp (CN : Addr) (x : Int) (H : Hp) (E : XK) : Prop := ∀ (d : Addr) (H' : Hp), H d = none → H' d = some (.xd [(("place" : Str), .int x), (("word" : Str), .str (Str.ofString "noplace"))]) → Same H H' → E (.ref CN) (some d) H'
theorem XEp.same {x : Int} {H H1 : Hp} {E : XK} (h : XEp CN x H E) (s : Same H H1) : XEp CN x H1 E := fun d H' nd hd s' => h d H' (s.free nd) hd (s.trans s')
theorem log_big {x : Int} (h0 : -1000000000000 ≤ x) (h1 : x ≤ 1000000000000) : x.natAbs.log2 < 1920 := by
  by_cases hz : x = 0
  · rw [hz]; decide
  · refine Nat.lt_trans ((Nat.log2_lt (k := 40) (by omega)).mpr (by show x.natAbs < 2 ^ 40; omega)) (by decide)
def spNplX (C CN : Addr) : Sp := fun vs H Q E => ∃ (p : Addr) (n x : Int) (L : Nat → List (Int × Int)), vs = [.ref p, .int x] ∧ WAt C H p n L ∧ -1000000000000 ≤ x ∧ x ≤ 1000000000000 ∧ (0 ≤ x ∧ x < n → Q .non H) ∧ (¬ (0 ≤ x ∧ x < n) → XEp CN x H E)
theorem sc_npl : FnScope ["self", "place"] ["self", "place"] (defScope s_World_need_place) := ⟨rfl, rfl, rfl, by decide +kernel, rfl, by decide +kernel, by decide +kernel⟩
theorem has_nplX (F : MAt K C "need_place" "World.need_place" s_World_need_place ["self", "place"]) (B : Blt mg) (T_World : WC K mg C) (h_Up : HasUp P w K mg base) (T_NoPlace : EL K mg "NoPlace" CN fN) (nP : PySem.W.findIn K (.ref CN) "place" = some none)
    (G_NoPlace : FnOk P w K mg base CX0 2 fN fdN ["self", "place"] (spExL K (Str.ofString "noplace") "place")) (b_NoPlace : Binds K fdN ["self", "place"] []) : HasMX P w K mg base C 4 "need_place" ["self", "place"] (spNplX C CN) := by
  obtain ⟨f, fd, g, F, bb⟩ := F
  refine ⟨f, fd, g, bb, ?_⟩
  obtain ⟨f_Up, fd_Up, g_Up, k_Up, b_Up, G_Up⟩ := h_Up
  refine F.okX sc_npl (fun vs H Q E h => ?_) (fun cdv A outer s H vs Q E hr h => ?_)
  · obtain ⟨p, n, x, L, rfl, _⟩ := h
    rfl
  · obtain ⟨p, n, x, L, rfl, ⟨dx, pl, ld, d, hp, hpl, hL⟩, x0, x1, q1, q2⟩ := h
    refine ⟨_, (pss_one (ps_if (pt_not (pt_val (pe_call G_Up (hr.mono (by decide)) (by rfl) g_Up k_Up b_Up .nil pass0 (pa_cons (pv 1) (pa_cons (pe_op op_sub (pe_callB call_lenQ (by rfl) B.len PySem.boot_len (pa_cons (pe_fld (pv 0) rfl) pa_nil)) pe_int) pa_nil))))) (pss_one (ps_raise rfl (takes_of rfl rfl rfl rfl) (pmk_oexL T_NoPlace.ox T_NoPlace.iC T_NoPlace.tI G_NoPlace (hr.mono (by decide)) b_NoPlace pass0 (by rfl) T_NoPlace.gC (pa_cons (pv 1) pa_nil)))) pss_nil)), ?_⟩
    rw [rgV_plc] at hpl
    walk_at "go"
    refine w_kFld hp T_World.cl T_World.nP (wf_places _ _) ?_
    walk_at "go"
    refine ⟨_, _, rfl, trivial, ?_⟩
    by_cases hx : 0 ≤ x ∧ x < n
    · rw [upB_true hx.1 (by rw [List.length_map, plc_len]; omega)]
      walk_at "go"
      exact q1 hx
    · have e : upB (.int x) (((plc n).map V.int).length - 1 : Int) = false := by
        show (decide (0 ≤ x) && decide (x ≤ _)) = false
        rw [List.length_map, plc_len]
        rw [Bool.and_eq_false_iff, decide_eq_false_iff_not, decide_eq_false_iff_not]
        omega
      rw [e]
      walk_at "go"
      refine w_mkOL ?_
      walk_at "go"
      exact w_kMkL T_NoPlace nP (log_big x0 x1) (q2 hx)
/-- go, in all three cases -/
def spGoX (C CN CW : Addr) : Sp := fun vs H Q E => ∃ (p : Addr) (n x : Int) (L : Nat → List (Int × Int)) (z : Str), vs = [.ref p, .str z, .int x] ∧ WAt C H p n L ∧ z.length ≤ 100000 ∧ -1000000000000 ≤ x ∧ x ≤ 1000000000000 ∧ (isW z = false → XEw CW H E) ∧
  (isW z = true → ¬ (0 ≤ x ∧ x < n) → XEp CN x H E) ∧ (isW z = true → 0 ≤ x ∧ x < n → ∀ H', Same H H' → Q (oV (ledM (stp L) (tl z) x)) H')
theorem sc_go : FnScope ["self", "word", "place"] ["self", "word", "place"] (defScope s_World_go) := ⟨rfl, rfl, rfl, by decide +kernel, rfl, by decide +kernel, by decide +kernel⟩
theorem isWX {x : Str} (h : isW x = true) : Wd x := by
  unfold isW at h
  unfold Wd
  rw [Bool.and_eq_true, List.all_eq_true] at h
  exact h.2
theorem has_goX {dv : Value} (F : MAtD K C "go" "World.go" s_World_go ["self", "word", "place"] dv) (T_World : WC K mg C) (h_Ne : HasX P w K mg base 4 "need_word" ["text"] (spNeX CW)) (h_Npl : HasMX P w K mg base C 4 "need_place" ["self", "place"] (spNplX C CN)) (h_Led : HasM P w K mg base C 1 "led" ["self", "word", "place"] (spLed C)) : HasMXD P w K mg base C 5 "go" ["self", "word", "place"] dv (spGoX C CN CW) := by
  obtain ⟨f, fd, g, F, bb, bd⟩ := F
  refine ⟨f, fd, g, bb, bd, ?_⟩
  obtain ⟨f_Ne, fd_Ne, g_Ne, k_Ne, b_Ne, G_Ne⟩ := h_Ne
  obtain ⟨f_Npl, fd_Npl, m_Npl, b_Npl, G_Npl⟩ := h_Npl
  obtain ⟨f_Led, fd_Led, m_Led, b_Led, G_Led⟩ := h_Led
  refine F.okX sc_go (fun vs H Q E h => ?_) (fun cdv A outer s H vs Q E hr h => ?_)
  · obtain ⟨p, n, x, L, z, rfl, _⟩ := h
    rfl
  · obtain ⟨p, n, x, L, z, rfl, hW, hz, x0, x1, qw, qp, q⟩ := h
    refine ⟨_, (pss_cons (ps_expr (pe_call G_Ne (hr.mono (by decide)) (by rfl) g_Ne k_Ne b_Ne .nil (passes_call (takes_of rfl rfl rfl rfl) (fun _ _ _ _ h => h)) (pa_cons (pv 1) pa_nil))) (pss_cons (ps_expr (pe_meth (pv 0) T_World.cl m_Npl G_Npl (hr.mono (by decide)) b_Npl .nil (passes_call (takes_of rfl rfl rfl rfl) (fun _ _ _ _ h => h)) (pa_cons (pv 2) pa_nil))) (pss_one (ps_ret (pe_meth (pv 0) T_World.cl m_Led G_Led (hr.mono (by decide)) b_Led .nil pass0 (pa_cons (pv 1) (pa_cons (pv 2) pa_nil))))))), ?_⟩
    obtain ⟨dx, pl, ld, d, hp, hpl, hL⟩ := id hW
    walk_at "go"
    refine ⟨z, rfl, hz, fun e H1 s1 => ?_, fun e => qw e⟩
    walk_at "go"
    refine w_kMeth (s1.at hp) (wf_no _ _ (by decide +kernel) (by decide +kernel)) ?_
    walk_at "go"
    refine ⟨p, n, x, L, rfl, hW.same s1, x0, x1, fun hx => ?_, fun hx => (qp e hx).same s1⟩
    walk_at "go"
    refine w_kMeth (s1.at hp) (wf_no _ _ (by decide +kernel) (by decide +kernel)) ?_
    walk_at "go"
    exact ⟨p, n, x, L, z, rfl, hW.same s1, isWX e, q e hx H1 s1⟩
end
end Sf
namespace Sf
open PySem PySem.Spec PyProof.Rows L2 TL
section
variable {P : Program} {w : World} {K : PySem.W.Frag} {mg : Str → Option Value} {base : Heap} {C : Addr}
/-- the motion of a word -/
def motV (L : Nat → List (Int × Int)) (n : Int) (z : Str) : List V := (plc n).map fun x => oV (ledM (stp L) (tl z) x)
theorem flat_oV (o : Option Int) : flat4 (oV o) = true := by cases o <;> rfl
theorem eqv_map {H : Hp} {t t' : Addr} {l : List V} (h : H t = some (.tup l)) (h' : H t' = some (.tup l)) (hf : ∀ x ∈ l, flat4 x = true) (hl : l.length ≤ 100000) {n : Nat} : Eqv H (n + 1) (.ref t) (.ref t') := by
  refine .inr ⟨t, t', l, l, rfl, rfl, .inr ⟨h, h'⟩, rfl, hl, fun j x y hx hy => ?_⟩
  rw [hx] at hy
  cases hy
  exact .flat (hf x (List.mem_of_getElem? hx))
theorem eqv_mot {H : Hp} {t t' : Addr} {L : Nat → List (Int × Int)} {n : Int} {z : Str} (h : H t = some (.tup (motV L n z))) (h' : H t' = some (.tup (motV L n z))) (hn : n ≤ 1000) {k : Nat} : Eqv H (k + 1) (.ref t) (.ref t') := by
  refine eqv_map h h' (fun x hx => ?_) ?_
  · obtain ⟨y, _, rfl⟩ := List.mem_map.mp hx
    exact flat_oV _
  · unfold motV
    rw [List.length_map, plc_len]
    omega
/-! ### World.motion -/
def spMo (C : Addr) : Sp := fun vs H Q _ => ∃ (p : Addr) (n : Int) (L : Nat → List (Int × Int)) (z : Str), vs = [.ref p, .str z] ∧ WAt C H p n L ∧ Wd z ∧ z.length ≤ 60 ∧ n ≤ 1000 ∧
  ∀ (t : Addr) (H' : Hp), H t = none → Same H H' → H' t = some (.tup (motV L n z)) → Q (.ref t) H'
theorem sc_mo : FnScope ["self", "word", "place"] ["self", "word"] (defScope s_World_motion) := ⟨rfl, rfl, rfl, by decide +kernel, rfl, by decide +kernel, by decide +kernel⟩
theorem has_mo (F : MAt K C "motion" "World.motion" s_World_motion ["self", "word"]) (B : Blt mg) (T_World : WC K mg C) (h_Ne : HasNeed P w K mg base) (h_Led : HasM P w K mg base C 1 "led" ["self", "word", "place"] (spLed C)) : HasM P w K mg base C 3 "motion" ["self", "word"] (spMo C) := F.has fun F => by
  obtain ⟨f_Ne, fd_Ne, g_Ne, k_Ne, b_Ne, G_Ne⟩ := h_Ne
  obtain ⟨f_Led, fd_Led, m_Led, b_Led, G_Led⟩ := h_Led
  refine F.ok sc_mo (fun vs H Q E h => ?_) (fun cdv A outer s H vs Q E hr h => ?_)
  · obtain ⟨p, n, L, z, rfl, _⟩ := h
    rfl
  · obtain ⟨p, n, L, z, rfl, hW, hz, hzl, hn, q⟩ := h
    refine ⟨_, (pss_cons (ps_expr (pe_call G_Ne (hr.mono (by decide)) (by rfl) g_Ne k_Ne b_Ne .nil pass0 (pa_cons (pv 1) pa_nil))) (pss_one (ps_ret (pe_callTy call_tupO (by rfl) B.tuple (by decide +kernel) (pa_cons (pe_lc (own := [("place", 2)]) (g := gName 2) (tt := tYes) (by rfl) sc_mo.nd (pi_list (pe_fld (pv 0) rfl)) (blkOk_by (own := [("place", 2)]) (N := ["self", "word", "place"]) (sc := defScope s_World_motion) (by decide +kernel)) (fun _ _ _ _ _ => pg_name (i := 2) sc_mo.nd rfl (.inl rfl)) (fun _ _ _ _ _ => pts_nil) (fun _ _ _ _ _ => (pe_meth (pv 0) T_World.cl m_Led G_Led (hr.mono (by decide)) b_Led .nil pass0 (pa_cons (pv 1) (pa_cons (pv 2) pa_nil))))) pa_nil))))), ?_⟩
    have hW0 := hW
    obtain ⟨dx, pl, ld, d, hp, hpl, hL⟩ := hW0
    rw [rgV_plc] at hpl
    walk_at "go"
    refine ⟨z, rfl, hz, hzl, fun H1 s1 => ?_⟩
    have hp1 := s1.at hp
    have hpl1 := s1.at hpl
    walk_at "go"
    refine w_kFld hp1 T_World.cl T_World.nP (wf_places _ _) ?_
    walk_at "go"
    refine w_lcL (xs := (plc n).map V.int) (fun r i H2 => Same H1 H2 ∧ H1 r = none ∧ H2 r = some (.lst (((plc n).take i).map fun x => oV (ledM (stp L) (tl z) x)))) (fun r H2 hr nr => ⟨nr.same, nr.nn, hr⟩) (fun r i H2 _ h => h.1.at hpl1) ?_ ?_
    · rintro r i v H2 hv ⟨s2, nr, hr2⟩
      obtain ⟨x, hx, rfl⟩ : ∃ x, (plc n)[i]? = some x ∧ V.int x = v := by
        rw [List.getElem?_map, Option.map_eq_some_iff] at hv
        exact hv
      walk_at "go"
      refine w_kMeth (s2.at hp1) (wf_no _ _ (by decide +kernel) (by decide +kernel)) ?_
      walk_at "go"
      refine ⟨p, n, x, L, z, rfl, (hW.same s1).same s2, hz, ?_⟩
      refine w_kIt hr2 ?_ (fun H3 h3 o3 => ⟨s2.off o3 nr, nr, ?_⟩)
      · rw [List.length_map, List.length_take, plc_len]
        exact lineLt_of (by omega)
      · rw [h3, take_snoc hx, List.map_append]
        rfl
    · rintro r H2 ⟨s2, nr, hr2⟩
      rw [List.length_map, List.take_length] at hr2
      walk_at "go"
      refine w_tupL hr2 (fun t H3 ht3 nt3 => ?_)
      exact q t H3 ((s1.trans s2).free nt3.nn) ((s1.trans s2).nw nt3) ht3
/-! ### _law_motion -/
def spLmo : Sp := fun vs H Q _ => ∃ (n : Int) (a : Addr) (us : List V) (ms : List Mv) (z : Str), vs = [.int n, .ref a, .str z] ∧ 0 ≤ n ∧ n ≤ 1000 ∧ H a = some (.lst us) ∧ MvsAt H us ms ∧ (∀ m ∈ ms, 97 ≤ m.1 ∧ m.1 ≤ 104) ∧ ms.length ≤ 100000 ∧ Wd z ∧
  ∀ (t : Addr) (H' : Hp), H t = none → Same H H' → H' t = some (.tup (motV (LM ms) n z)) → Q (.ref t) H'
abbrev HasLmo (P : Program) (w : World) (K : PySem.W.Frag) (mg : Str → Option Value) (base : Heap) : Prop := Has P w K mg base 2 "_law_motion" ["_law_many", "_law_moves", "_law_word_here"] spLmo
theorem sc_lmo : FnScope ["_law_many", "_law_moves", "_law_word_here", "_law_place"] ["_law_many", "_law_moves", "_law_word_here"] (defScope s__law_motion) := ⟨rfl, rfl, rfl, by decide +kernel, rfl, by decide +kernel, by decide +kernel⟩
theorem has_lmo (F : FnAt K mg "_law_motion" s__law_motion ["_law_many", "_law_moves", "_law_word_here"]) (B : Blt mg) (h_Lld : HasLld P w K mg base) : HasLmo P w K mg base := F.has fun F => by
  obtain ⟨f_Lld, fd_Lld, g_Lld, k_Lld, b_Lld, G_Lld⟩ := h_Lld
  refine F.ok sc_lmo (fun vs H Q E h => ?_) (fun cdv A outer s H vs Q E hr h => ?_)
  · obtain ⟨n, a, us, ms, z, rfl, _⟩ := h
    rfl
  · obtain ⟨n, a, us, ms, z, rfl, n0, n1, ha, hm, hms, hlen, hz, q⟩ := h
    refine ⟨_, (pss_one (ps_ret (pe_callTy call_tupO (by rfl) B.tuple (by decide +kernel) (pa_cons (pe_lc (own := [("_law_place", 3)]) (g := gName 3) (tt := tYes) (by rfl) sc_lmo.nd (pi_range1 rfl B.range (pa_cons (pv 0) pa_nil)) (blkOk_by (own := [("_law_place", 3)]) (N := ["_law_many", "_law_moves", "_law_word_here", "_law_place"]) (sc := defScope s__law_motion) (by decide +kernel)) (fun _ _ _ _ _ => pg_name (i := 3) sc_lmo.nd rfl (.inl rfl)) (fun _ _ _ _ _ => pts_nil) (fun _ _ _ _ _ => (pe_call G_Lld (hr.mono (by decide)) (by rfl) g_Lld k_Lld b_Lld .nil pass0 (pa_cons (pv 1) (pa_cons (pv 2) (pa_cons (pv 3) pa_nil)))))) pa_nil)))), ?_⟩
    walk_at "go"
    refine w_kRng1 (by omega) (by omega) ?_
    refine w_lcR (lo := 0) (fun r i H2 => Same H H2 ∧ H r = none ∧ H2 r = some (.lst (((plc n).take i).map fun x => oV (ledM (stp (LM ms)) (tl z) x)))) (fun r H2 hr nr => ⟨nr.same, nr.nn, hr⟩) ?_ ?_
    · rintro r i H2 hi ⟨s2, nr, hr2⟩
      have hx := plc_at hi
      walk_at "go"
      refine ⟨a, us, ms, z, _, rfl, s2.at ha, hm.tps (.of s2), hms, hlen, hz, fun H3 s3 => ?_⟩
      refine w_kIt (s3.at hr2) ?_ (fun H4 h4 o4 => ⟨(s2.trans s3).off o4 nr, nr, ?_⟩)
      · rw [List.length_map, List.length_take, plc_len]
        exact lineLt_of (by omega)
      · rw [h4, take_snoc hx, List.map_append]
        rfl
    · rintro r H2 ⟨s2, nr, hr2⟩
      rw [← plc_len, List.take_length] at hr2
      walk_at "go"
      refine w_tupL hr2 (fun t H3 ht3 nt3 => ?_)
      exact q t H3 (s2.free nt3.nn) (s2.nw nt3) ht3
end
end Sf
namespace Sf
open PySem PySem.Spec PyProof.Rows L2 TL
section
variable {P : Program} {w : World} {K : PySem.W.Frag} {mg : Str → Option Value} {base : Heap} {C CNoPlace fN CBadWord fW CL CM : Addr} {dv : Value}
theorem ix_listK {X : Cx} {K' : PySem.W.Frag} (h : X.K = K') : IxR X (rIxL K') := by
  subst h
  exact ix_list
/-! ### a method that may raise, called in a try: the slots are known still -/
def tMethS (C : Addr) (m : Str) (sp : Sp) (E : L2.St → XK) (ta : TE) (t : TA) : TE := fun σ H Q => ta σ H (kMeth C m sp [] (E σ) t σ Q)
theorem w_methS {H : Hp} {σ : L2.St} {Q : VK} {m : Str} {sp : Sp} {E : L2.St → XK} {ta : TE} {t : TA} (q : ta σ H (kMeth C m sp [] (E σ) t σ Q)) : tMethS C m sp E ta t σ H Q := q
theorem pe_methS {X : Cx} {CX : CXT} {k : Nat} {f C : Addr} {fd : FuncData} {ps : List Str} {sp : Sp} {E : L2.St → XK} {m : Str} {pos apos : Pos} {e o : Expr} {es : List Expr} {ta : TE} {t : TA} {pl : Sem Bool} (he : PE X o ta) (c : Cls X.K C) (hm : Meth X.K C m f) (F : FnOk X.prog X.w X.K X.mg X.base CX k f fd ps sp) (hr : Room k X.A)
    (hb : Binds X.K fd ps []) (hx : ∀ σ, PassesAt CX X σ (E σ)) (ha : PA X (e :: es) t) (hst : starEach (e :: es) X.env = (false, eval e X.env) :: starEach es X.env := by rfl) (hpl : (backTo pos (starEach es X.env)).any (·.1) = false := by rfl)
    (ht : eval (.Call (.Attribute o m apos) (e :: es) [] pos) X.env = (do
      let ov ← eval o X.env
      standAt apos.atName
      let (f, first) ← holding [ov] (getMethod ov m pl)
      callWith pos f first (backTo pos (starEach (e :: es) X.env)) (backToKw pos (keywordEach [] X.env))) := by rfl) : PE X (.Call (.Attribute o m apos) (e :: es) [] pos) (tMethS C m sp E ta t) := by
  refine ⟨fun pins s σ H Q I h => ?_⟩
  refine PySem.W.methodCall_KW (pl := pl) (thn (he.run pins s σ H _ I h) fun u s1 ⟨x, H1, I1, rx, a, dx, fs, ex, ea, l, q⟩ => ?_) ht
  subst ex
  obtain rfl : u = Value.ref a := rx
  refine getmeth_ok I1 ea c hm l (PySem.W.callWith_K (first := [.ref a]) (h₀ := X.base) I.ok.mod.kin hm.kp (thn (ha.run pos pins s1 σ H1 _ I1 q) fun us s2 ⟨vs, H2, I2, r, q2⟩ => ⟨I2.kIn, ?_⟩) hst hpl)
  have q2 : sp (V.ref a :: (vs ++ [])) H2 Q (E σ) := q2
  rw [List.append_nil] at q2
  exact run_fnS (us := .ref a :: us) (vs := .ref a :: vs) F hr hb (hx σ) I2 (.cons rfl r) q2
/-! ### _law_gone -/
def goneV (L : Nat → List (Int × Int)) (n x : Int) (z : Str) : List V := if 0 ≤ x ∧ x < n then [.str (Str.ofString ""), oV (ledM (stp L) (tl z) x)] else [.str (Str.ofString "noplace"), .int x, .bl true, .bl true, .bl false]
def spGone (C : Addr) : Sp := fun vs H Q _ => ∃ (p : Addr) (n x : Int) (L : Nat → List (Int × Int)) (z : Str), vs = [.ref p, .str z, .int x] ∧ WAt C H p n L ∧ isW z = true ∧ z.length ≤ 60 ∧ -1000000000000 ≤ x ∧ x ≤ 1000000000000 ∧
  ∀ (r : Addr) (H' : Hp), Same H H' → H r = none → H' r = some (.lst (goneV L n x z)) → Q (.ref r) H'
theorem sc_gone : FnScope ["_law_world_here", "_law_word_here", "_law_place", "e"] ["_law_world_here", "_law_word_here", "_law_place"] (defScope s__law_gone) := ⟨rfl, rfl, rfl, by decide +kernel, rfl, by decide +kernel, by decide +kernel⟩
theorem has_gone (F : FnAt K mg "_law_gone" s__law_gone ["_law_world_here", "_law_word_here", "_law_place"]) (B : Blt mg) (NLookupError : mg "LookupError" = none) (T_World : WC K mg C) (T_NoPlace : EL K mg "NoPlace" CNoPlace fN) (nNoPlace_place : PySem.W.findIn K (.ref CNoPlace) "place" = some none)
    (xNoPlace : L2.ExcC K CNoPlace) (C_Lacking : mg "Lacking" = some (.ref CL)) (C_NoName : mg "NoName" = some (.ref CM)) (kL : PySem.W.kitOne K (.ref CNoPlace) (.ref CL) = some true) (kE : PySem.W.kitOne K (.ref CNoPlace) (.type "LookupError") = some true) (kM : PySem.W.kitOne K (.ref CNoPlace) (.ref CM) = some false)
    (h_Go : HasMXD P w K mg base C 5 "go" ["self", "word", "place"] dv (spGoX C CNoPlace CBadWord)) : Has P w K mg base 6 "_law_gone" ["_law_world_here", "_law_word_here", "_law_place"] (spGone C) := F.has fun F => by
  obtain ⟨f_Go, fd_Go, m_Go, b_Go, bd_Go, G_Go⟩ := h_Go
  refine F.ok sc_gone (fun vs H Q E h => ?_) (fun cdv A outer s H vs Q E hr h => ?_)
  · obtain ⟨p, n, x, L, z, rfl, _⟩ := h
    rfl
  · obtain ⟨p, n, x, L, z, rfl, hW, hz, hzl, x0, x1, q⟩ := h
    refine ⟨_, (pss_one (ps_try_as (i := 3) rfl rfl sc_gone.nd rfl rfl ⟨rfl, by decide, .inl T_NoPlace.gC⟩ takes0 (fun W pn xe tk _ => (pss_one (ps_ret (pe_lst (pa_cons pe_str (pa_cons (pe_meth (pv 0) T_World.cl m_Go G_Go (hr.mono (by decide)) b_Go .nil (passes_len 4 rfl tk) (pa_cons (pv 1) (pa_cons (pv 2) pa_nil))) pa_nil)))))) (fun a oe cls d pn hz hf => (pss_one (ps_ret (pe_lst (pa_cons (pe_xf (C := CNoPlace) T_NoPlace.xf T_NoPlace.nw hz hf (pv 3)) (pa_cons (pe_xf (C := CNoPlace) T_NoPlace.xf nNoPlace_place hz hf (pv 3)) (pa_cons (pe_callB (call_isX xNoPlace hz hf) (by rfl) B.isinstance (by decide +kernel) (pa_cons (pv 3) (pa_cons (pe_glob (v := .ref CL) (by rfl) C_Lacking rfl) pa_nil))) (pa_cons (pe_callB (call_isX xNoPlace hz hf) (by rfl) B.isinstance (by decide +kernel) (pa_cons (pv 3) (pa_cons (pe_bltn (v := .ty "LookupError") (by rfl) NLookupError (by decide +kernel) rfl) pa_nil))) (pa_cons (pe_callB (call_isX xNoPlace hz hf) (by rfl) B.isinstance (by decide +kernel) (pa_cons (pv 3) (pa_cons (pe_glob (v := .ref CM) (by rfl) C_NoName rfl) pa_nil))) pa_nil))))))))))), ?_⟩
    obtain ⟨dx, pl, ld, d, hp, hpl, hL⟩ := id hW
    walk_at "go"
    refine w_kMeth hp (wf_no _ _ (by decide +kernel) (by decide +kernel)) ?_
    walk_at "go"
    refine ⟨p, n, x, L, z, rfl, hW, by omega, x0, x1, fun e => absurd (hz.symm.trans e) (by decide), fun _ hx d1 H1 nd hd s1 => ?_, fun _ hx H1 s1 => ?_⟩
    · intro σ hσ
      have hσ : σ.length = 4 := hσ
      match σ, hσ with
      | [s0, s1', s2, s3], _ =>
        refine ⟨true, T_NoPlace.te, fun _ a na => ?_, fun z => nomatch z⟩
        refine ⟨_, rfl, rfl, rfl, d1, _, _, rfl, hd, rfl, ?_⟩
        refine ⟨_, rfl, rfl, rfl, d1, _, _, rfl, hd, rfl, ?_⟩
        walk_at "go"
        refine ⟨_, _, _, d1, _, rfl, rfl, rfl, fun _ h => h, hd, kL, ?_⟩
        walk_at "go"
        refine ⟨_, _, _, d1, _, rfl, rfl, rfl, fun _ h => h, hd, kE, ?_⟩
        walk_at "go"
        refine ⟨_, _, _, d1, _, rfl, rfl, rfl, fun _ h => h, hd, kM, ?_⟩
        walk_at "go"
        refine w_newL (by walk_at "sz") (fun r H2 hr nr => ?_)
        refine q r H2 (s1.nw nr) (s1.free nr.nn) ?_
        unfold goneV
        rw [if_neg hx]
        exact hr
    · walk_at "go"
      refine w_newL (by walk_at "sz") (fun r H2 hr nr => ?_)
      refine q r H2 (s1.nw nr) (s1.free nr.nn) ?_
      unfold goneV
      rw [if_pos hx]
      exact hr
end
end Sf
namespace Sf
open PySem PySem.Spec PyProof.Rows L2 TL
section
variable {P : Program} {w : World} {K : PySem.W.Frag} {mg : Str → Option Value} {base : Heap} {C CNoPlace fN CBadWord fW : Addr} {t0 : Tok}
def spLaw (K : PySem.W.Frag) : Sp := fun vs H Q _ => ∃ (a : Addr) (ns : List Int), vs = [.ref a] ∧ SqL K H a (ns.map V.int) ∧ ns.length ≤ 63 ∧ ∀ H', Q (.bl true) H'
theorem sc_law : FnScope ["_law_script", "_law_bag", "_law_turn", "_law_many", "_law_moves", "_law_world_here", "_law_step", "_law_word_here", "_law_place", "_law_due", "_law_worlds", "_law_odd", "e", "_law_found"] ["_law_script"] (defScope s_law) := ⟨rfl, rfl, rfl, by decide +kernel, rfl, by decide +kernel, by decide +kernel⟩
theorem ok_law {f : Addr} {fd : FuncData} (F : Fun K "law" "law" s_law f fd) (B : Blt mg) (T_World : WC K mg C) (mk : PySem.W.makesIn K C = true) (kc : PySem.W.keepIn K (.ref C) = true) (T_BadWord : EC K mg "BadWord" CBadWord fW)
    (h_Be : HasBegin P w K mg base) (h_Pu : HasPull P w K mg base) (h_Wo : HasWord P w K mg base) (h_Lw : HasLw P w K mg base) (h_Sa : HasSame P w K mg base 2) (h_Lld : HasLld P w K mg base) (h_Lmo : HasLmo P w K mg base) (h_Gone : Has P w K mg base 6 "_law_gone" ["_law_world_here", "_law_word_here", "_law_place"] (spGone C))
    (h_WI : HasM P w K mg base C 4 "__init__" ["self", "many", "moves"] (spWI C)) (h_Mo : HasM P w K mg base C 3 "motion" ["self", "word"] (spMo C)) (h_Go : HasMXD P w K mg base C 5 "go" ["self", "word", "place"] (.int 0 t0) (spGoX C CNoPlace CBadWord)) : FnOk P w K mg base CX0 8 f fd ["_law_script"] (spLaw K) := by
  obtain ⟨f_Be, fd_Be, g_Be, k_Be, b_Be, G_Be⟩ := h_Be
  obtain ⟨f_Pu, fd_Pu, g_Pu, k_Pu, b_Pu, G_Pu⟩ := h_Pu
  obtain ⟨f_Wo, fd_Wo, g_Wo, k_Wo, b_Wo, G_Wo⟩ := h_Wo
  obtain ⟨f_Lw, fd_Lw, g_Lw, k_Lw, b_Lw, G_Lw⟩ := h_Lw
  obtain ⟨f_Sa, fd_Sa, g_Sa, k_Sa, b_Sa, G_Sa⟩ := h_Sa
  obtain ⟨f_Lld, fd_Lld, g_Lld, k_Lld, b_Lld, G_Lld⟩ := h_Lld
  obtain ⟨f_Lmo, fd_Lmo, g_Lmo, k_Lmo, b_Lmo, G_Lmo⟩ := h_Lmo
  obtain ⟨f_Gone, fd_Gone, g_Gone, k_Gone, b_Gone, G_Gone⟩ := h_Gone
  obtain ⟨f_WI, fd_WI, m_WI, b_WI, G_WI⟩ := h_WI
  obtain ⟨f_Mo, fd_Mo, m_Mo, b_Mo, G_Mo⟩ := h_Mo
  obtain ⟨f_Go, fd_Go, m_Go, b_Go, bd_Go, G_Go⟩ := h_Go
  have M_WI : Mk K C f_WI := ⟨mk, m_WI.at_, m_WI.fn, kc⟩
  have g_World := T_World.mgC
  refine F.ok sc_law (fun vs H Q E h => ?_) (fun cdv A outer s H vs Q E hr h => ?_)
  · obtain ⟨a, ns, rfl, _⟩ := h
    rfl
  · obtain ⟨a, ns, rfl, hS, hlen, q⟩ := h
    refine ⟨_, (pss_cons (ps_set (i := 1) sc_law.nd rfl (.inl rfl) (pe_call G_Be (hr.mono (by decide)) (by rfl) g_Be k_Be b_Be .nil pass0 (pa_cons (pv 0) pa_nil))) (pss_cons (ps_for PassesOwn.never rfl (pi_range1 rfl B.range (pa_cons pe_int pa_nil)) (pg_name (i := 2) sc_law.nd rfl (.inl rfl)) (pss_cons (ps_asg (pe_call G_Lw (hr.mono (by decide)) (by rfl) g_Lw k_Lw b_Lw .nil pass0 (pa_cons (pv 1) (pa_cons pe_int (pa_cons (pe_slice sl_str pe_str po_none (po_some (pe_op op_add pe_int (pe_call G_Pu (hr.mono (by decide)) (by rfl) g_Pu k_Pu b_Pu .nil pass0 (pa_cons (pv 1) (pa_cons pe_int pa_nil)))))) pa_nil)))) (pg_tup rfl (pgs_cons (pg_name (i := 3) sc_law.nd rfl (.inl rfl)) (pgs_cons (pg_name (i := 4) sc_law.nd rfl (.inl rfl)) pgs_nil)))) (pss_cons (ps_set (i := 5) sc_law.nd rfl (.inl rfl) (pe_make M_WI G_WI (hr.mono (by decide)) (by rfl) g_World b_WI .nil pass0 (pa_cons (pv 3) (pa_cons (pv 4) pa_nil)))) (pss_one (ps_for PassesOwn.never rfl (pi_range1 rfl B.range (pa_cons pe_int pa_nil)) (pg_name (i := 6) sc_law.nd rfl (.inl rfl)) (pss_cons (ps_set (i := 7) sc_law.nd rfl (.inl rfl) (pe_call G_Wo (hr.mono (by decide)) (by rfl) g_Wo k_Wo b_Wo .nil pass0 (pa_cons (pv 1) (pa_cons (pe_ix ix_list (pe_lst (pa_cons pe_int (pa_cons pe_int pa_nil))) (pe_call G_Pu (hr.mono (by decide)) (by rfl) g_Pu k_Pu b_Pu .nil pass0 (pa_cons (pv 1) (pa_cons pe_int pa_nil))) (fun _ _ => rfl)) (pa_cons (pe_op op_add pe_int (pe_call G_Pu (hr.mono (by decide)) (by rfl) g_Pu k_Pu b_Pu .nil pass0 (pa_cons (pv 1) (pa_cons pe_int pa_nil)))) pa_nil))))) (pss_cons (ps_set (i := 8) sc_law.nd rfl (.inl rfl) (pe_ix ix_list (pe_lst (pa_cons (pe_call G_Pu (hr.mono (by decide)) (by rfl) g_Pu k_Pu b_Pu .nil pass0 (pa_cons (pv 1) (pa_cons (pv 3) pa_nil))) (pa_cons (pe_un un_neg pe_int) (pa_cons (pv 3) (pa_cons (pe_op op_add (pv 3) (pe_call G_Pu (hr.mono (by decide)) (by rfl) g_Pu k_Pu b_Pu .nil pass0 (pa_cons (pv 1) (pa_cons (pe_op op_pow pe_int pe_int) pa_nil)))) pa_nil))))) (pe_call G_Pu (hr.mono (by decide)) (by rfl) g_Pu k_Pu b_Pu .nil pass0 (pa_cons (pv 1) (pa_cons pe_int pa_nil))) (fun _ _ => rfl))) (pss_cons (ps_set (i := 9) sc_law.nd rfl (.inl rfl) (pe_lst (pa_cons pe_str (pa_cons (pv 8) (pa_cons pe_bl (pa_cons pe_bl (pa_cons pe_bl pa_nil))))))) (pss_cons (ps_if (pt_chain op_le op_lt pe_int (pv 8) (pv 3)) (pss_one (ps_set (i := 9) sc_law.nd rfl (.inl rfl) (pe_lst (pa_cons pe_str (pa_cons (pe_call G_Lld (hr.mono (by decide)) (by rfl) g_Lld k_Lld b_Lld .nil pass0 (pa_cons (pv 4) (pa_cons (pv 7) (pa_cons (pv 8) pa_nil)))) pa_nil))))) pss_nil) (pss_cons (ps_if (pt_not (pt_val (pe_call G_Sa (hr.mono (by decide)) (by rfl) g_Sa k_Sa b_Sa .nil pass0 (pa_cons (pe_call G_Gone (hr.mono (by decide)) (by rfl) g_Gone k_Gone b_Gone .nil pass0 (pa_cons (pv 5) (pa_cons (pv 7) (pa_cons (pv 8) pa_nil)))) (pa_cons (pv 9) pa_nil))))) (pss_one (ps_ret pe_bl)) pss_nil) (pss_one (ps_if (pt_not (pt_val (pe_call G_Sa (hr.mono (by decide)) (by rfl) g_Sa k_Sa b_Sa .nil pass0 (pa_cons (pe_lst (pa_cons (pe_meth (pv 5) T_World.cl m_Go G_Go (hr.mono (by decide)) bd_Go vals_i (passes_call (E := E0) takes0 (fun _ _ _ _ h => h)) (pa_cons (pv 7) pa_nil)) (pa_cons (pe_meth (pv 5) T_World.cl m_Mo G_Mo (hr.mono (by decide)) b_Mo .nil pass0 (pa_cons (pv 7) pa_nil)) pa_nil))) (pa_cons (pe_lst (pa_cons (pe_call G_Lld (hr.mono (by decide)) (by rfl) g_Lld k_Lld b_Lld .nil pass0 (pa_cons (pv 4) (pa_cons (pv 7) (pa_cons pe_int pa_nil)))) (pa_cons (pe_call G_Lmo (hr.mono (by decide)) (by rfl) g_Lmo k_Lmo b_Lmo .nil pass0 (pa_cons (pv 3) (pa_cons (pv 4) (pa_cons (pv 7) pa_nil)))) pa_nil))) pa_nil))))) (pss_one (ps_ret pe_bl)) pss_nil)))))))))))) (pss_cons (ps_set (i := 10) sc_law.nd rfl (.inl rfl) (pe_lst (pa_cons (pe_make M_WI G_WI (hr.mono (by decide)) (by rfl) g_World b_WI .nil pass0 (pa_cons pe_int (pa_cons (pe_lst (pa_cons (pe_tup (pa_cons pe_str (pa_cons pe_int (pa_cons pe_int pa_nil)))) pa_nil)) pa_nil))) (pa_cons (pe_make M_WI G_WI (hr.mono (by decide)) (by rfl) g_World b_WI .nil pass0 (pa_cons pe_int (pa_cons (pe_lst pa_nil) pa_nil))) pa_nil)))) (pss_cons (ps_for PassesOwn.never rfl (pi_list (pv 10)) (pg_name (i := 5) sc_law.nd rfl (.inl rfl)) (pss_one (ps_for PassesOwn.never rfl (pi_list (pe_lst (pa_cons pe_str (pa_cons pe_str (pa_cons (pe_op op_mulS pe_str pe_int) pa_nil))))) (pg_name (i := 11) sc_law.nd rfl (.inl rfl)) (pss_cons (ps_try_as (i := 12) rfl rfl sc_law.nd rfl rfl ⟨rfl, by decide, .inl T_BadWord.gC⟩ takes0 (fun W pn xe tk _ => (pss_cons (ps_expr (pe_methS (pv 5) T_World.cl m_Go G_Go (hr.mono (by decide)) b_Go (fun σ => passAt tk σ) (pa_cons (pv 11) (pa_cons (pe_ix (ix_listK (K' := K) rfl) (pe_lst (pa_cons pe_int (pa_cons (pe_un un_neg pe_int) pa_nil))) (pe_call G_Pu (hr.mono (by decide)) (by rfl) g_Pu k_Pu b_Pu .nil pass0 (pa_cons (pv 1) (pa_cons pe_int pa_nil))) (fun _ _ => rfl)) pa_nil)))) (pss_one (ps_ret pe_bl)))) (fun a oe cls d pn hz hf => (pss_one (ps_set (i := 13) sc_law.nd rfl (.inl rfl) (pe_xf (C := CBadWord) T_BadWord.xf T_BadWord.nw hz hf (pv 12)))))) (pss_one (ps_if (pt_cmpR op_ne (pv 13) pe_str (nomark _)) (pss_one (ps_ret pe_bl)) pss_nil)))))) (pss_one (ps_ret pe_bl)))))), ?_⟩
    walk_at "go"
    refine ⟨a, ns, rfl, hS, fun b l H1 nb B1 s1 => ?_⟩
    walk_at "go"
    refine w_kRng1 (by decide) (by decide) ?_
    refine w_range (fun i σ H2 => ∃ (y2 y3 y4 y5 y6 y7 y8 y9 y10 y11 y12 y13 : Option V), σ = [some (.ref a), some (.ref b), y2, y3, y4, y5, y6, y7, y8, y9, y10, y11, y12, y13] ∧ Bag H2 b l) ⟨none, none, none, none, none, none, none, none, none, none, none, none, rfl, B1⟩ ?_ ?_
    · rintro i σ H2 hi ⟨y2, y3, y4, y5, y6, y7, y8, y9, y10, y11, y12, y13, rfl, B2⟩
      walk_at "go"
      refine ⟨b, l, 3, rfl, B2, by decide, by decide, fun d H3 d0 d1 B3 f3 => ?_⟩
      walk_at "go"
      refine w_slS (by decide +kernel) ?_
      walk_at "go"
      refine ⟨b, l, 9, _, rfl, B3, by decide, by decide, abc_mem, abc_nd, abc_len, fun t f n us ms H4 ht4 hf4 hm4 ok4 n1 n8 hml hin B4 f4 nf nfb nfl => ?_⟩
      walk_at "go"
      refine w_world hf4 hm4 ok4 (by omega) n1 (by omega) (fun p8 H8 G8 hW8 sG8 hG8 s8 => ?_)
      have nGb : ∀ q o, G8 q = some o → q ≠ b := fun q o e => B4.ne (hG8 q o e)
      walk_at "go"
      refine w_kRng1 (by decide) (by decide) ?_
      refine w_range (fun i σ H2 => ∃ (y2 y6 y7 y8 y9 y10 y11 y12 y13 : Option V), σ = [some (.ref a), some (.ref b), y2, some (.int n), some (.ref f), some (.ref p8), y6, y7, y8, y9, y10, y11, y12, y13] ∧ Bag H2 b l ∧ Same G8 H2 ∧ H2 f = some (.lst us) ∧ MvsAt H2 us ms) ⟨_, _, _, _, _, _, _, _, _, rfl, B4.same s8, sG8, s8.at hf4, hm4.tps (.of s8)⟩ ?_ ?_
      · rintro j σ H9 hj ⟨y2, y6, y7, y8, y9, y10, y11, y12, y13, rfl, B9, sG9, hf9, hm9⟩
        walk_at "go"
        refine w_newL (by walk_at "sz") (fun r1 H10 hr1 nr1 => ?_)
        walk_at "go"
        refine ⟨b, l, 2, rfl, B9.same nr1.same, by decide, by decide, fun d2 H11 d20 d21 B11 f11 => ?_⟩
        walk_at "go"
        obtain ⟨u, hu, hu1, hu2⟩ : ∃ u : Int, atI [V.int 10, V.int 60] d2 = some (.int u) ∧ 10 ≤ u ∧ u ≤ 60 := by
          obtain rfl | rfl : d2 = 0 ∨ d2 = 1 := by omega
          · exact ⟨10, rfl, by decide, by decide⟩
          · exact ⟨60, rfl, by decide, by decide⟩
        refine w_ixL (f11.at (B9.ne nr1.nn) hr1) hu ?_
        walk_at "go"
        refine ⟨b, l, 4, rfl, B11, by decide, by decide, fun d3 H12 d30 d31 B12 f12 => ?_⟩
        walk_at "go"
        refine ⟨b, l, u, _, rfl, B12, by omega, by omega, by omega, by omega, fun z H13 hz hzl B13 f13 => ?_⟩
        have sG13 : Same G8 H13 := fun q o e => f13 q o (f12 q o (f11 q o (nr1.same q o (sG9 q o e)) (nGb q o e)) (nGb q o e)) (nGb q o e)
        have hf13 : H13 f = some (.lst us) := f13.at nfb (f12.at nfb (f11.at nfb (nr1.at hf9)))
        have hm13 : MvsAt H13 us ms := (((hm9.tps (.of nr1.same)).tps (.fx (B9.same nr1.same) f11)).tps (.fx B11 f12)).tps (.fx B12 f13)
        have hzl : z.length ≤ 60 := by omega
        have hzw : isW z = true := by
          unfold isW
          rw [Bool.and_eq_true, List.all_eq_true]
          exact ⟨decide_eq_true hzl, hz⟩
        walk_at "go"
        refine ⟨b, l, n, rfl, B13, by omega, by omega, fun d4 H14 d40 d41 B14 f14 => ?_⟩
        walk_at "go"
        refine ⟨_, _, rfl, rfl, ⟨by decide, by decide⟩, ?_⟩
        walk_at "go"
        refine ⟨b, l, _, rfl, B14, by decide, by decide, fun d5 H15 d50 d51 B15 f15 => ?_⟩
        have d51 : d5 < 1000000000 := d51
        walk_at "go"
        refine w_newL (by walk_at "sz") (fun r2 H16 hr2 nr2 => ?_)
        walk_at "go"
        refine ⟨b, l, 4, rfl, B15.nw nr2, by decide, by decide, fun d6 H17 d60 d61 B17 f17 => ?_⟩
        walk_at "go"
        obtain ⟨x, hx, x0, x1⟩ : ∃ x : Int, atI [V.int d4, V.int (-1), V.int n, V.int (n + d5)] d6 = some (.int x) ∧ -1000000000000 ≤ x ∧ x ≤ 1000000000000 := by
          obtain rfl | rfl | rfl | rfl : d6 = 0 ∨ d6 = 1 ∨ d6 = 2 ∨ d6 = 3 := by omega
          · exact ⟨_, rfl, by omega, by omega⟩
          · exact ⟨_, rfl, by omega, by omega⟩
          · exact ⟨_, rfl, by omega, by omega⟩
          · exact ⟨_, rfl, by omega, by omega⟩
        refine w_ixL (f17.at (B15.ne nr2.nn) hr2) hx ?_
        have sG17 : Same G8 H17 := fun q o e => f17 q o (nr2.same q o (f15 q o (f14 q o (sG13 q o e) (nGb q o e)) (nGb q o e))) (nGb q o e)
        have hf17 : H17 f = some (.lst us) := f17.at nfb (nr2.at (f15.at nfb (f14.at nfb hf13)))
        have hm17 : MvsAt H17 us ms := (((hm13.tps (.fx B13 f14)).tps (.fx B14 f15)).tps (.of nr2.same)).tps (.fx (B15.nw nr2) f17)
        have hms : ∀ m ∈ ms, 97 ≤ m.1 ∧ m.1 ≤ 104 := fun m hm => abc_mem _ (hin m hm)
        walk_at "go"
        refine w_newL (by walk_at "sz") (fun r3 H18 hr3 nr3 => ?_)
        walk_at "gs"
        refine w_seqJ (fun σ' H' => ∃ (rd : Addr), σ' = [some (.ref a), some (.ref b), y2, some (.int n), some (.ref f), some (.ref p8), some (.int (0 + (j : Int))), some (.str z), some (.int x), some (.ref rd), y10, y11, y12, y13] ∧ H' rd = some (.lst (goneV (LM ms) n x z)) ∧ Same H17 H') ?_ ?_
        · intro N hN
          walk_at "go"
          refine w_chain2 (fun h0 => ?_) (fun h0 => ?_)
          · walk_at "go"
            refine w_if2 (fun h1 => ?_) (fun h1 => ?_)
            · walk_at "go"
              refine ⟨f, us, ms, z, x, rfl, nr3.at hf17, hm17.tps (.of nr3.same), hms, by omega, hz, fun H19 s19 => ?_⟩
              walk_at "go"
              refine w_newL (by walk_at "sz") (fun r4 H20 hr4 nr4 => ?_)
              walk_at "go"
              refine hN _ _ ⟨r4, rfl, ?_, (nr3.same.trans s19).nw nr4⟩
              unfold goneV
              rw [if_pos ⟨h0, h1⟩]
              exact hr4
            · walk_at "go"
              refine hN _ _ ⟨r3, rfl, ?_, nr3.same⟩
              unfold goneV
              rw [if_neg (fun h => h1 h.2)]
              exact hr3
          · walk_at "go"
            refine hN _ _ ⟨r3, rfl, ?_, nr3.same⟩
            unfold goneV
            rw [if_neg (fun h => h0 h.1)]
            exact hr3
        rintro σ' H19 ⟨rd, rfl, hrd, s19⟩
        have hW19 := hW8.same (sG17.trans s19)
        walk_at "go"
        refine ⟨p8, n, x, LM ms, z, rfl, hW19, hzw, hzl, x0, x1, fun r4 H20 s20 nr4 hr4 => ?_⟩
        walk_at "go"
        have hgl : (goneV (LM ms) n x z).length ≤ 100000 := by
          unfold goneV
          split
          · show 2 ≤ 100000
            decide
          · show 5 ≤ 100000
            decide
        have hgf : ∀ v ∈ goneV (LM ms) n x z, flat4 v = true := by
          unfold goneV
          split
          · intro v hv
            rcases List.mem_cons.mp hv with rfl | hv
            · rfl
            · rw [List.mem_singleton.mp hv]
              exact flat_oV _
          · intro v hv
            simp only [List.mem_cons, List.not_mem_nil, or_false] at hv
            rcases hv with rfl | rfl | rfl | rfl | rfl <;> rfl
        refine ⟨_, _, rfl, .inr ⟨r4, rd, _, _, rfl, rfl, .inl ⟨hr4, s20.at hrd⟩, rfl, hgl, fun i v v' h1 h2 => ?_⟩, fun H21 s21 => ?_⟩
        · rw [h1] at h2
          cases h2
          exact .flat (hgf v (List.mem_of_getElem? h1))
        have s21' : Same H17 H21 := (s19.trans s20).trans s21
        have hW21 := hW8.same (sG17.trans s21')
        have ⟨dx, pl, ld, dd, hp, _⟩ := hW21
        walk_at "go"
        refine w_kMeth hp (wf_no _ _ (by decide +kernel) (by decide +kernel)) ?_
        walk_at "go"
        refine ⟨p8, n, 0, LM ms, z, rfl, hW21, by omega, by decide, by decide, fun e => absurd (hzw.symm.trans e) (by decide), fun _ h => absurd ⟨Int.le_refl 0, by omega⟩ h, fun _ _ H22 s22 => ?_⟩
        walk_at "go"
        refine w_kMeth (s22.at hp) (wf_no _ _ (by decide +kernel) (by decide +kernel)) ?_
        walk_at "go"
        refine ⟨p8, n, LM ms, z, rfl, hW21.same s22, hz, hzl, by omega, fun t5 H23 nt5 s23 ht5 => ?_⟩
        walk_at "go"
        refine w_newL (by walk_at "sz") (fun r5 H24 hr5 nr5 => ?_)
        have s24 : Same H17 H24 := s21'.trans ((s22.trans s23).nw nr5)
        walk_at "go"
        refine ⟨f, us, ms, z, 0, rfl, s24.at hf17, hm17.tps (.of s24), hms, by omega, hz, fun H25 s25 => ?_⟩
        walk_at "go"
        have s25' := s24.trans s25
        refine ⟨n, f, us, ms, z, rfl, by omega, by omega, s25'.at hf17, hm17.tps (.of s25'), hms, by omega, hz, fun t6 H26 nt6 s26 ht6 => ?_⟩
        walk_at "go"
        refine w_newL (by walk_at "sz") (fun r6 H27 hr6 nr6 => ?_)
        walk_at "go"
        have ht5' : H27 t5 = some (.tup (motV (LM ms) n z)) := nr6.at (s26.at (s25.at (nr5.at ht5)))
        have ht6' : H27 t6 = some (.tup (motV (LM ms) n z)) := nr6.at ht6
        refine ⟨_, _, rfl, .inr ⟨r5, r6, _, _, rfl, rfl, .inl ⟨nr6.at (s26.at (s25.at hr5)), hr6⟩, rfl, by show 2 ≤ 100000; decide, fun i v v' h1 h2 => ?_⟩, fun H28 s28 => ?_⟩
        · match i, h1, h2 with
          | 0, h1, h2 =>
            cases h1
            cases h2
            exact .flat (flat_oV _)
          | 1, h1, h2 =>
            cases h1
            cases h2
            exact eqv_mot ht5' ht6' (by omega)
        walk_at "go"
        have s28' : Same H17 H28 := s25'.trans ((s26.nw nr6).trans s28)
        exact ⟨_, _, _, _, _, _, _, _, _, rfl, B17.same s28', sG17.trans s28', s28'.at hf17, hm17.tps (.of s28')⟩
      · rintro σ H9 ⟨y2, y6, y7, y8, y9, y10, y11, y12, y13, rfl, B9, sG9, hf9, hm9⟩
        walk_at "go"
        exact ⟨_, _, _, _, _, _, _, _, _, _, _, _, rfl, B9⟩
    · rintro σ H2 ⟨y2, y3, y4, y5, y6, y7, y8, y9, y10, y11, y12, y13, rfl, B2⟩
      walk_at "go"
      refine w_newT (by walk_at "sz") (fun t1 H3 ht1 nt1 => ?_)
      walk_at "go"
      refine w_newL (by walk_at "sz") (fun l1 H4 hl1 nl1 => ?_)
      walk_at "go"
      refine w_world (ms := [(97, 0, 1)]) hl1 (.cons ⟨t1, rfl, nl1.at ht1⟩ .nil) ⟨by decide, by decide⟩ (by decide) (by decide) (by decide) (fun p1 H5 G5 hW5 sG5 hG5 s5 => ?_)
      have B4 : Bag H4 b l := (B2.nw nt1).nw nl1
      walk_at "go"
      refine w_newL (by walk_at "sz") (fun l2 H6 hl2 nl2 => ?_)
      walk_at "go"
      refine w_world (ms := []) hl2 .nil ⟨by decide, by decide⟩ (by decide) (by decide) (by decide) (fun p2 H7 G7 hW7 sG7 hG7 s7 => ?_)
      have B6 : Bag H6 b l := (B4.same s5).nw nl2
      walk_at "go"
      refine w_newL (by walk_at "sz") (fun r1 H8 hr1 nr1 => ?_)
      have B8 : Bag H8 b l := (B6.same s7).nw nr1
      have n5 : ∀ q o, G5 q = some o → q ≠ b := fun q o e => B4.ne (hG5 q o e)
      have n7 : ∀ q o, G7 q = some o → q ≠ b := fun q o e => B6.ne (hG7 q o e)
      have nrb : r1 ≠ b := (B6.same s7).ne nr1.nn
      walk_at "go"
      refine w_list (xs := [.ref p1, .ref p2]) (fun i σ H2 => ∃ (y5 y11 y12 y13 : Option V), σ = [some (.ref a), some (.ref b), y2, y3, y4, y5, y6, y7, y8, y9, some (.ref r1), y11, y12, y13] ∧ Bag H2 b l ∧ Same G5 H2 ∧ Same G7 H2 ∧ H2 r1 = some (.lst [.ref p1, .ref p2])) ⟨_, _, _, _, rfl, B8, (sG5.trans (nl2.same.trans s7)).nw nr1, sG7.nw nr1, hr1⟩ (fun i σ H2 _ ⟨_, _, _, _, _, _, _, _, h⟩ => h) ?_ ?_
      · rintro i v σ H2 hv ⟨y5, y11, y12, y13, rfl, B2, g5, g7, h1⟩
        obtain ⟨p, n, L, G, rfl, hW, sG, nG, n1⟩ : ∃ (p : Addr) (n : Int) (L : Nat → List (Int × Int)) (G : Hp), v = .ref p ∧ WAt C G p n L ∧ Same G H2 ∧ (∀ q o, G q = some o → q ≠ b) ∧ (1 ≤ n) := by
          match i, hv with
          | 0, hv =>
            cases hv
            exact ⟨p1, 3, _, G5, rfl, hW5, g5, n5, by decide⟩
          | 1, hv =>
            cases hv
            exact ⟨p2, 1, _, G7, rfl, hW7, g7, n7, by decide⟩
        walk_at "go"
        refine w_mulS (by decide) (by decide) (by decide +kernel) ?_
        walk_at "go"
        refine w_newL (by walk_at "sz") (fun r2 H3 hr2 nr2 => ?_)
        have nr2b : r2 ≠ b := B2.ne nr2.nn
        walk_at "go"
        refine w_list (xs := [.str (Str.ofString "x"), .str (Str.ofString "a1"), .str (Txt.mul (Str.ofString "a") 61)]) (fun i σ H4 => ∃ (y11 y12 y13 : Option V), σ = [some (.ref a), some (.ref b), y2, y3, y4, some (.ref p), y6, y7, y8, y9, some (.ref r1), y11, y12, y13] ∧ Bag H4 b l ∧ Same G5 H4 ∧ Same G7 H4 ∧ Same G H4 ∧ H4 r1 = some (.lst [.ref p1, .ref p2]) ∧ H4 r2 = some (.lst [.str (Str.ofString "x"), .str (Str.ofString "a1"), .str (Txt.mul (Str.ofString "a") 61)])) ⟨_, _, _, rfl, B2.nw nr2, g5.nw nr2, g7.nw nr2, sG.nw nr2, nr2.at h1, hr2⟩ (fun i σ H2 _ ⟨_, _, _, _, _, _, _, _, _, h⟩ => h) ?_ ?_
        · rintro i v σ H4 hv ⟨y11, y12, y13, rfl, B4, g5, g7, gG, h1, h2⟩
          obtain ⟨z, rfl, hz, hzl⟩ : ∃ z : Str, v = .str z ∧ isW z = false ∧ z.length ≤ 100 := by
            match i, hv with
            | 0, hv =>
              cases hv
              exact ⟨_, rfl, by decide +kernel, by decide +kernel⟩
            | 1, hv =>
              cases hv
              exact ⟨_, rfl, by decide +kernel, by decide +kernel⟩
            | 2, hv =>
              cases hv
              exact ⟨_, rfl, by decide +kernel, by decide +kernel⟩
          have hW4 := hW.same gG
          have ⟨dx, pl, ld, dd, hp, _⟩ := hW4
          walk_at "go"
          refine w_methS ?_
          walk_at "go"
          refine w_kMeth hp (wf_no _ _ (by decide +kernel) (by decide +kernel)) ?_
          walk_at "go"
          refine w_newL (by walk_at "sz") (fun r3 H5 hr3 nr3 => ?_)
          walk_at "go"
          refine ⟨b, l, 2, rfl, B4.nw nr3, by decide, by decide, fun d H6 d0 d1 B6 f6 => ?_⟩
          walk_at "go"
          obtain ⟨x, hx, hx0, hx1⟩ : ∃ x : Int, atI [V.int 3, V.int (-1)] d = some (.int x) ∧ -10 ≤ x ∧ x ≤ 10 := by
            obtain rfl | rfl : d = 0 ∨ d = 1 := by omega
            · exact ⟨3, rfl, by decide, by decide⟩
            · exact ⟨-1, rfl, by decide, by decide⟩
          refine w_ixL (f6.at (B4.ne nr3.nn) hr3) hx ?_
          have fG : ∀ {G : Hp}, (∀ q o, G q = some o → q ≠ b) → Same G H4 → Same G H6 := fun nn sg q o e => f6 q o (nr3.same q o (sg q o e)) (nn q o e)
          walk_at "go"
          refine ⟨p, n, x, L, z, rfl, hW.same (fG nG gG), by omega, by omega, by omega, fun _ d7 H7 nd7 hd7 s7 => ?_, fun e => absurd (hz.symm.trans e) (by decide), fun e => absurd (hz.symm.trans e) (by decide)⟩
          refine ⟨true, T_BadWord.te, fun _ a9 na => ?_, fun z => nomatch z⟩
          refine ⟨_, rfl, rfl, rfl, d7, _, _, rfl, hd7, rfl, ?_⟩
          walk_at "go"
          exact ⟨_, _, _, rfl, B6.same s7, (fG n5 g5).trans s7, (fG n7 g7).trans s7, (fG nG gG).trans s7, s7.at (f6.at nrb (nr3.at h1)), s7.at (f6.at nr2b (nr3.at h2))⟩
        · rintro σ H4 ⟨y11, y12, y13, rfl, B4, g5, g7, gG, h1, h2⟩
          exact ⟨_, _, _, _, rfl, B4, g5, g7, h1⟩
      · rintro σ H2 ⟨y5, y11, y12, y13, rfl, B2, g5, g7, h1⟩
        walk_at "go"
        exact q _
end
end Sf
namespace Sf
open PySem PySem.Spec PyProof.Rows L2 TL
theorem all_mk {P : Program} {w : World} {K : PySem.W.Frag} {h : Heap} {mg : Str → Option Value} {fa f : Addr} (X : K.In h) (G : h.Ns mainGlobals mg) (hfa : mg "law" = some (.ref fa))
    {od an : Option Addr} {sl : Array (Option Value)} {oc kV dc pm cd ct : Value}
    (aL : PySem.W.nsIn K mainGlobals "law" = some (some (.ref f))) (lL : K.lookup f = some ⟨oc, od, .func (PySem.W.fnOf "law" "law" (defArgs s_law) (defBody s_law) (defScope s_law) .none kV dc pm an cd ct), sl⟩) (cL : PySem.W.codeIn K cd "law" = true) (kL : PySem.W.keepIn K (.ref f) = true)
    (F_law_pull : FnAt K mg "_law_pull" s__law_pull ["_law_bag", "_law_many"])
    (F_law_begin : FnAt K mg "_law_begin" s__law_begin ["_law_script"])
    (F_law_flip : FnAt K mg "_law_flip" s__law_flip ["_law_sign_here"])
    (F_law_sign : FnAt K mg "_law_sign" s__law_sign ["_law_bag", "_law_many"])
    (F_law_word : FnAt K mg "_law_word" s__law_word ["_law_bag", "_law_upto", "_law_many"])
    (Fis_word : FnAt K mg "is_word" s_is_word ["text"])
    (Fneed_word : FnAt K mg "need_word" s_need_word ["text"])
    (Fis_upto : FnAt K mg "is_upto" s_is_upto ["thing", "most"])
    (Fis_move : FnAt K mg "is_move" s_is_move ["move", "many"])
    (Fleads_by : FnAt K mg "leads_by" s_leads_by ["many", "moves"])
    (F_law_world : FnAt K mg "_law_world" s__law_world ["_law_bag", "_law_upto", "_law_letters"])
    (F_law_same : FnAt K mg "_law_same" s__law_same ["_law_found", "_law_due"])
    (F_law_led : FnAt K mg "_law_led" s__law_led ["_law_moves", "_law_word_here", "_law_place"])
    (F_law_motion : FnAt K mg "_law_motion" s__law_motion ["_law_many", "_law_moves", "_law_word_here"])
    (F_law_gone : FnAt K mg "_law_gone" s__law_gone ["_law_world_here", "_law_word_here", "_law_place"])
    (B : Blt mg) {t_MOST_WORD : Tok} (C_MOST_WORD : mg "MOST_WORD" = some (.int 60 t_MOST_WORD)) {t_SIGNS : Tok} (C_SIGNS : mg "SIGNS" = some (.str (Str.ofString "aAbBcCdDeEfFgGhH") t_SIGNS)) {t_LETTERS : Tok} (C_LETTERS : mg "LETTERS" = some (.str (Str.ofString "abcdefgh") t_LETTERS)) {t_MOST_PLACES : Tok} (C_MOST_PLACES : mg "MOST_PLACES" = some (.int 1000 t_MOST_PLACES)) {CWorld : Addr} (TWorld : WC K mg CWorld) (mkWorld : PySem.W.makesIn K CWorld = true) (kcWorld : PySem.W.keepIn K (.ref CWorld) = true)
    (MWorld___init__ : MAt K CWorld "__init__" "World.__init__" s_World___init__ ["self", "many", "moves"])
    (MWorld_led : MAt K CWorld "led" "World.led" s_World_led ["self", "word", "place"])
    (MWorld_motion : MAt K CWorld "motion" "World.motion" s_World_motion ["self", "word"])
    (MWorld_need_place : MAt K CWorld "need_place" "World.need_place" s_World_need_place ["self", "place"])
    {CS fS : Addr} (S_ : SE K mg CS fS) (FS_ : FbD K "__init__" "SpoorError.__init__" s_SpoorError___init__ fS ["self", "word", "message"])
    {CBadWord fBadWord : Addr} (EBadWord : EC K mg "BadWord" CBadWord fBadWord) (IBadWord : Fb K "__init__" "BadWord.__init__" s_BadWord___init__ fBadWord ["self"])
    {CL fL : Addr} (L_ : LE K mg CL fL) (FL_ : FbD K "__init__" "Lacking.__init__" s_Lacking___init__ fL ["self", "word", "message"])
    {CNoPlace fNoPlace : Addr} (ENoPlace : EL K mg "NoPlace" CNoPlace fNoPlace) (INoPlace : Fb K "__init__" "NoPlace.__init__" s_NoPlace___init__ fNoPlace ["self", "place"])
    (nNoPlace_place : PySem.W.findIn K (.ref CNoPlace) "place" = some none)
    (xNoPlace : L2.ExcC K CNoPlace)
    (kitL : PySem.W.kitOne K (.ref CNoPlace) (.ref CL) = some true)
    (kitE : PySem.W.kitOne K (.ref CNoPlace) (.type "LookupError") = some true)
    {CM : Addr} (C_NoName : mg "NoName" = some (.ref CM)) (kitM : PySem.W.kitOne K (.ref CNoPlace) (.ref CM) = some false)
    {tk0 : Tok} (MWorld_go : MAtD K CWorld "go" "World.go" s_World_go ["self", "word", "place"] (.int 0 tk0)) :
    ∃ fd : FuncData, (∀ (s : Shared) (v : Value), BindsTo s fd ⟨[v], []⟩ [("_law_script", v)]) ∧ ∀ base : Heap, K.In base → base.Ns mainGlobals mg → FnOk P w K mg base CX0 8 fa fd ["_law_script"] (spLaw K) := by
  have e := hfa.symm.trans (PySem.W.mg_of X G aL)
  cases e
  have FL := fun_mk (st := s_law) lL cL kL
  refine ⟨PySem.W.fnOf "law" "law" (defArgs s_law) (defBody s_law) (defScope s_law) .none kV dc pm an cd ct, fun s v => .of_eq rfl, fun base _ _ => ?_⟩
  obtain ⟨fdS, FS, bS⟩ := FS_
  obtain ⟨fdB, FB, bB⟩ := IBadWord
  have G_B := ok_bwd (P := P) (w := w) (base := base) FB S_ FS bS
  obtain ⟨fdL, FL1, bL⟩ := FL_
  obtain ⟨fdN, FN, bN⟩ := INoPlace
  have G_N := ok_npx (P := P) (w := w) (base := base) FN L_ FL1 bL
  have h_Pu := has_pull (P := P) (w := w) (base := base) F_law_pull B
  have h_Be := has_begin (P := P) (w := w) (base := base) F_law_begin B
  have h_Fl := has_flip (P := P) (w := w) (base := base) F_law_flip
  have h_Si := has_sign (P := P) (w := w) (base := base) F_law_sign h_Pu
  have h_Wo := has_word (P := P) (w := w) (base := base) F_law_word B h_Pu h_Si h_Fl
  have h_Iw := has_isword (P := P) (w := w) (base := base) Fis_word B C_MOST_WORD C_SIGNS
  have h_Ne := has_need (P := P) (w := w) (base := base) Fneed_word h_Iw
  have h_Up := has_up (P := P) (w := w) (base := base) Fis_upto B
  have h_Im := has_im (P := P) (w := w) (base := base) Fis_move B h_Up C_LETTERS
  have h_Lb := has_lb (P := P) (w := w) (base := base) Fleads_by B h_Im C_SIGNS
  have h_WI := has_wi (P := P) (w := w) (base := base) MWorld___init__ B TWorld h_Up h_Lb C_MOST_PLACES
  have h_Led := has_led (P := P) (w := w) (base := base) MWorld_led TWorld
  have h_NeX := has_neX (P := P) (w := w) (base := base) Fneed_word h_Iw EBadWord G_B bB
  have h_NplX := has_nplX (P := P) (w := w) (base := base) MWorld_need_place B TWorld h_Up ENoPlace nNoPlace_place G_N bN
  have h_GoX := has_goX (P := P) (w := w) (base := base) MWorld_go TWorld h_NeX h_NplX h_Led
  have h_Gone := has_gone (P := P) (w := w) (base := base) F_law_gone B L_.mV TWorld ENoPlace nNoPlace_place xNoPlace L_.gC C_NoName kitL kitE kitM h_GoX
  have h_Mo := has_mo (P := P) (w := w) (base := base) MWorld_motion B TWorld h_Ne h_Led
  have h_Lw := has_lw (P := P) (w := w) (base := base) F_law_world B h_Pu
  have h_Lld := has_lld (P := P) (w := w) (base := base) F_law_led
  have h_Lmo := has_lmo (P := P) (w := w) (base := base) F_law_motion B h_Lld
  have h_Sa := has_same (P := P) (w := w) (base := base) F_law_same B
  exact ok_law FL B TWorld mkWorld kcWorld EBadWord h_Be h_Pu h_Wo h_Lw (h_Sa 2) h_Lld h_Lmo h_Gone h_WI h_Mo h_GoX
end Sf
open PySem PySem.W PyProof.Rows
set_option maxRecDepth 100000 in
set_option maxHeartbeats 0 in
theorem PySem.Challenge.cw_spoorfold_k18_words_lead_from_places_holds : PySem.Challenge.rw_spoorfold_k18_words_lead_from_places.Holds := by
  w_on; o_law; k_head; (case hw => w_witness2)
  k_fill
  refine L2.walk_of (l := PySem.Challenge.rw_spoorfold_k18_words_lead_from_places) (n := 63) (k := 8) (x := "_law_script") (CX := fun _ => L2.CX0) (sp := fun w => Sf.spLaw _) rfl (by decide) rfl ⟨rfl, by decide, by decide⟩ (fun w h Y => PySem.W.kIn_of Y) ?F (fun _ _ a ns hl _ hS => ⟨a, ns, rfl, hS, hl, fun _ => rfl⟩) (fun _ _ _ _ _ h => h)
  case F =>
    intro w mg fa h KX G hmg
    refine' Sf.all_mk KX G hmg ?aL ?lL ?cL ?kL (Sf.fnAt_mk KX G ?a0 ?l0 ?c0 ?k0 (fun _ _ _ _ _ _ us hl => match us, hl with | [_, _], _ => rfl)) (Sf.fnAt_mk KX G ?a1 ?l1 ?c1 ?k1 (fun _ _ _ _ _ _ us hl => match us, hl with | [_], _ => rfl)) (Sf.fnAt_mk KX G ?a2 ?l2 ?c2 ?k2 (fun _ _ _ _ _ _ us hl => match us, hl with | [_], _ => rfl)) (Sf.fnAt_mk KX G ?a3 ?l3 ?c3 ?k3 (fun _ _ _ _ _ _ us hl => match us, hl with | [_, _], _ => rfl)) (Sf.fnAt_mk KX G ?a4 ?l4 ?c4 ?k4 (fun _ _ _ _ _ _ us hl => match us, hl with | [_, _, _], _ => rfl)) (Sf.fnAt_mk KX G ?a5 ?l5 ?c5 ?k5 (fun _ _ _ _ _ _ us hl => match us, hl with | [_], _ => rfl)) (Sf.fnAt_mk KX G ?a6 ?l6 ?c6 ?k6 (fun _ _ _ _ _ _ us hl => match us, hl with | [_], _ => rfl)) (Sf.fnAt_mk KX G ?a7 ?l7 ?c7 ?k7 (fun _ _ _ _ _ _ us hl => match us, hl with | [_, _], _ => rfl)) (Sf.fnAt_mk KX G ?a8 ?l8 ?c8 ?k8 (fun _ _ _ _ _ _ us hl => match us, hl with | [_, _], _ => rfl)) (Sf.fnAt_mk KX G ?a9 ?l9 ?c9 ?k9 (fun _ _ _ _ _ _ us hl => match us, hl with | [_, _], _ => rfl)) (Sf.fnAt_mk KX G ?a10 ?l10 ?c10 ?k10 (fun _ _ _ _ _ _ us hl => match us, hl with | [_, _, _], _ => rfl)) (Sf.fnAt_mk KX G ?a11 ?l11 ?c11 ?k11 (fun _ _ _ _ _ _ us hl => match us, hl with | [_, _], _ => rfl)) (Sf.fnAt_mk KX G ?a12 ?l12 ?c12 ?k12 (fun _ _ _ _ _ _ us hl => match us, hl with | [_, _, _], _ => rfl)) (Sf.fnAt_mk KX G ?a13 ?l13 ?c13 ?k13 (fun _ _ _ _ _ _ us hl => match us, hl with | [_, _, _], _ => rfl)) (Sf.fnAt_mk KX G ?a14 ?l14 ?c14 ?k14 (fun _ _ _ _ _ _ us hl => match us, hl with | [_, _, _], _ => rfl)) ⟨PySem.W.mg_none_of KX G ?z0, PySem.W.mg_none_of KX G ?z1, PySem.W.mg_none_of KX G ?z2, PySem.W.mg_none_of KX G ?z3, PySem.W.mg_none_of KX G ?z4, PySem.W.mg_none_of KX G ?z5, PySem.W.mg_none_of KX G ?z6, PySem.W.mg_none_of KX G ?z7, PySem.W.mg_none_of KX G ?z8, PySem.W.mg_none_of KX G ?z9, PySem.W.mg_none_of KX G ?z10, PySem.W.mg_none_of KX G ?z11⟩ (PySem.W.mg_of KX G ?d0) (PySem.W.mg_of KX G ?d1) (PySem.W.mg_of KX G ?d2) (PySem.W.mg_of KX G ?d3) (Sf.WC.mk ⟨?wWorldpg, ?wWorldhd, ?wWorldpo, ?wWorldsa⟩ ?wWorldf0 ?wWorldf1 (PySem.W.mg_of KX G ?wWorldaC) ?wWorldha ?wWorldhn ?wWorldhtk ?wWorldhm ?wWorldne) ?wWorldmk ?wWorldkc (Sf.mAt_mk ?wWorlda0 ?wWorldi0 ?wWorldl0 ?wWorldc0 ?wWorldk0 (fun _ _ _ _ _ _ us hl => match us, hl with | [_, _, _], _ => rfl)) (Sf.mAt_mk ?wWorlda1 ?wWorldi1 ?wWorldl1 ?wWorldc1 ?wWorldk1 (fun _ _ _ _ _ _ us hl => match us, hl with | [_, _, _], _ => rfl)) (Sf.mAt_mk ?wWorlda2 ?wWorldi2 ?wWorldl2 ?wWorldc2 ?wWorldk2 (fun _ _ _ _ _ _ us hl => match us, hl with | [_, _], _ => rfl)) (Sf.mAt_mk ?wWorlda3 ?wWorldi3 ?wWorldl3 ?wWorldc3 ?wWorldk3 (fun _ _ _ _ _ _ us hl => match us, hl with | [_, _], _ => rfl)) (Sf.SE.mk (PySem.W.mg_of KX G ?seC) ?serd ?sega ?seat ?sevV (PySem.W.mg_none_of KX G ?semV)) (Sf.fbD_mk ?sel ?sec ?sek (Sf.se_binds ?seo ?seo2)) (Sf.EC.mk (Sf.oex_mk ?xBadWordlk ?xBadWordrv ?xBadWordsa ?xBadWordex ?xBadWordty ?xBadWordkC) ?xBadWordiC ?xBadWordtI (PySem.W.mg_of KX G ?xBadWordgC) ⟨?xBadWordga, ?xBadWordgg, ?xBadWordex2, ?xBadWordhd⟩ ?xBadWordnw (Sf.exm_self ?xBadWordex3 ?xBadWordcl ?xBadWordty2 ?xBadWordsub)) (Sf.fb_mk ?xBadWordil ?xBadWordic ?xBadWordik (fun _ _ _ _ _ _ us hl => match us, hl with | [_], _ => rfl)) (Sf.LE.mk (PySem.W.mg_of KX G ?leC) ?lerd ?lega ?leat ?levV (PySem.W.mg_none_of KX G ?lemV)) (Sf.fbD_mk ?lel ?lec ?lek (Sf.le_binds ?leo ?leo2))  (Sf.EL.mk ⟨?xNoPlaceini, ?xNoPlaceovr, ?xNoPlacedct, ?xNoPlacesa, ?xNoPlaceex, ?xNoPlacety, ?xNoPlacekC⟩ ?xNoPlaceiC ?xNoPlacetI (PySem.W.mg_of KX G ?xNoPlacegC) ⟨?xNoPlacega, ?xNoPlacegg, ?xNoPlaceex2, ?xNoPlacehd⟩ ?xNoPlacenw (Sf.exm_self ?xNoPlaceex3 ?xNoPlacecl ?xNoPlacety2 ?xNoPlacesub)) (Sf.fb_mk ?xNoPlaceil ?xNoPlaceic ?xNoPlaceik (fun _ _ _ _ _ _ us hl => match us, hl with | [_, _], _ => rfl)) ?fNoPlaceplace ⟨?cNoPlaceg, ?cNoPlacek, ?cNoPlaces, ?cNoPlaced, ?cNoPlacea, ?cNoPlacen, ?cNoPlacet, ?cNoPlacem⟩ (Sf.kit_ref ?kl0 ?kl1 ?kl2 ?kl3) (Sf.kit_bty ?ke1 ?ke3) (PySem.W.mg_of KX G ?nnC) (Sf.kit_ref ?km0 ?km1 ?km2 ?km3) (Sf.mAtD_mk ?ga ?gi ?gl ?gc ?gk ?go ?gs (Sf.go_binds ?go ?gs) (Sf.go_bindsD ?go ?gs))
    (case aL => k_is)
    (case lL => k_is)
    (case cL => k_is)
    (case kL => k_is)
    (case a0 => k_is)
    (case l0 => k_is)
    (case c0 => k_is)
    (case k0 => k_is)
    (case a1 => k_is)
    (case l1 => k_is)
    (case c1 => k_is)
    (case k1 => k_is)
    (case a2 => k_is)
    (case l2 => k_is)
    (case c2 => k_is)
    (case k2 => k_is)
    (case a3 => k_is)
    (case l3 => k_is)
    (case c3 => k_is)
    (case k3 => k_is)
    (case a4 => k_is)
    (case l4 => k_is)
    (case c4 => k_is)
    (case k4 => k_is)
    (case a5 => k_is)
    (case l5 => k_is)
    (case c5 => k_is)
    (case k5 => k_is)
    (case a6 => k_is)
    (case l6 => k_is)
    (case c6 => k_is)
    (case k6 => k_is)
    (case a7 => k_is)
    (case l7 => k_is)
    (case c7 => k_is)
    (case k7 => k_is)
    (case a8 => k_is)
    (case l8 => k_is)
    (case c8 => k_is)
    (case k8 => k_is)
    (case a9 => k_is)
    (case l9 => k_is)
    (case c9 => k_is)
    (case k9 => k_is)
    (case a10 => k_is)
    (case l10 => k_is)
    (case c10 => k_is)
    (case k10 => k_is)
    (case a11 => k_is)
    (case l11 => k_is)
    (case c11 => k_is)
    (case k11 => k_is)
    (case a12 => k_is)
    (case l12 => k_is)
    (case c12 => k_is)
    (case k12 => k_is)
    (case a13 => k_is)
    (case l13 => k_is)
    (case c13 => k_is)
    (case k13 => k_is)
    (case a14 => k_is)
    (case l14 => k_is)
    (case c14 => k_is)
    (case k14 => k_is)
    (case z0 => k_is)
    (case z1 => k_is)
    (case z2 => k_is)
    (case z3 => k_is)
    (case z4 => k_is)
    (case z5 => k_is)
    (case z6 => k_is)
    (case z7 => k_is)
    (case z8 => k_is)
    (case z9 => k_is)
    (case z10 => k_is)
    (case z11 => k_is)
    (case d0 => k_is)
    (case d1 => k_is)
    (case d2 => k_is)
    (case d3 => k_is)
    (case wWorldaC => k_is)
    (case wWorldpg => k_is)
    (case wWorldhd => k_is)
    (case wWorldpo => k_is)
    (case wWorldsa => k_is)
    (case wWorldf0 => k_is)
    (case wWorldf1 => k_is)
    (case wWorldha => k_is)
    (case wWorldhn => k_is)
    (case wWorldhtk => k_is)
    (case wWorldhm => k_is)
    (case wWorldne => k_is)
    (case wWorldmk => k_is)
    (case wWorldkc => k_is)
    (case wWorlda0 => k_is)
    (case wWorldi0 => k_is)
    (case wWorldl0 => k_is)
    (case wWorldc0 => k_is)
    (case wWorldk0 => k_is)
    (case wWorlda1 => k_is)
    (case wWorldi1 => k_is)
    (case wWorldl1 => k_is)
    (case wWorldc1 => k_is)
    (case wWorldk1 => k_is)
    (case wWorlda2 => k_is)
    (case wWorldi2 => k_is)
    (case wWorldl2 => k_is)
    (case wWorldc2 => k_is)
    (case wWorldk2 => k_is)
    (case wWorlda3 => k_is)
    (case wWorldi3 => k_is)
    (case wWorldl3 => k_is)
    (case wWorldc3 => k_is)
    (case wWorldk3 => k_is)
    (case seC => k_is)
    (case serd => k_is)
    (case sega => k_is)
    (case seat => k_is)
    (case sevV => k_is)
    (case semV => k_is)
    (case sel => k_is)
    (case sec => k_is)
    (case sek => k_is)
    (case seo => k_is)
    (case seo2 => rfl)
    (case xBadWordgC => k_is)
    (case xBadWordlk => k_is)
    (case xBadWordsa => k_is)
    (case xBadWordex => k_is)
    (case xBadWordty => k_is)
    (case xBadWordkC => k_is)
    (case xBadWordiC => k_is)
    (case xBadWordtI => k_is)
    (case xBadWordga => k_is)
    (case xBadWordgg => k_is)
    (case xBadWordex2 => k_is)
    (case xBadWordhd => k_is)
    (case xBadWordnw => k_is)
    (case xBadWordex3 => k_is)
    (case xBadWordcl => k_is)
    (case xBadWordty2 => k_is)
    (case xBadWordsub => k_is)
    (case xBadWordil => k_is)
    (case xBadWordic => k_is)
    (case xBadWordik => k_is)
    (case xBadWordrv => decide +kernel)
    (case leC => k_is)
    (case lerd => k_is)
    (case lega => k_is)
    (case leat => k_is)
    (case levV => k_is)
    (case lemV => k_is)
    (case lel => k_is)
    (case lec => k_is)
    (case lek => k_is)
    (case leo => k_is)
    (case leo2 => rfl)
    (case xNoPlacegC => k_is)
    (case xNoPlaceini => kx_is)
    (case xNoPlaceovr => kx_is)
    (case xNoPlacedct => k_is)
    (case xNoPlacesa => k_is)
    (case xNoPlaceex => k_is)
    (case xNoPlacety => k_is)
    (case xNoPlacekC => k_is)
    (case xNoPlaceiC => k_is)
    (case xNoPlacetI => k_is)
    (case xNoPlacega => k_is)
    (case xNoPlacegg => k_is)
    (case xNoPlaceex2 => k_is)
    (case xNoPlacehd => k_is)
    (case xNoPlacenw => k_is)
    (case xNoPlaceex3 => k_is)
    (case xNoPlacecl => k_is)
    (case xNoPlacety2 => k_is)
    (case xNoPlacesub => k_is)
    (case xNoPlaceil => k_is)
    (case xNoPlaceic => k_is)
    (case xNoPlaceik => k_is)
    (case fNoPlaceplace => k_is)
    (case cNoPlaceg => k_is)
    (case cNoPlacek => k_is)
    (case cNoPlaces => k_is)
    (case cNoPlaced => k_is)
    (case cNoPlacea => k_is)
    (case cNoPlacen => k_is)
    (case cNoPlacet => k_is)
    (case cNoPlacem => k_is)
    (case kl0 => decide +kernel)
    (case kl1 => k_is)
    (case kl2 => k_is)
    (case kl3 => k_is)
    (case ke1 => decide +kernel)
    (case ke3 => k_is)
    (case nnC => k_is)
    (case km0 => decide +kernel)
    (case km1 => k_is)
    (case km2 => k_is)
    (case km3 => k_is)
    (case ga => k_is)
    (case gi => k_is)
    (case gl => k_is)
    (case gc => k_is)
    (case gk => k_is)
    (case go => k_is)
    (case gs => rfl)
