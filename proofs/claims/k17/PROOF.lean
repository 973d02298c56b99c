import PyProof.Rows.All
import Wide.All
import OpenK.AllK
import Wide.FinOn
import HandS.ForMost
import HandS.IsInst
import HandS.Zip
import HandS.More
import KE.LtData
import HandS.DictComp
import KE.SortKeyHeap
import HandS.SortKw
import HandS.OwnEq
import HandS.Conv
import HandS.TupAny
import PySem.Challenge.RW_spoorfold_k17_worlds_made_and_refused
import HandS.ExcInit
import HandS.ExcField
import HandS.WordsExc
import HandS.ExcOwn
import HandS.FStr
import KE.DataFind
import KE.KTryMore
import HandS.RaiseMore
set_option Elab.async false
set_option linter.all false
set_option maxRecDepth 100000
set_option maxHeartbeats 4000000
namespace Sf
open PySem PySem.Spec PyProof.Rows L2
/-! the text of the law by places -/
def topS (i : Nat) : Stmt := PySem.Challenge.pw_spoorfold_k17_worlds_made_and_refused.main.body.getD i (.Pass ⟨0, 0, 0, 0⟩)
abbrev s__wall : Stmt := topS 0
abbrev s_SpoorError___init__ : Stmt := inClass (topS 2) 0
abbrev s_BadWord___init__ : Stmt := inClass (topS 3) 0
abbrev s_BadWorld___init__ : Stmt := inClass (topS 4) 0
abbrev s_is_upto : Stmt := topS 6
abbrev s_is_word : Stmt := topS 11
abbrev s_need_word : Stmt := topS 12
abbrev s_World___init__ : Stmt := inClass (topS 15) 0
abbrev s_World_moves : Stmt := inClass (topS 15) 1
abbrev s_World_letters : Stmt := inClass (topS 15) 2
abbrev s_World_go : Stmt := inClass (topS 15) 3
abbrev s_World_motion : Stmt := inClass (topS 15) 4
abbrev s_World_seen : Stmt := inClass (topS 15) 5
abbrev s_World_ways : Stmt := inClass (topS 15) 6
abbrev s_World_is_whole : Stmt := inClass (topS 15) 7
abbrev s_World_widened : Stmt := inClass (topS 15) 8
abbrev s_World_breaks : Stmt := inClass (topS 15) 9
abbrev s_World___eq__ : Stmt := inClass (topS 15) 10
abbrev s_World___len__ : Stmt := inClass (topS 15) 11
abbrev s_World___repr__ : Stmt := inClass (topS 15) 12
abbrev s_World_need_place : Stmt := inClass (topS 15) 13
abbrev s_World_led : Stmt := inClass (topS 15) 14
abbrev s_World_come_to : Stmt := inClass (topS 15) 15
abbrev s_leads_by : Stmt := topS 16
abbrev s_is_move : Stmt := topS 17
abbrev s__law_begin : Stmt := topS 19
abbrev s__law_pull : Stmt := topS 20
abbrev s__law_world : Stmt := topS 21
abbrev s__law_mixed : Stmt := topS 22
abbrev s__law_same : Stmt := topS 23
abbrev s__law_is_world : Stmt := topS 24
abbrev s__law_led : Stmt := topS 25
abbrev s__law_motion : Stmt := topS 26
abbrev s__law_pick : Stmt := topS 27
abbrev s__law_told_world : Stmt := topS 28
abbrev s_law : Stmt := topS 29
end Sf
namespace Sf
open PySem PySem.Spec PyProof.Rows L2 TL
/-! ### helpers of heaps and blocks -/
theorem same_upd {H : Hp} {p : Addr} {o : HO} (h : H p = none) : Same H (upd H p o) := fun b x e => by
  rw [upd_ne (ne_of_none e h)]
  exact e
/-- all but what stands at b stands -/
def Fx (b : Addr) (H H' : Hp) : Prop := ∀ a o, H a = some o → a ≠ b → H' a = some o
theorem Fx.refl {b : Addr} {H : Hp} : Fx b H H := fun _ _ h _ => h
theorem Fx.of {b : Addr} {H H' : Hp} (h : Same H H') : Fx b H H' := fun a o e _ => h a o e
theorem Fx.trans {b : Addr} {H H1 H2 : Hp} (h : Fx b H H1) (k : Fx b H1 H2) : Fx b H H2 := fun a o e n => k a o (h a o e n) n
theorem Fx.same {b : Addr} {H H1 H2 : Hp} (h : Fx b H H1) (k : Same H1 H2) : Fx b H H2 := h.trans (.of k)
theorem Fx.upd {b : Addr} {H H1 : Hp} {o : HO} (h : Fx b H H1) : Fx b H (upd H1 b o) := fun a u e n => by
  rw [upd_ne n]
  exact h a u e n
theorem Fx.new {b p : Addr} {H H1 : Hp} {o : HO} (h : Fx b H H1) (n : H1 p = none) : Fx b H (L2.upd H1 p o) := h.same (same_upd n)
theorem Fx.seq {b a : Addr} {H H1 : Hp} {xs : List V} {K : PySem.W.Frag} (h : Fx b H H1) (n : a ≠ b) (s : SqL K H a xs) : SqL K H1 a xs := by
  rcases s with (s | ⟨o, s⟩) | s
  · exact .inl (.inl (h _ _ s n))
  · exact .inl (.inr ⟨o, h _ _ s n⟩)
  · exact .inr s
theorem seq_by {X : Cx} {st : Stmt} {rest : List Stmt} {D : Ends} {σ : L2.St} {H : Hp} (J : L2.St → Hp → Prop) (hr : ∃ u, PSs X rest u ∧ ∀ σ' H', J σ' H' → u D σ' H')
    (hs : ∀ u : TS, (∀ σ' H', J σ' H' → u D σ' H') → ∃ t, PS X st t ∧ t { D with nx := u D } σ H) : ∃ t, PSs X (st :: rest) t ∧ t D σ H := by
  obtain ⟨u, hu, k⟩ := hr
  obtain ⟨t, ht, h⟩ := hs u k
  exact ⟨tSeq t u, pss_cons ht hu, h⟩
theorem line_of {n : Nat} (h : n ≤ 100000) : n ≤ sizeLine := Nat.le_trans h (by decide)
theorem lineLt_of {n : Nat} (h : n ≤ 100000) : n < sizeLine := Nat.lt_of_le_of_lt h (by decide)
/-! ### the bag of the laws: its list at l, three numbers -/
structure BagL (H : Hp) (b l : Addr) (ns : List Int) (k z r : Int) : Prop where
  hb : H b = some (.lst [.ref l, .int k, .int z, .int r])
  hl : H l = some (.lst (ns.map V.int))
  k0 : 0 ≤ k
  z0 : 0 ≤ z
  r0 : 0 ≤ r
  r1 : r < 2147483647
def Bag (H : Hp) (b l : Addr) : Prop := ∃ (ns : List Int) (k z r : Int), BagL H b l ns k z r
theorem bag_ne {l : Addr} {ns : List Int} {vs : List V} : HO.lst (.ref l :: vs) ≠ HO.lst (ns.map V.int) := fun e => by
  cases ns with
  | nil => cases e
  | cons x r => cases e
theorem BagL.ne {H : Hp} {b l : Addr} {ns : List Int} {k z r : Int} (h : BagL H b l ns k z r) : l ≠ b := fun e => by
  have h1 := h.hb
  have h2 := h.hl
  rw [e, h1] at h2
  exact bag_ne (Option.some.inj h2)
theorem BagL.set {H : Hp} {b l : Addr} {ns : List Int} {k z r k' z' r' : Int} (h : BagL H b l ns k z r) (hk : 0 ≤ k') (hz : 0 ≤ z') (h0 : 0 ≤ r') (h1 : r' < 2147483647) :
    BagL (upd H b (.lst [.ref l, .int k', .int z', .int r'])) b l ns k' z' r' :=
  ⟨upd_same, by rw [upd_ne h.ne]; exact h.hl, hk, hz, h0, h1⟩
theorem Bag.same {H H' : Hp} {b l : Addr} (s : Same H H') : Bag H b l → Bag H' b l
  | ⟨ns, k, z, r, h⟩ => ⟨ns, k, z, r, s _ _ h.hb, s _ _ h.hl, h.k0, h.z0, h.r0, h.r1⟩
theorem Bag.new {H : Hp} {b l p : Addr} {o : HO} (h : Bag H b l) (n : H p = none) : Bag (upd H p o) b l := h.same (same_upd n)
theorem Bag.ne {H : Hp} {b l p : Addr} (h : Bag H b l) (n : H p = none) : p ≠ b := fun e => by
  obtain ⟨ns, k, z, r, h⟩ := h
  rw [e, h.hb] at n
  cases n
theorem Bag.neL {H : Hp} {b l p : Addr} (h : Bag H b l) (n : H p = none) : p ≠ l := fun e => by
  obtain ⟨ns, k, z, r, h⟩ := h
  rw [e, h.hl] at n
  cases n
theorem len_eq {α : Type} {xs : List α} {n : Nat} (h : xs.length = n) : ((xs.length : Nat) : Int) = (n : Int) := by rw [h]
theorem int_at {ns : List Int} {k : Int} (h0 : 0 ≤ k) (h1 : k < ((ns.map V.int).length : Nat)) : ∃ v : Int, atI (ns.map V.int) k = some (.int v) := by
  rw [List.length_map] at h1
  refine ⟨ns[k.toNat]'(by omega), at_of (j := k.toNat) (by omega) ?_⟩
  rw [List.getElem?_map, List.getElem?_eq_getElem (by omega)]
  rfl
end Sf
namespace Sf
open PySem PySem.Spec PyProof.Rows L2 TL
/-! ### what stands at the top: a def of the text; a def that keeps a promise; a constant; built-in names -/
def FnAt (K : PySem.W.Frag) (mg : Str → Option Value) (x : Str) (st : Stmt) (ps : List Str) : Prop := ∃ (f : Addr) (fd : FuncData), mg x = some (.ref f) ∧ Fun K x x st f fd ∧ Binds K fd ps []
def Has (P : Program) (w : World) (K : PySem.W.Frag) (mg : Str → Option Value) (base : Heap) (k : Nat) (x : Str) (ps : List Str) (sp : Sp) : Prop :=
  ∃ (f : Addr) (fd : FuncData), mg x = some (.ref f) ∧ PySem.W.keepIn K (.ref f) = true ∧ Binds K fd ps [] ∧ FnOk P w K mg base CX0 k f fd ps sp
theorem FnAt.has {P : Program} {w : World} {K : PySem.W.Frag} {mg : Str → Option Value} {base : Heap} {k : Nat} {x : Str} {st : Stmt} {ps : List Str} {sp : Sp} (h : FnAt K mg x st ps)
    (ok : ∀ {f : Addr} {fd : FuncData}, Fun K x x st f fd → FnOk P w K mg base CX0 k f fd ps sp) : Has P w K mg base k x ps sp := by
  obtain ⟨f, fd, g, F, b⟩ := h
  exact ⟨f, fd, g, F.kp, b, ok F⟩
theorem fnAt_mk {K : PySem.W.Frag} {h : Heap} {mg : Str → Option Value} {x : Str} {st : Stmt} {ps : List Str} {f : Addr} {oc : Value} {od an : Option Addr} {osl : Array (Option Value)} {kV doc pm cdv ct : Value} (X : K.In h) (G : h.Ns mainGlobals mg)
    (a : PySem.W.nsIn K mainGlobals x = some (some (.ref f))) (l : K.lookup f = some ⟨oc, od, .func (PySem.W.fnOf x x (defArgs st) (defBody st) (defScope st) .none kV doc pm an cdv ct), osl⟩)
    (c : PySem.W.codeIn K cdv x = true) (k : PySem.W.keepIn K (.ref f) = true)
    (b : ∀ (kV doc pm : Value) (an : Option Addr) (cdv ct : Value) (us : List Value), us.length = ps.length → bindArgs (PySem.W.fnOf x x (defArgs st) (defBody st) (defScope st) .none kV doc pm an cdv ct) ⟨us, []⟩ = pure (ps.zip us)) : FnAt K mg x st ps :=
  ⟨f, _, PySem.W.mg_of X G a, fun_mk l c k, (fun_mk l c k).binds b⟩
structure Blt (mg : Str → Option Value) : Prop where
  len : mg "len" = none
  range : mg "range" = none
  isinstance : mg "isinstance" = none
  list : mg "list" = none
  tuple : mg "tuple" = none
  bool : mg "bool" = none
  int : mg "int" = none
  str : mg "str" = none
  all : mg "all" = none
  zip : mg "zip" = none
  min : mg "min" = none
  sorted : mg "sorted" = none
theorem lc_gen {J : It} {n : Nat} {g : TG} {tt : TT} {te : TE} {vs : List Nat} {σ : L2.St} {H1 : Hp} {D : Addr} {Qd : Hp → Prop} (Pv : Nat → Hp → Prop) (h0 : Pv 0 (upd H1 D (.lst [])))
    (hgo : ∀ i H, i < n → Pv i H → J.go i H) (hst : ∀ H, Pv n H → J.stop n H)
    (hs : ∀ i x H H', i < n → Pv i H → J.yld i H x H' → g x (wipe σ vs) H' fun σ2 H2 => wipe σ2 vs = wipe σ vs ∧ tt σ2 H2 fun b H3 =>
      if b = true then te σ2 H3 fun y H4 => ∃ acc, H4 D = some (.lst acc) ∧ acc.length < sizeLine ∧ Pv (i + 1) (upd H4 D (.lst (acc ++ [y]))) else Pv (i + 1) H3) (hd : ∀ H, Pv n H → Qd H) :
    ∃ W : Nat → Nat → Hp → Prop, (∃ m, W 0 m (upd H1 D (.lst []))) ∧ ∀ i m H, W i m H →
      (J.stop i H ∧ Qd H) ∨ (J.go i H ∧ ∃ Nx : Hp → Prop, (∀ H', Nx H' → ∃ m', m' < m ∧ W (i + 1) m' H') ∧ ∀ x H', J.yld i H x H' → g x (wipe σ vs) H' fun σ2 H2 => wipe σ2 vs = wipe σ vs ∧ tt σ2 H2 fun b H3 =>
        if b = true then te σ2 H3 fun y H4 => ∃ acc, H4 D = some (.lst acc) ∧ acc.length < sizeLine ∧ Nx (upd H4 D (.lst (acc ++ [y]))) else Nx H3) := by
  refine ⟨fun i m H => m = n - i ∧ i ≤ n ∧ Pv i H, ⟨n, rfl, Nat.zero_le _, h0⟩, ?_⟩
  rintro i m H ⟨rfl, hi, p⟩
  by_cases hlt : i < n
  · exact .inr ⟨hgo i H hlt p, Pv (i + 1), fun H' p' => ⟨n - (i + 1), by omega, rfl, hlt, p'⟩, fun x H' y => hs i x H H' hlt p y⟩
  · have e : i = n := by omega
    subst e
    exact .inl ⟨hst H p, hd H p⟩
theorem for_gen {J : It} {n : Nat} {g : TG} {tb : TS} {D : Ends} {σ : L2.St} {H : Hp} (Pv : Nat → L2.St → Hp → Prop) (h0 : Pv 0 σ H) (hgo : ∀ i σ H, i < n → Pv i σ H → J.go i H) (hst : ∀ σ H, Pv n σ H → J.stop n H)
    (hs : ∀ i x σ H H', i < n → Pv i σ H → J.yld i H x H' → g x σ H' fun σ2 H2 => tb { D with nx := Pv (i + 1), ct := Pv (i + 1), bk := D.nx } σ2 H2) (hd : ∀ σ H, Pv n σ H → D.nx σ H) :
    ∃ W : Nat → Nat → L2.St → Hp → Prop, (∃ m, W 0 m σ H) ∧ ∀ i m σ H, W i m σ H →
      (J.stop i H ∧ D.nx σ H) ∨ (J.go i H ∧ ∃ N : L2.St → Hp → Prop, (∀ σ' H', N σ' H' → ∃ m', m' < m ∧ W (i + 1) m' σ' H') ∧ ∀ x H', J.yld i H x H' → g x σ H' fun σ2 H2 => tb { D with nx := N, ct := N, bk := D.nx } σ2 H2) := by
  refine ⟨fun i m σ H => m = n - i ∧ i ≤ n ∧ Pv i σ H, ⟨n, rfl, Nat.zero_le _, h0⟩, ?_⟩
  rintro i m σ H ⟨rfl, hi, p⟩
  by_cases hlt : i < n
  · exact .inr ⟨hgo i σ H hlt p, Pv (i + 1), fun σ' H' p' => ⟨n - (i + 1), by omega, rfl, hlt, p'⟩, fun x H' y => hs i x σ H H' hlt p y⟩
  · have e : i = n := by omega
    subst e
    exact .inl ⟨hst σ H p, hd σ H p⟩
theorem yes_if {σ : L2.St} {H : Hp} {A B : Hp → Prop} (h : A H) : tYes σ H (fun b H3 => if b = true then A H3 else B H3) := by
  show if true = true then A H else B H
  exact iteT h
/-! ### signs and words -/
def sgn (c : Nat) : Bool := (decide (97 ≤ c) && decide (c ≤ 104)) || (decide (65 ≤ c) && decide (c ≤ 72))
theorem sgn_iff {c : Nat} : sgn c = true ↔ (97 ≤ c ∧ c ≤ 104) ∨ (65 ≤ c ∧ c ≤ 72) := by
  unfold sgn
  simp only [Bool.or_eq_true, Bool.and_eq_true, decide_eq_true_eq]
def flipC (c : Nat) : Nat := if 97 ≤ c then c - 32 else c + 32
def Wd (x : Str) : Prop := ∀ c ∈ tl x, sgn c = true
abbrev one (c : Nat) : Str := ⟨#[c]⟩
theorem tl_one (c : Nat) : tl (one c) = [c] := rfl
theorem len_one (c : Nat) : (one c).length = 1 := rfl
theorem len_app (x y : Str) : (x ++ y).length = x.length + y.length := by
  rw [len_tl, len_tl, len_tl, tl_append, List.length_append]
theorem Wd.app {x y : Str} (hx : Wd x) (hy : Wd y) : Wd (x ++ y) := fun c hc => by
  rw [tl_append, List.mem_append] at hc
  exact hc.elim (hx c) (hy c)
theorem wd_one {c : Nat} (h : sgn c = true) : Wd (one c) := fun d hd => by
  rw [tl_one, List.mem_singleton] at hd
  rw [hd]
  exact h
theorem tl_small : (Str.ofString "abcdefgh").cps.toList = [97, 98, 99, 100, 101, 102, 103, 104] := by decide +kernel
theorem tl_great : (Str.ofString "ABCDEFGH").cps.toList = [65, 66, 67, 68, 69, 70, 71, 72] := by decide +kernel
theorem tl_signs : (Str.ofString "aAbBcCdDeEfFgGhH").cps.toList = [97, 65, 98, 66, 99, 67, 100, 68, 101, 69, 102, 70, 103, 71, 104, 72] := by decide +kernel
theorem in_small {c : Nat} : (c ∈ (Str.ofString "abcdefgh").cps.toList) ↔ (97 ≤ c ∧ c ≤ 104) := by
  rw [tl_small]
  simp only [List.mem_cons, List.not_mem_nil, or_false]
  omega
theorem in_signs {c : Nat} : (c ∈ (Str.ofString "aAbBcCdDeEfFgGhH").cps.toList) ↔ sgn c = true := by
  rw [tl_signs, sgn_iff]
  simp only [List.mem_cons, List.not_mem_nil, or_false]
  omega
theorem upper_one {c : Nat} (h : 97 ≤ c ∧ c ≤ 104) : Txt.upper (one c) = one (c - 32) := by
  have : c = 97 ∨ c = 98 ∨ c = 99 ∨ c = 100 ∨ c = 101 ∨ c = 102 ∨ c = 103 ∨ c = 104 := by omega
  rcases this with rfl | rfl | rfl | rfl | rfl | rfl | rfl | rfl <;> decide +kernel
theorem lower_one {c : Nat} (h : 65 ≤ c ∧ c ≤ 72) : Txt.lower (one c) = one (c + 32) := by
  have : c = 65 ∨ c = 66 ∨ c = 67 ∨ c = 68 ∨ c = 69 ∨ c = 70 ∨ c = 71 ∨ c = 72 := by omega
  rcases this with rfl | rfl | rfl | rfl | rfl | rfl | rfl | rfl <;> decide +kernel
theorem flip_sgn {c : Nat} (h : sgn c = true) : sgn (flipC c) = true := by
  rw [sgn_iff] at h ⊢
  unfold flipC
  split <;> omega
theorem at_small {e : Int} (h0 : 0 ≤ e) (h1 : e < 8) : atI (Str.ofString "abcdefgh").cps.toList e = some (97 + e.toNat) := by
  have : e = 0 ∨ e = 1 ∨ e = 2 ∨ e = 3 ∨ e = 4 ∨ e = 5 ∨ e = 6 ∨ e = 7 := by omega
  rw [tl_small]
  rcases this with rfl | rfl | rfl | rfl | rfl | rfl | rfl | rfl <;> rfl
theorem at_great {e : Int} (h0 : 0 ≤ e) (h1 : e < 8) : atI (Str.ofString "ABCDEFGH").cps.toList e = some (65 + e.toNat) := by
  have : e = 0 ∨ e = 1 ∨ e = 2 ∨ e = 3 ∨ e = 4 ∨ e = 5 ∨ e = 6 ∨ e = 7 := by omega
  rw [tl_great]
  rcases this with rfl | rfl | rfl | rfl | rfl | rfl | rfl | rfl <;> rfl
theorem at_end {x : List Nat} (h : x ≠ []) : ∃ c, atI x (-1) = some c ∧ c ∈ x := by
  refine ⟨x.getLast h, ?_, List.getLast_mem h⟩
  have e := atI_last x.dropLast (x.getLast h)
  rw [List.dropLast_concat_getLast h] at e
  exact e
theorem str_ne {x : Str} (h : ¬ V.str x = V.str "") : tl x ≠ [] := fun e => h (by
  have : x = "" := ext_tl (by rw [e]; decide +kernel)
  rw [this])
theorem wd_nil : Wd "" := fun c hc => by
  have e : tl "" = [] := by decide +kernel
  rw [e] at hc
  cases hc
/-! ### two values of the same data -/
def flat4 : V → Bool
  | .non => true
  | .bl _ => true
  | .int _ => true
  | .str _ => true
  | _ => false
def Eqv (H : Hp) : Nat → V → V → Prop
  | 0, x, y => flat4 x = true ∧ x = y
  | n + 1, x, y => (flat4 x = true ∧ x = y) ∨ ∃ (p q : Addr) (xs ys : List V), x = .ref p ∧ y = .ref q ∧ ((H p = some (.lst xs) ∧ H q = some (.lst ys)) ∨ (H p = some (.tup xs) ∧ H q = some (.tup ys))) ∧
      xs.length = ys.length ∧ xs.length ≤ 100000 ∧ ∀ (i : Nat) (x y : V), xs[i]? = some x → ys[i]? = some y → Eqv H n x y
theorem Eqv.same {H H' : Hp} (s : Same H H') : ∀ {n : Nat} {x y : V}, Eqv H n x y → Eqv H' n x y
  | 0, _, _, h => h
  | _ + 1, _, _, .inl h => .inl h
  | _ + 1, _, _, .inr ⟨p, q, xs, ys, ex, ey, hp, hl, hz, k⟩ => .inr ⟨p, q, xs, ys, ex, ey, hp.elim (fun h => .inl ⟨s _ _ h.1, s _ _ h.2⟩) (fun h => .inr ⟨s _ _ h.1, s _ _ h.2⟩), hl, hz, fun i x y hx hy => Eqv.same s (k i x y hx hy)⟩
theorem Eqv.flat {H : Hp} {n : Nat} {x : V} (h : flat4 x = true) : Eqv H n x x := by
  cases n with
  | zero => exact ⟨h, rfl⟩
  | succ n => exact .inl ⟨h, rfl⟩
theorem flat_kit {K : PySem.W.Frag} {H : Hp} {x : V} (h : flat4 x = true) : ∃ (T : String) (b1 b2 b3 : Bool), TyX K H x (.type T) ∧ kitB T "list" = some false ∧ kitB T "tuple" = some false ∧ kitB T "bool" = some b1 ∧ kitB T "int" = some b2 ∧ kitB T "str" = some b3 := by
  cases x with
  | non => exact ⟨"NoneType", false, false, false, .base .non, by decide +kernel, by decide +kernel, by decide +kernel, by decide +kernel, by decide +kernel⟩
  | bl b => exact ⟨"bool", true, true, false, .base (.bl b), by decide +kernel, by decide +kernel, by decide +kernel, by decide +kernel, by decide +kernel⟩
  | int b => exact ⟨"int", false, true, false, .base (.int b), by decide +kernel, by decide +kernel, by decide +kernel, by decide +kernel, by decide +kernel⟩
  | str b => exact ⟨"str", false, false, true, .base (.str b), by decide +kernel, by decide +kernel, by decide +kernel, by decide +kernel, by decide +kernel⟩
  | byt b => cases h
  | flt b => cases h
  | ref b => cases h
  | ty b => cases h
theorem TyX.same {K : PySem.W.Frag} {H H' : Hp} {x : V} {T : String} (s : Same H H') (f : flat4 x = true) (h : TyX K H x (.type T)) : TyX K H' x (.type T) := by
  cases x with
  | non => cases h with | base h => cases h with | non => exact .base .non
  | bl b => cases h with | base h => cases h with | bl => exact .base (.bl b)
  | int b => cases h with | base h => cases h with | int => exact .base (.int b)
  | str b => cases h with | base h => cases h with | str => exact .base (.str b)
  | byt b => cases f
  | flt b => cases f
  | ref b => cases f
  | ty b => cases f
theorem kit2 {K : PySem.W.Frag} {T : String} (h1 : kitB T "list" = some false) (h2 : kitB T "tuple" = some false) : PySem.W.kitAny K (.type T) [.type "list", .type "tuple"] = some false :=
  kitAny_cons (kit_ty h1) (fun _ => kitAny_cons (kit_ty h2) (fun _ => kitAny_nil) (fun q => nomatch q)) (fun q => nomatch q)
theorem scal_flat {x : V} (h : flat4 x = true) : scal x x = true := by
  cases x <;> first | rfl | cases h
theorem ne_bl (b : Bool) : (!decide (V.bl b = V.bl b)) = false := by simp
end Sf
namespace Sf
open PySem PySem.Spec PyProof.Rows L2 TL
/-! ### blocks by what holds ahead and behind -/
def Stp {ι : Type} (X : Cx) (st : Stmt) (pre post : ι → L2.St → Hp → Prop) : Prop := ∃ t, PS X st t ∧ ∀ (i : ι) (D : Ends) (σ : L2.St) (H : Hp), pre i σ H → (∀ σ' H', post i σ' H' → D.nx σ' H') → t D σ H
def Blk {ι : Type} (X : Cx) (sts : List Stmt) (pre post : ι → L2.St → Hp → Prop) : Prop := ∃ t, PSs X sts t ∧ ∀ (i : ι) (D : Ends) (σ : L2.St) (H : Hp), pre i σ H → (∀ σ' H', post i σ' H' → D.nx σ' H') → t D σ H
theorem Blk.cons {ι : Type} {X : Cx} {st : Stmt} {rest : List Stmt} {pre post : ι → L2.St → Hp → Prop} (mid : ι → L2.St → Hp → Prop) (a : Stp X st pre mid) (b : Blk X rest mid post) : Blk X (st :: rest) pre post := by
  obtain ⟨t, ht, h⟩ := a
  obtain ⟨u, hu, k⟩ := b
  exact ⟨tSeq t u, pss_cons ht hu, fun i D σ H hp hq => h i _ σ H hp fun σ' H' hm => k i D σ' H' hm hq⟩
theorem Blk.one {ι : Type} {X : Cx} {st : Stmt} {pre post : ι → L2.St → Hp → Prop} (a : Stp X st pre post) : Blk X [st] pre post := by
  obtain ⟨t, ht, h⟩ := a
  exact ⟨t, pss_one ht, h⟩
/-- the same within a block -/
theorem Stp.rng {ι : Type} {X : Cx} {tg iter : Expr} {body : List Stmt} {pos : Pos} {wi : TI} {k : Nat} {pre post : ι → L2.St → Hp → Prop} (Pv : ι → Nat → Nat → L2.St → Hp → Prop) (hp : PassesOwn (model X.prog X.w) X.A X.env X.xe) (hc : X.calm = true) (hi : PI X tg iter wi) (hg : PG X tg (gName k))
    (hk : ∀ (j : ι) (σ : L2.St) (H : Hp) (R : It → Hp → Prop), pre j σ H → (∀ n H1, Pv j n 0 σ H1 → R (Itr 0 n) H1) → wi σ H R)
    (hb : Blk (ι := ι × Nat × Nat) X body (fun i σ H => i.2.2 < i.2.1 ∧ ∃ σ0, Pv i.1 i.2.1 i.2.2 σ0 H ∧ σ = σ0.set k (some (.int (0 + (i.2.2 : Int))))) (fun i σ H => Pv i.1 i.2.1 (i.2.2 + 1) σ H))
    (hr : ∀ j n σ H, Pv j n n σ H → post j σ H) (hs : ∀ x, foldedSetIterable iter X.env x = pure x := by intro _; rfl) : Stp X (.For tg iter body [] pos) pre post := by
  obtain ⟨tb, hb, kb⟩ := hb
  refine ⟨_, ps_for hp hc hi hg hb hs, fun j D σ H h0 hq => ?_⟩
  refine hk j σ H _ h0 fun n H1 h0 => ?_
  exact for_range (lo := 0) (n := n) (Pv j n) h0 (fun i σ1 H2 hlt hv => kb (j, n, i) _ _ _ ⟨hlt, σ1, hv, rfl⟩ fun σ' H' h => h) (fun σ1 H2 hv => hq σ1 H2 (hr j n σ1 H2 hv))
/-- the rest of a def's body -/
def Tl (X : Cx) (sts : List Stmt) (D : Ends) (J : L2.St → Hp → Prop) : Prop := ∃ u, PSs X sts u ∧ ∀ σ H, J σ H → u D σ H
theorem Tl.start {X : Cx} {sts : List Stmt} {D : Ends} {σ : L2.St} {H : Hp} (h : Tl X sts D (fun σ' H' => σ' = σ ∧ H' = H)) : ∃ t, PSs X sts t ∧ t D σ H := by
  obtain ⟨u, hu, k⟩ := h
  exact ⟨u, hu, k σ H ⟨rfl, rfl⟩⟩
theorem Tl.cons {X : Cx} {st : Stmt} {rest : List Stmt} {D : Ends} {J : L2.St → Hp → Prop} (mid : L2.St → Hp → Prop) (a : Stp (ι := Unit) X st (fun _ => J) (fun _ => mid)) (b : Tl X rest D mid) : Tl X (st :: rest) D J := by
  obtain ⟨t, ht, h⟩ := a
  obtain ⟨u, hu, k⟩ := b
  exact ⟨tSeq t u, pss_cons ht hu, fun σ H hj => h () _ σ H hj k⟩
end Sf
namespace Sf
open PySem PySem.Spec PyProof.Rows L2 TL
section
variable {P : Program} {w : World} {K : PySem.W.Frag} {mg : Str → Option Value} {base : Heap}
/-! ### _law_pull: some number below many -/
def spPull : Sp := fun vs H Q _ => ∃ (b l : Addr) (n : Int), vs = [.ref b, .int n] ∧ Bag H b l ∧ 0 < n ∧ n < 1073741824 ∧
  ∀ (d : Int) (H' : Hp), 0 ≤ d → d < n → Bag H' b l → Fx b H H' → Q (.int d) H'
theorem sc_pull : FnScope ["_law_bag", "_law_many", "_law_cell", "_law_digit"] ["_law_bag", "_law_many"] (defScope s__law_pull) := ⟨rfl, rfl, rfl, by decide +kernel, rfl, by decide +kernel, by decide +kernel⟩
theorem ok_pull {f : Addr} {fd : FuncData} {j : Nat} (F : Fun K "_law_pull" "_law_pull" s__law_pull f fd) (ml : mg "len" = none) : FnOk P w K mg base CX0 (j + 1) f fd ["_law_bag", "_law_many"] spPull := by
  refine F.ok sc_pull (fun vs H Q E h => ?_) (fun cdv A outer s H vs Q E hr h => ?_)
  · obtain ⟨b, l, n, rfl, _⟩ := h
    rfl
  · obtain ⟨b, l, n, rfl, ⟨ns, k, z, r, hB⟩, hn0, hn1, q⟩ := h
    refine seq_by (fun σ H1 => ∃ (y2 : Option V) (k z r : Int), σ = [some (.ref b), some (.int n), y2, none] ∧ BagL H1 b l ns k z r ∧ Fx b H H1) ?_ ?_
    · refine ⟨_, pss_cons (ps_if (pt_cmpR op_gt (pe_ix ix_list (pv 0) pe_int (fun _ _ => rfl)) pe_int (nomark _))
          (pss_cons (ps_set (i := 3) sc_pull.nd rfl (.inl rfl) (pe_op op_mod (pe_ix ix_list (pv 0) pe_int (fun _ _ => rfl)) (pv 1)))
          (pss_cons (ps_asg (pe_op op_fdiv (pe_ix ix_list (pv 0) pe_int (fun _ _ => rfl)) (pv 1)) (pg_sub (pv 0) pe_int set_list))
          (pss_one (ps_ret (pv 3))))) pss_nil)
        (pss_cons (ps_asg (pe_op op_mod (pe_op op_add (pe_op op_add (pe_op op_mul (pe_op op_mod (pe_op op_mul (pe_ix ix_list (pv 0) pe_int (fun _ _ => rfl)) (pe_ix ix_list (pv 0) pe_int (fun _ _ => rfl))) pe_int) pe_int)
            (pe_op op_mul (pe_ix ix_list (pv 0) pe_int (fun _ _ => rfl)) pe_int)) pe_int) pe_int) (pg_sub (pv 0) pe_int set_list))
        (pss_one (ps_ret (pe_op op_mod (pe_op op_add (pe_op op_fdiv (pe_ix ix_list (pv 0) pe_int (fun _ _ => rfl)) pe_int) (pe_op op_mul (pe_op op_mod (pe_ix ix_list (pv 0) pe_int (fun _ _ => rfl)) pe_int) pe_int)) (pv 1))))), ?_⟩
      rintro σ H1 ⟨y2, k, z, r, rfl, B, fx⟩
      have hS := SqL.of (K := K) B.hb
      have rr0 := B.r0
      have rr1 := B.r1
      have zz0 := B.z0
      refine ⟨_, rfl, b, _, 2, _, rfl, rfl, hS, at_of (j := 2) rfl rfl, z, 0, rfl, rfl, _, rfl, ite2 (fun e => ?_) (fun e => ?_)⟩
      · have zp : 0 < z := of_decide_eq_true e
        refine ⟨_, rfl, b, _, 2, _, rfl, rfl, hS, at_of (j := 2) rfl rfl, _, rfl, z, n, rfl, rfl, hn0, ?_⟩
        refine ⟨_, rfl, b, _, 2, _, rfl, rfl, hS, at_of (j := 2) rfl rfl, _, rfl, z, n, rfl, rfl, ⟨hn0, hn1⟩, ?_⟩
        refine ⟨_, rfl, b, _, 2, 2, rfl, rfl, B.hb, rfl, ?_⟩
        refine ⟨_, rfl, ?_⟩
        refine q _ _ (Int.emod_nonneg _ (by omega)) (Int.emod_lt_of_pos _ hn0) ⟨ns, k, z / n, r, B.set B.k0 (Int.ediv_nonneg B.z0 (by omega)) B.r0 B.r1⟩ fx.upd
      · refine ⟨_, rfl, b, _, 3, _, rfl, rfl, hS, at_of (j := 3) rfl rfl, _, rfl, b, _, 3, _, rfl, rfl, hS, at_of (j := 3) rfl rfl, r, r, rfl, rfl, .inl ⟨by omega, by omega⟩,
          _, 2147483629, rfl, rfl, (by show (0 : Int) < 2147483629; decide), _, 5, rfl, rfl, .inr ⟨by decide, by decide⟩,
          _, rfl, b, _, 3, _, rfl, rfl, hS, at_of (j := 3) rfl rfl, r, 16807, rfl, rfl, .inr ⟨by decide, by decide⟩, _, _, rfl, rfl, _, 2531011, rfl, rfl, _, 2147483647, rfl, rfl, (by show (0 : Int) < 2147483647; decide), ?_⟩
        refine ⟨_, rfl, b, _, 3, 3, rfl, rfl, B.hb, rfl, ?_⟩
        have h0 : 0 ≤ (r * r % 2147483629 * 5 + r * 16807 + 2531011) % 2147483647 := Int.emod_nonneg _ (by decide)
        have h1 : (r * r % 2147483629 * 5 + r * 16807 + 2531011) % 2147483647 < 2147483647 := Int.emod_lt_of_pos _ (by decide)
        have B' : BagL (upd H1 b (.lst [.ref l, .int k, .int z, .int ((r * r % 2147483629 * 5 + r * 16807 + 2531011) % 2147483647)])) b l ns k z ((r * r % 2147483629 * 5 + r * 16807 + 2531011) % 2147483647) := B.set B.k0 B.z0 h0 h1
        have hS' := SqL.of (K := K) B'.hb
        refine ⟨_, rfl, b, _, 3, _, rfl, rfl, hS', at_of (j := 3) rfl rfl, _, 61, rfl, rfl, ⟨by decide, by decide⟩,
          _, rfl, b, _, 3, _, rfl, rfl, hS', at_of (j := 3) rfl rfl, _, 8191, rfl, rfl, (by show (0 : Int) < 8191; decide), _, 31, rfl, rfl, .inr ⟨by decide, by decide⟩, _, _, rfl, rfl, _, rfl, _, n, rfl, rfl, hn0, ?_⟩
        exact q _ _ (Int.emod_nonneg _ (by omega)) (Int.emod_lt_of_pos _ hn0) ⟨ns, k, z, _, B'⟩ fx.upd
    · intro u hu
      have hS := SqL.of (K := K) hB.hb
      have hS2 := SqL.of (K := K) hB.hl
      have rr0 := hB.r0
      have rr1 := hB.r1
      have zz0 := hB.z0
      have kk0 := hB.k0
      refine ⟨_, ps_if (PW.pt (pw_and (pt_cmpR op_eq (pe_ix ix_list (pv 0) pe_int (fun _ _ => rfl)) pe_int (nomark _))
            (pw_and1 (pt_cmpR op_lt (pe_ix ix_list (pv 0) pe_int (fun _ _ => rfl)) (pe_callB call_len_seq (by rfl) ml PySem.boot_len (pa_cons (pe_ix ix_list (pv 0) pe_int (fun _ _ => rfl)) pa_nil)) (nomark _)))))
          (pss_cons (ps_set (i := 2) sc_pull.nd rfl (.inl rfl) (pe_ix ix_list (pe_ix ix_list (pv 0) pe_int (fun _ _ => rfl)) (pe_ix ix_list (pv 0) pe_int (fun _ _ => rfl)) (fun _ _ => rfl)))
          (pss_cons (ps_asg (pe_op op_add (pe_ix ix_list (pv 0) pe_int (fun _ _ => rfl)) pe_int) (pg_sub (pv 0) pe_int set_list))
          (pss_one (ps_if (pt_cmpR op_ge (pv 2) (pe_op op_pow pe_int pe_int) (nomark _))
            (pss_one (ps_asg (pv 2) (pg_sub (pv 0) pe_int set_list)))
            (pss_one (ps_asg (pe_op op_mod (pe_op op_add (pe_op op_add (pe_op op_mul (pe_ix ix_list (pv 0) pe_int (fun _ _ => rfl)) pe_int) (pe_op op_mul (pe_op op_mod (pv 2) pe_int) pe_int)) pe_int) pe_int) (pg_sub (pv 0) pe_int set_list)))))))
          pss_nil, ?_⟩
      refine ⟨_, rfl, b, _, 2, _, rfl, rfl, hS, at_of (j := 2) rfl rfl, rfl, _, rfl, ite2 (fun e => ?_) (fun e => ?_)⟩
      · refine ⟨_, rfl, b, _, 1, _, rfl, rfl, hS, at_of (j := 1) rfl rfl, _, rfl, b, _, 0, _, rfl, rfl, hS, at_of (j := 0) rfl rfl, l, _, rfl, .inl hS2, k, _, rfl, rfl, _, rfl, ite2 (fun e2 => ?_) (fun e2 => ?_)⟩
        · obtain ⟨v, hv⟩ := int_at (ns := ns) kk0 (of_decide_eq_true e2)
          refine ⟨_, rfl, b, _, 0, _, rfl, rfl, hS, at_of (j := 0) rfl rfl, _, rfl, b, _, 1, _, rfl, rfl, hS, at_of (j := 1) rfl rfl, l, _, k, _, rfl, rfl, hS2, hv, ?_⟩
          refine ⟨_, rfl, b, _, 1, _, rfl, rfl, hS, at_of (j := 1) rfl rfl, k, 1, rfl, rfl, _, rfl, b, _, 1, 1, rfl, rfl, hB.hb, rfl, ?_⟩
          have B' : BagL (upd H b (.lst [.ref l, .int (k + 1), .int z, .int r])) b l ns (k + 1) z r := hB.set (by omega) zz0 rr0 rr1
          have hS' := SqL.of (K := K) B'.hb
          refine ⟨_, rfl, 10, 18, rfl, rfl, ⟨by decide, by decide, by decide⟩, v, _, rfl, rfl, _, rfl, ite2 (fun e3 => ?_) (fun e3 => ?_)⟩
          · have hv0 : 0 ≤ v := by
              have := of_decide_eq_true e3
              have h18 : (10 : Int) ^ (18 : Int).toNat = 1000000000000000000 := by decide +kernel
              rw [h18] at this
              omega
            refine ⟨_, rfl, _, rfl, b, _, 2, 2, rfl, rfl, B'.hb, rfl, ?_⟩
            exact hu _ _ ⟨some (.int v), k + 1, v, r, rfl, B'.set B'.k0 hv0 rr0 rr1, Fx.refl.upd.upd⟩
          · refine ⟨_, rfl, b, _, 3, _, rfl, rfl, hS', at_of (j := 3) rfl rfl, r, 48271, rfl, rfl, .inr ⟨by decide, by decide⟩, _, rfl, v, 2147483629, rfl, rfl, (by show (0 : Int) < 2147483629; decide), _, 69621, rfl, rfl, .inr ⟨by decide, by decide⟩,
              _, _, rfl, rfl, _, 12345, rfl, rfl, _, 2147483647, rfl, rfl, (by show (0 : Int) < 2147483647; decide), ?_⟩
            refine ⟨_, rfl, b, _, 3, 3, rfl, rfl, B'.hb, rfl, ?_⟩
            exact hu _ _ ⟨some (.int v), k + 1, z, _, rfl, B'.set B'.k0 B'.z0 (Int.emod_nonneg _ (by decide)) (Int.emod_lt_of_pos _ (by decide)), Fx.refl.upd.upd⟩
        · exact hu _ _ ⟨none, k, z, r, rfl, hB, .refl⟩
      · exact iteF (hu _ _ ⟨none, k, z, r, rfl, hB, .refl⟩)
end
end Sf
namespace Sf
open PySem PySem.Spec PyProof.Rows L2 TL
section
variable {P : Program} {w : World} {K : PySem.W.Frag} {mg : Str → Option Value} {base : Heap}
abbrev HasPull (P : Program) (w : World) (K : PySem.W.Frag) (mg : Str → Option Value) (base : Heap) : Prop := Has P w K mg base 1 "_law_pull" ["_law_bag", "_law_many"] spPull
theorem has_pull (F : FnAt K mg "_law_pull" s__law_pull ["_law_bag", "_law_many"]) (B : Blt mg) : HasPull P w K mg base := F.has fun F => ok_pull F B.len
end
end Sf
namespace Sf
open PySem PySem.Spec PyProof.Rows L2 TL
section
variable {P : Program} {w : World} {K : PySem.W.Frag} {mg : Str → Option Value} {base : Heap}
/-! ### _law_begin -/
def spBegin (K : PySem.W.Frag) : Sp := fun vs H Q _ => ∃ (a : Addr) (ns : List Int), vs = [.ref a] ∧ SqL K H a (ns.map V.int) ∧ ∀ (b l : Addr) (H' : Hp), H b = none → Bag H' b l → Same H H' → Q (.ref b) H'
abbrev HasBegin (P : Program) (w : World) (K : PySem.W.Frag) (mg : Str → Option Value) (base : Heap) : Prop := Has P w K mg base 1 "_law_begin" ["_law_script"] (spBegin K)
theorem sc_begin : FnScope ["_law_script", "_law_salt", "_law_cell"] ["_law_script"] (defScope s__law_begin) := ⟨rfl, rfl, rfl, by decide +kernel, rfl, by decide +kernel, by decide +kernel⟩
theorem cut_ints (ns : List Int) (lo hi : Option Int) : ∃ ms : List Int, cutV (ns.map V.int) lo hi = ms.map V.int := by
  refine ⟨(ns.drop (HT.sIx (ns.map V.int).length 0 lo)).take (HT.sIx (ns.map V.int).length (ns.map V.int).length hi - HT.sIx (ns.map V.int).length 0 lo), ?_⟩
  unfold cutV
  rw [List.map_take, List.map_drop]
theorem has_begin (F : FnAt K mg "_law_begin" s__law_begin ["_law_script"]) (B : Blt mg) : HasBegin P w K mg base := F.has fun F => by
  refine F.ok sc_begin (fun vs H Q E h => ?_) (fun cdv A outer s H vs Q E hr h => ?_)
  · obtain ⟨a, ns, rfl, _⟩ := h
    rfl
  · obtain ⟨a, ns, rfl, hS, q⟩ := h
    refine ⟨_, pss_cons (ps_set (i := 1) sc_begin.nd rfl (.inl rfl) pe_int)
      (pss_cons (ps_for PassesOwn.never rfl (pi_list (pe_slice sl_list (pv 0) po_none (po_some pe_int))) (pg_name (i := 2) sc_begin.nd rfl (.inl rfl))
        (pss_one (ps_set (i := 1) sc_begin.nd rfl (.inl rfl) (pe_op op_mod (pe_op op_add (pe_op op_add (pe_op op_mul (pv 1) pe_int) (pe_op op_mod (pv 2) pe_int)) pe_int) pe_int))))
      (pss_one (ps_ret (pe_lst (pa_cons (pe_callTy call_list_of (by rfl) B.list (by decide +kernel) (pa_cons (pe_slice sl_list (pv 0) po_none (po_some pe_int)) pa_nil)) (pa_cons pe_int (pa_cons pe_int (pa_cons (pv 1) pa_nil)))))))), ?_⟩
    obtain ⟨ms, em⟩ := cut_ints ns none (some 63)
    refine ⟨_, rfl, 63, rfl, a, _, rfl, hS, fun p np => ?_⟩
    have s1 : Same H (upd H p (.lst (cutV (ns.map V.int) none (some 63)))) := same_upd np
    have hp : SqL K (upd H p (.lst (cutV (ns.map V.int) none (some 63)))) p (ms.map V.int) := SqL.of (by rw [upd_same, em])
    refine ⟨p, rfl, ⟨_, hp⟩, for_list (K := K) (a := p) (xs := ms.map V.int) (fun i σ H2 => ∃ (r : Int) (y : Option V), σ = [some (.ref a), some (.int r), y] ∧ 0 ≤ r ∧ r < 2147483647 ∧ H2 = upd H p (.lst (cutV (ns.map V.int) none (some 63))))
      ⟨977, none, rfl, by decide, by decide, rfl⟩ (fun i σ H2 _ ⟨_, _, _, _, _, e⟩ => by rw [e]; exact hp) ?_ ?_⟩
    · rintro i v σ H2 hi ⟨r, y, rfl, r0, r1, rfl⟩
      obtain ⟨z, rfl⟩ : ∃ z, v = V.int z := by
        rw [List.getElem?_map] at hi
        cases e : ms[i]? with
        | none =>
          rw [e] at hi
          cases hi
        | some z =>
          rw [e] at hi
          exact ⟨z, (Option.some.inj hi).symm⟩
      refine ⟨_, rfl, r, 1009, rfl, rfl, .inr ⟨by decide, by decide⟩, _, rfl, z, 2147483629, rfl, rfl, (by show (0 : Int) < 2147483629; decide), _, _, rfl, rfl, _, 7, rfl, rfl, _, 2147483629, rfl, rfl, (by show (0 : Int) < 2147483629; decide), ?_⟩
      have h0 : 0 ≤ (r * 1009 + z % 2147483629 + 7) % 2147483629 := Int.emod_nonneg _ (by decide)
      have h1 : (r * 1009 + z % 2147483629 + 7) % 2147483629 < 2147483629 := Int.emod_lt_of_pos _ (by decide)
      exact ⟨_, _, rfl, h0, by omega, rfl⟩
    · rintro σ H2 ⟨r, y, rfl, r0, r1, rfl⟩
      refine ⟨_, rfl, 63, rfl, a, _, rfl, s1.seq hS, fun p2 np2 => ?_⟩
      have hp2 : SqL K (upd (upd H p (.lst (cutV (ns.map V.int) none (some 63)))) p2 (.lst (cutV (ns.map V.int) none (some 63)))) p2 (ms.map V.int) := SqL.of (by rw [upd_same, em])
      have s2 := s1.trans (same_upd (o := .lst (cutV (ns.map V.int) none (some 63))) np2)
      refine ⟨p2, _, rfl, .inl hp2, fun l nl => ?_⟩
      have s3 := s2.trans (same_upd (o := .lst (ms.map V.int)) nl)
      refine ⟨_, rfl, (by show 4 ≤ sizeLine; decide), fun b nb => ?_⟩
      have s4 := s3.trans (same_upd (o := .lst [.ref l, .int 0, .int 0, .int r]) nb)
      refine q b l _ (s3.free nb) ⟨ms, 0, 0, r, upd_same, ?_, by decide, by decide, r0, r1⟩ s4
      have nlb : l ≠ b := fun z => by
        rw [← z, upd_same] at nb
        cases nb
      rw [upd_ne nlb, upd_same]
end
end Sf
namespace Sf
open PySem PySem.Spec PyProof.Rows L2 TL
section
variable {P : Program} {w : World} {K : PySem.W.Frag} {mg : Str → Option Value} {base : Heap}
/-! ### _law_same: True of two values of the same data -/
def spSame (n : Nat) : Sp := fun vs H Q _ => ∃ x y : V, vs = [x, y] ∧ Eqv H n x y ∧ ∀ H', Same H H' → Q (.bl true) H'
abbrev HasSame (P : Program) (w : World) (K : PySem.W.Frag) (mg : Str → Option Value) (base : Heap) (n : Nat) : Prop := Has P w K mg base (n + 1) "_law_same" ["_law_found", "_law_due"] (spSame n)
theorem sc_same : FnScope ["_law_found", "_law_due", "_law_one", "_law_other"] ["_law_found", "_law_due"] (defScope s__law_same) := ⟨rfl, rfl, rfl, by decide +kernel, rfl, by decide +kernel, by decide +kernel⟩
theorem all_true (n : Nat) : (List.replicate n true).all id = true := by
  induction n with
  | zero => rfl
  | succ n ih => rw [List.replicate_succ, List.all_cons, ih]; rfl
theorem has_same (F : FnAt K mg "_law_same" s__law_same ["_law_found", "_law_due"]) (B : Blt mg) : ∀ n, HasSame P w K mg base n := by
  intro n
  induction n with
  | zero =>
    refine F.has fun F => ?_
    refine F.ok sc_same (fun vs H Q E h => ?_) (fun cdv A outer s H vs Q E hr h => ?_)
    · obtain ⟨x, y, rfl, _⟩ := h
      rfl
    · obtain ⟨x, y, rfl, ⟨fx, rfl⟩, q⟩ := h
      obtain ⟨T, b1, b2, b3, ty, k1, k2, k3, k4, k5⟩ := flat_kit (K := K) (H := H) fx
      refine ⟨_, pss_cons (ps_if (pt_val (pe_callB call_isiT (by rfl) B.isinstance (by decide +kernel) (pa_cons (pv 1) (pa_cons (pe_tup (pa_cons (pe_bltn (v := .ty "list") (by rfl) B.list (by decide +kernel) rfl) (pa_cons (pe_bltn (v := .ty "tuple") (by rfl) B.tuple (by decide +kernel) rfl) pa_nil))) pa_nil)))) pss_never pss_nil)
        (pss_cons (ps_if (PW.pt (pw_or (pt_cmpR op_isN (pv 1) pe_non (nomark _)) (pw_or1 (pt_cmpR op_isN (pv 0) pe_non (nomark _))))) (pss_one (ps_ret (pe_and (pe_cmpR op_isN (pv 0) pe_non (nomark _)) (pe_one (pe_cmpR op_isN (pv 1) pe_non (nomark _)))))) pss_nil)
        (pss_cons (ps_if (PW.pt (pw_or (pt_cmpR op_ne (pe_callB call_isi (by rfl) B.isinstance (by decide +kernel) (pa_cons (pv 0) (pa_cons (pe_bltn (v := .ty "bool") (by rfl) B.bool (by decide +kernel) rfl) pa_nil))) (pe_callB call_isi (by rfl) B.isinstance (by decide +kernel) (pa_cons (pv 1) (pa_cons (pe_bltn (v := .ty "bool") (by rfl) B.bool (by decide +kernel) rfl) pa_nil))) (nomark _))
            (pw_or1 (pt_cmpR op_ne (pe_callB call_isi (by rfl) B.isinstance (by decide +kernel) (pa_cons (pv 0) (pa_cons (pe_bltn (v := .ty "int") (by rfl) B.int (by decide +kernel) rfl) pa_nil))) (pe_callB call_isi (by rfl) B.isinstance (by decide +kernel) (pa_cons (pv 1) (pa_cons (pe_bltn (v := .ty "int") (by rfl) B.int (by decide +kernel) rfl) pa_nil))) (nomark _))))) pss_never pss_nil)
        (pss_one (ps_ret (pe_and (pe_cmpR op_eq (pe_callB call_isi (by rfl) B.isinstance (by decide +kernel) (pa_cons (pv 0) (pa_cons (pe_bltn (v := .ty "str") (by rfl) B.str (by decide +kernel) rfl) pa_nil))) (pe_callB call_isi (by rfl) B.isinstance (by decide +kernel) (pa_cons (pv 1) (pa_cons (pe_bltn (v := .ty "str") (by rfl) B.str (by decide +kernel) rfl) pa_nil))) (nomark _)) (pe_one (pe_cmpR op_eq (pv 0) (pv 1) (nomark _)))))))), ?_⟩
      refine ⟨x, rfl, (by show 2 ≤ sizeLine; decide), fun p np => ?_⟩
      have s1 := same_upd (o := .tup [.ty "list", .ty "tuple"]) np
      have ty1 := TyX.same s1 fx ty
      refine ⟨x, p, _, _, [.type "list", .type "tuple"], false, rfl, upd_same, .cons (.ty _) (.cons (.ty _) .nil), ty1, kit2 k1 k2, _, rfl, iteF ?_⟩
      refine ⟨x, rfl, rfl, _, rfl, ite2 (fun e => ?_) (fun e => ?_)⟩
      · have ex : x = .non := of_decide_eq_true e
        subst ex
        refine iteT ⟨_, rfl, rfl, _, rfl, ite2 (fun _ => ⟨_, rfl, rfl, ?_⟩) (fun z => absurd (decide_eq_true rfl) z)⟩
        exact q _ s1
      · refine ⟨x, rfl, rfl, _, rfl, ite2 (fun e2 => absurd e2 e) (fun _ => ?_)⟩
        refine ⟨x, rfl, x, _, _, _, b1, rfl, .ty "bool", ty1, kit_ty k3, x, rfl, x, _, _, _, b1, rfl, .ty "bool", ty1, kit_ty k3, rfl, _, rfl, ite2 (fun z => ?_) (fun _ => ?_)⟩
        · rw [ne_bl] at z
          cases z
        · refine ⟨x, rfl, x, _, _, _, b2, rfl, .ty "int", ty1, kit_ty k4, x, rfl, x, _, _, _, b2, rfl, .ty "int", ty1, kit_ty k4, rfl, _, rfl, ite2 (fun z => ?_) (fun _ => ?_)⟩
          · rw [ne_bl] at z
            cases z
          · refine ⟨x, rfl, x, _, _, _, b3, rfl, .ty "str", ty1, kit_ty k5, x, rfl, x, _, _, _, b3, rfl, .ty "str", ty1, kit_ty k5, rfl, _, rfl, ite2 (fun z => ?_) (fun z => absurd (decide_eq_true rfl) z)⟩
            refine ⟨x, rfl, x, rfl, scal_flat fx, ?_⟩
            rw [decide_eq_true rfl]
            exact q _ s1
  | succ n ih =>
    obtain ⟨fR, fdR, gR, kR, bR, GR⟩ := ih
    refine F.has fun F => ?_
    refine F.ok sc_same (fun vs H Q E h => ?_) (fun cdv A outer s H vs Q E hr h => ?_)
    · obtain ⟨x, y, rfl, _⟩ := h
      rfl
    · obtain ⟨x, y, rfl, hE, q⟩ := h
      refine seq_by (fun σ H1 => σ = [some x, some x, none, none] ∧ flat4 x = true ∧ Same H H1) ?_ ?_
      · refine ⟨_, (pss_cons (ps_if (PW.pt (pw_or (pt_cmpR op_isN (pv 1) pe_non (nomark _)) (pw_or1 (pt_cmpR op_isN (pv 0) pe_non (nomark _))))) (pss_one (ps_ret (pe_and (pe_cmpR op_isN (pv 0) pe_non (nomark _)) (pe_one (pe_cmpR op_isN (pv 1) pe_non (nomark _)))))) pss_nil)
        (pss_cons (ps_if (PW.pt (pw_or (pt_cmpR op_ne (pe_callB call_isi (by rfl) B.isinstance (by decide +kernel) (pa_cons (pv 0) (pa_cons (pe_bltn (v := .ty "bool") (by rfl) B.bool (by decide +kernel) rfl) pa_nil))) (pe_callB call_isi (by rfl) B.isinstance (by decide +kernel) (pa_cons (pv 1) (pa_cons (pe_bltn (v := .ty "bool") (by rfl) B.bool (by decide +kernel) rfl) pa_nil))) (nomark _))
            (pw_or1 (pt_cmpR op_ne (pe_callB call_isi (by rfl) B.isinstance (by decide +kernel) (pa_cons (pv 0) (pa_cons (pe_bltn (v := .ty "int") (by rfl) B.int (by decide +kernel) rfl) pa_nil))) (pe_callB call_isi (by rfl) B.isinstance (by decide +kernel) (pa_cons (pv 1) (pa_cons (pe_bltn (v := .ty "int") (by rfl) B.int (by decide +kernel) rfl) pa_nil))) (nomark _))))) pss_never pss_nil)
        (pss_one (ps_ret (pe_and (pe_cmpR op_eq (pe_callB call_isi (by rfl) B.isinstance (by decide +kernel) (pa_cons (pv 0) (pa_cons (pe_bltn (v := .ty "str") (by rfl) B.str (by decide +kernel) rfl) pa_nil))) (pe_callB call_isi (by rfl) B.isinstance (by decide +kernel) (pa_cons (pv 1) (pa_cons (pe_bltn (v := .ty "str") (by rfl) B.str (by decide +kernel) rfl) pa_nil))) (nomark _)) (pe_one (pe_cmpR op_eq (pv 0) (pv 1) (nomark _)))))))), ?_⟩
        rintro σ H1 ⟨rfl, fx, s1⟩
        obtain ⟨T, b1, b2, b3, ty1, k1, k2, k3, k4, k5⟩ := flat_kit (K := K) (H := H1) fx
        refine ⟨x, rfl, rfl, _, rfl, ite2 (fun e => ?_) (fun e => ?_)⟩
        · have ex : x = .non := of_decide_eq_true e
          subst ex
          refine iteT ⟨_, rfl, rfl, _, rfl, ite2 (fun _ => ⟨_, rfl, rfl, ?_⟩) (fun z => absurd (decide_eq_true rfl) z)⟩
          exact q _ s1
        · refine ⟨x, rfl, rfl, _, rfl, ite2 (fun e2 => absurd e2 e) (fun _ => ?_)⟩
          refine ⟨x, rfl, x, _, _, _, b1, rfl, .ty "bool", ty1, kit_ty k3, x, rfl, x, _, _, _, b1, rfl, .ty "bool", ty1, kit_ty k3, rfl, _, rfl, ite2 (fun z => ?_) (fun _ => ?_)⟩
          · rw [ne_bl] at z
            cases z
          · refine ⟨x, rfl, x, _, _, _, b2, rfl, .ty "int", ty1, kit_ty k4, x, rfl, x, _, _, _, b2, rfl, .ty "int", ty1, kit_ty k4, rfl, _, rfl, ite2 (fun z => ?_) (fun _ => ?_)⟩
            · rw [ne_bl] at z
              cases z
            · refine ⟨x, rfl, x, _, _, _, b3, rfl, .ty "str", ty1, kit_ty k5, x, rfl, x, _, _, _, b3, rfl, .ty "str", ty1, kit_ty k5, rfl, _, rfl, ite2 (fun z => ?_) (fun z => absurd (decide_eq_true rfl) z)⟩
              refine ⟨x, rfl, x, rfl, scal_flat fx, ?_⟩
              rw [decide_eq_true rfl]
              exact q _ s1
      · intro u hu
        refine ⟨_, ps_if (pt_val (pe_callB call_isiT (by rfl) B.isinstance (by decide +kernel) (pa_cons (pv 1) (pa_cons (pe_tup (pa_cons (pe_bltn (v := .ty "list") (by rfl) B.list (by decide +kernel) rfl) (pa_cons (pe_bltn (v := .ty "tuple") (by rfl) B.tuple (by decide +kernel) rfl) pa_nil))) pa_nil))))
          (pss_cons (ps_if (PW.pt (pw_or (pt_cmpR op_ne (pe_callB call_isi (by rfl) B.isinstance (by decide +kernel) (pa_cons (pv 0) (pa_cons (pe_bltn (v := .ty "list") (by rfl) B.list (by decide +kernel) rfl) pa_nil))) (pe_callB call_isi (by rfl) B.isinstance (by decide +kernel) (pa_cons (pv 1) (pa_cons (pe_bltn (v := .ty "list") (by rfl) B.list (by decide +kernel) rfl) pa_nil))) (nomark _)) (pw_or1 (pt_cmpR op_ne (pe_callB call_isi (by rfl) B.isinstance (by decide +kernel) (pa_cons (pv 0) (pa_cons (pe_bltn (v := .ty "tuple") (by rfl) B.tuple (by decide +kernel) rfl) pa_nil))) (pe_callB call_isi (by rfl) B.isinstance (by decide +kernel) (pa_cons (pv 1) (pa_cons (pe_bltn (v := .ty "tuple") (by rfl) B.tuple (by decide +kernel) rfl) pa_nil))) (nomark _))))) pss_never pss_nil)
          (pss_one (ps_ret (pe_and (pe_cmpR op_eq (pe_callB call_len_seq (by rfl) B.len PySem.boot_len (pa_cons (pv 0) pa_nil)) (pe_callB call_len_seq (by rfl) B.len PySem.boot_len (pa_cons (pv 1) pa_nil)) (nomark _))
            (pe_one (pe_callB (cr_all rfl) (by rfl) B.all (by decide +kernel) (pa_cons (pe_lc (own := [("_law_one", 2), ("_law_other", 3)]) (g := gTup K 2 (gCons (gName 2) (gCons (gName 3) gNil))) (tt := tYes) (by rfl) sc_same.nd (RZ.pi_zipA (by rfl) B.zip (pa_cons (pv 0) (pa_cons (pv 1) pa_nil)))
              (blkOk_by (own := [("_law_one", 2), ("_law_other", 3)]) (N := ["_law_found", "_law_due", "_law_one", "_law_other"]) (sc := defScope s__law_same) (by decide +kernel))
              (fun _ _ _ _ _ => pg_tup rfl (pgs_cons (pg_name (i := 2) sc_same.nd rfl (.inl rfl)) (pgs_cons (pg_name (i := 3) sc_same.nd rfl (.inl rfl)) pgs_nil))) (fun _ _ _ _ _ => pts_nil)
              (fun _ _ _ _ _ => pe_call GR hr (by rfl) gR kR bR .nil pass0 (pa_cons (pv 2) (pa_cons (pv 3) pa_nil)))) pa_nil))))))) pss_nil, ?_⟩
        refine ⟨y, rfl, (by show 2 ≤ sizeLine; decide), fun p np => ?_⟩
        have s1 := same_upd (o := .tup [.ty "list", .ty "tuple"]) np
        rcases hE with ⟨fx, rfl⟩ | ⟨pa, pb, xs, ys, rfl, rfl, hxy, hlen, hsz, hEach⟩
        · obtain ⟨T, b1, b2, b3, ty, k1, k2, k3, k4, k5⟩ := flat_kit (K := K) (H := upd H p (.tup [.ty "list", .ty "tuple"])) fx
          exact ⟨x, p, _, _, [.type "list", .type "tuple"], false, rfl, upd_same, .cons (.ty _) (.cons (.ty _) .nil), ty, kit2 k1 k2, _, rfl, iteF (hu _ _ ⟨rfl, fx, s1⟩)⟩
        · obtain ⟨T, bl, bt, tyx, tyy, kany, kl, kt⟩ : ∃ (T : String) (bl bt : Bool), TyX K (upd H p (.tup [.ty "list", .ty "tuple"])) (.ref pa) (.type T) ∧ TyX K (upd H p (.tup [.ty "list", .ty "tuple"])) (.ref pb) (.type T) ∧
              PySem.W.kitAny K (.type T) [.type "list", .type "tuple"] = some true ∧ kitB T "list" = some bl ∧ kitB T "tuple" = some bt := by
            rcases hxy with ⟨ha, hb⟩ | ⟨ha, hb⟩
            · exact ⟨"list", true, false, .base (.lst (s1 _ _ ha)), .base (.lst (s1 _ _ hb)), kitAny_cons (kit_ty (b := "list") (r := true) (by decide +kernel)) (fun q => nomatch q) (fun _ => rfl), by decide +kernel, by decide +kernel⟩
            · exact ⟨"tuple", false, true, .base (.tup (s1 _ _ ha)), .base (.tup (s1 _ _ hb)), kitAny_cons (kit_ty (b := "list") (r := false) (by decide +kernel)) (fun _ => kitAny_cons (kit_ty (b := "tuple") (r := true) (by decide +kernel)) (fun q => nomatch q) (fun _ => rfl)) (fun q => nomatch q), by decide +kernel, by decide +kernel⟩
          refine ⟨_, p, _, _, [.type "list", .type "tuple"], true, rfl, upd_same, .cons (.ty _) (.cons (.ty _) .nil), tyy, kany, _, rfl, iteT ?_⟩
          refine ⟨_, rfl, _, _, _, _, bl, rfl, .ty "list", tyx, kit_ty kl, _, rfl, _, _, _, _, bl, rfl, .ty "list", tyy, kit_ty kl, rfl, _, rfl, ite2 (fun z => ?_) (fun _ => ?_)⟩
          · rw [ne_bl] at z
            cases z
          refine ⟨_, rfl, _, _, _, _, bt, rfl, .ty "tuple", tyx, kit_ty kt, _, rfl, _, _, _, _, bt, rfl, .ty "tuple", tyy, kit_ty kt, rfl, _, rfl, ite2 (fun z => ?_) (fun _ => ?_)⟩
          · rw [ne_bl] at z
            cases z
          have sqx : SqL K (upd H p (.tup [.ty "list", .ty "tuple"])) pa xs ∨ SqT K (upd H p (.tup [.ty "list", .ty "tuple"])) pa xs := hxy.elim (fun h => .inl (SqL.of (s1 _ _ h.1))) (fun h => .inr (SqT.of (s1 _ _ h.1)))
          have sqy : SqL K (upd H p (.tup [.ty "list", .ty "tuple"])) pb ys ∨ SqT K (upd H p (.tup [.ty "list", .ty "tuple"])) pb ys := hxy.elim (fun h => .inl (SqL.of (s1 _ _ h.2))) (fun h => .inr (SqT.of (s1 _ _ h.2)))
          refine ⟨_, rfl, pa, xs, rfl, sqx, _, rfl, pb, ys, rfl, sqy, rfl, _, rfl, ite2 (fun _ => ?_) (fun z => absurd (decide_eq_true (by rw [hlen])) z)⟩
          refine ⟨_, rfl, _, rfl, pa, pb, xs, ys, rfl, ?_⟩
          have turn : ∀ (i : Nat) (x y : V) (D T : Addr) (H2 : Hp), (upd H p (.tup [.ty "list", .ty "tuple"])) D = none → xs[i]? = some x → ys[i]? = some y → Same (upd H p (.tup [.ty "list", .ty "tuple"])) H2 → H2 D = some (.lst (List.replicate i (V.bl true))) → H2 T = none →
              ∃ x' y' : V, [x, y] ++ [] = [x', y'] ∧ Eqv (upd H2 T (.tup [x, y])) n x' y' ∧ ∀ H', Same (upd H2 T (.tup [x, y])) H' → ∃ acc, H' D = some (.lst acc) ∧ acc.length < sizeLine ∧ (Same (upd H p (.tup [.ty "list", .ty "tuple"])) (upd H' D (.lst (acc ++ [.bl true]))) ∧ (upd H' D (.lst (acc ++ [.bl true]))) D = some (.lst (List.replicate (i + 1) (V.bl true)))) := by
            intro i x y D T H2 nD hx hy s2 hD nT
            have s3 : Same H2 (upd H2 T (.tup [x, y])) := same_upd nT
            have hi : i < xs.length := (List.getElem?_eq_some_iff.mp hx).1
            refine ⟨x, y, rfl, (hEach i x y hx hy).same (s1.trans (s2.trans s3)), fun H' s4 => ⟨_, s4 _ _ (s3 _ _ hD), ?_, fun a o e => ?_, ?_⟩⟩
            · rw [List.length_replicate]
              exact lineLt_of (by omega)
            · rw [upd_ne (ne_of_none e nD)]
              exact s4 _ _ (s3 _ _ (s2 _ _ e))
            · rw [upd_same, List.replicate_succ']
          have fin : ∀ (D : Addr) (H2 : Hp), Same (upd H p (.tup [.ty "list", .ty "tuple"])) H2 → H2 D = some (.lst (List.replicate xs.length (V.bl true))) → ∃ (a : Addr) (bs : List Bool), [V.ref D] = [V.ref a] ∧ SqL K H2 a (bs.map V.bl) ∧ Q (.bl (bs.all id)) H2 := by
            intro D H2 s2 hD
            refine ⟨D, List.replicate xs.length true, rfl, SqL.of (by rw [hD, List.map_replicate]), ?_⟩
            rw [all_true]
            exact q _ (s1.trans s2)
          rcases hxy with ⟨ha, hb⟩ | ⟨ha, hb⟩
          · refine .inl ⟨SqL.of (s1 _ _ ha), SqL.of (s1 _ _ hb), fun D nD => ?_⟩
            refine lc_gen (n := xs.length) (fun i H2 => Same (upd H p (.tup [.ty "list", .ty "tuple"])) H2 ∧ H2 D = some (.lst (List.replicate i (V.bl true)))) ⟨same_upd nD, upd_same⟩ ?_ ?_ ?_ ?_
            · rintro i H2 hi ⟨s2, hD⟩
              exact ⟨xs, ys, _, _, SqL.of (s2 _ _ (s1 _ _ ha)), SqL.of (s2 _ _ (s1 _ _ hb)), List.getElem?_eq_getElem hi, List.getElem?_eq_getElem (by omega)⟩
            · rintro H2 ⟨s2, hD⟩
              exact ⟨xs, ys, SqL.of (s2 _ _ (s1 _ _ ha)), SqL.of (s2 _ _ (s1 _ _ hb)), .inl (Nat.le_refl _)⟩
            · rintro i v H2 H3 hi ⟨s2, hD⟩ ⟨T, x, y, rfl, nT, rfl, f1, f2⟩
              refine ⟨T, [x, y], rfl, .inl (.inl upd_same), rfl, x, [y], rfl, y, [], rfl, rfl, rfl, ?_⟩
              refine yes_if ?_
              exact ⟨_, rfl, _, rfl, turn i x y D T H2 nD (f1 xs (SqL.of (s2 _ _ (s1 _ _ ha)))) (f2 ys (SqL.of (s2 _ _ (s1 _ _ hb)))) s2 hD nT⟩
            · rintro H2 ⟨s2, hD⟩
              exact fin D H2 s2 hD
          · refine .inr ⟨SqT.of (s1 _ _ ha), SqT.of (s1 _ _ hb), fun D nD => ?_⟩
            refine lc_gen (n := xs.length) (fun i H2 => Same (upd H p (.tup [.ty "list", .ty "tuple"])) H2 ∧ H2 D = some (.lst (List.replicate i (V.bl true)))) ⟨same_upd nD, upd_same⟩ ?_ ?_ ?_ ?_
            · rintro i H2 hi ⟨s2, hD⟩
              exact ⟨xs, ys, _, _, SqT.of (s2 _ _ (s1 _ _ ha)), SqT.of (s2 _ _ (s1 _ _ hb)), List.getElem?_eq_getElem hi, List.getElem?_eq_getElem (by omega)⟩
            · rintro H2 ⟨s2, hD⟩
              exact ⟨xs, ys, SqT.of (s2 _ _ (s1 _ _ ha)), SqT.of (s2 _ _ (s1 _ _ hb)), .inl (Nat.le_refl _)⟩
            · rintro i v H2 H3 hi ⟨s2, hD⟩ ⟨T, x, y, rfl, nT, rfl, f1, f2⟩
              refine ⟨T, [x, y], rfl, .inl (.inl upd_same), rfl, x, [y], rfl, y, [], rfl, rfl, rfl, ?_⟩
              refine yes_if ?_
              exact ⟨_, rfl, _, rfl, turn i x y D T H2 nD (f1 xs (SqT.of (s2 _ _ (s1 _ _ ha)))) (f2 ys (SqT.of (s2 _ _ (s1 _ _ hb)))) s2 hD nT⟩
            · rintro H2 ⟨s2, hD⟩
              exact fin D H2 s2 hD
end
end Sf
namespace Sf
open PySem PySem.Spec PyProof.Rows L2 TL
section
variable {P : Program} {w : World} {K : PySem.W.Frag} {mg : Str → Option Value} {base : Heap}
/-! ### is_word -/
def isW (x : Str) : Bool := decide (x.length ≤ 60) && (tl x).all sgn
def spIsWord : Sp := fun vs H Q _ => ∃ x : Str, vs = [.str x] ∧ x.length ≤ 100000 ∧ ∀ H', Same H H' → Q (.bl (isW x)) H'
abbrev HasIsWord (P : Program) (w : World) (K : PySem.W.Frag) (mg : Str → Option Value) (base : Heap) : Prop := Has P w K mg base 1 "is_word" ["text"] spIsWord
theorem sc_isword : FnScope ["text", "sign"] ["text"] (defScope s_is_word) := ⟨rfl, rfl, rfl, by decide +kernel, rfl, by decide +kernel, by decide +kernel⟩
theorem dec_signs {c : Nat} : decide (c ∈ (Str.ofString "aAbBcCdDeEfFgGhH").cps.toList) = sgn c := by
  rw [Bool.eq_iff_iff, decide_eq_true_eq]
  exact in_signs
theorem getElem?_of_cps {x : Str} {i c : Nat} (h : x.cps[i]? = some c) : (tl x)[i]? = some c := by
  rw [← h]
  exact Array.getElem?_toList
theorem has_isword (F : FnAt K mg "is_word" s_is_word ["text"]) (B : Blt mg) {t1 t2 : Tok} (mM : mg "MOST_WORD" = some (.int 60 t1)) (mS : mg "SIGNS" = some (.str (Str.ofString "aAbBcCdDeEfFgGhH") t2)) : HasIsWord P w K mg base := F.has fun F => by
  refine F.ok sc_isword (fun vs H Q E h => ?_) (fun cdv A outer s H vs Q E hr h => ?_)
  · obtain ⟨x, rfl, _⟩ := h
    rfl
  · obtain ⟨x, rfl, hlen, q⟩ := h
    have hz : x.cps.size = (tl x).length := len_tl x
    refine ⟨_, pss_one (ps_ret (pe_and (pe_cmpR op_le (pe_callB call_len_str (by rfl) B.len PySem.boot_len (pa_cons (pv 0) pa_nil)) (pe_glob (v := .int 60) (by rfl) mM ⟨_, rfl⟩) (nomark _))
      (pe_one (pe_callB (cr_all rfl) (by rfl) B.all (by decide +kernel) (pa_cons (pe_lc (own := [("sign", 1)]) (g := gName 1) (tt := tYes) (by rfl) sc_isword.nd (pi_str (pv 0))
        (blkOk_by (own := [("sign", 1)]) (N := ["text", "sign"]) (sc := defScope s_is_word) (by decide +kernel)) (fun _ _ _ _ _ => pg_name (i := 1) sc_isword.nd rfl (.inl rfl)) (fun _ _ _ _ _ => pts_nil)
        (fun _ _ _ _ _ => pe_cmpR op_in_sign (pv 1) (pe_glob (v := .str (Str.ofString "aAbBcCdDeEfFgGhH")) (by rfl) mS ⟨_, rfl⟩) rfl)) pa_nil))))), ?_⟩
    refine ⟨_, rfl, x, rfl, line_of hlen, _, 60, rfl, rfl, _, rfl, ite2 (fun e => ?_) (fun e => ?_)⟩
    · refine ⟨_, rfl, x, rfl, fun D nD => ?_⟩
      refine lc_gen (n := x.cps.size) (fun i H2 => Same H H2 ∧ H2 D = some (.lst (((tl x).take i).map fun c => V.bl (sgn c)))) ⟨same_upd nD, upd_same⟩ ?_ ?_ ?_ ?_
      · rintro i H2 hi ⟨s2, hD⟩
        exact hi
      · rintro H2 ⟨s2, hD⟩
        exact Nat.le_refl _
      · rintro i v H2 H3 hi ⟨s2, hD⟩ ⟨rfl, c, hc, rfl⟩
        refine ⟨rfl, yes_if ?_⟩
        refine ⟨_, rfl, c, _, rfl, rfl, _, hD, ?_, fun a o e => ?_, ?_⟩
        · rw [List.length_map, List.length_take]
          exact lineLt_of (Nat.le_trans (Nat.min_le_right _ _) (by rw [← hz]; exact hlen))
        · rw [upd_ne (ne_of_none e nD)]
          exact s2 _ _ e
        · have ed : decide (c ∈ (Str.ofString "aAbBcCdDeEfFgGhH").cps.toList) = sgn c := dec_signs
          rw [upd_same, List.take_add_one, getElem?_of_cps hc, List.map_append, ed]
          rfl
      · rintro H2 ⟨s2, hD⟩
        refine ⟨D, (tl x).map sgn, rfl, SqL.of ?_, ?_⟩
        · rw [hD, List.take_of_length_le (by rw [hz]; exact Nat.le_refl _), List.map_map]
          rfl
        · have h1 := q H2 s2
          have e1 : decide (x.length ≤ 60) = true := decide_eq_true (by have := of_decide_eq_true e; omega)
          have e2 : ((tl x).map sgn).all id = (tl x).all sgn := by
            rw [List.all_map]
            rfl
          rw [e2]
          unfold isW at h1
          rw [e1, Bool.true_and] at h1
          exact h1
    · have h1 := q H (.refl H)
      have e1 : decide (x.length ≤ 60) = false := decide_eq_false (fun z => e (decide_eq_true (by omega)))
      unfold isW at h1
      rw [e1, Bool.false_and] at h1
      exact h1
theorem isW_true {x : Str} (h : Wd x) (hl : x.length ≤ 60) : isW x = true := by
  unfold isW
  rw [decide_eq_true hl, Bool.true_and, List.all_eq_true]
  exact h
end
end Sf
namespace Sf
open PySem PySem.Spec PyProof.Rows L2 TL
section
variable {X : Cx}
/-! ### text * int -/
theorem op_mul_str : OpR X (binaryOp .Mult) (fun x y H Q => ∃ (a : Str) (n : Int), x = .str a ∧ y = .int n ∧ 0 ≤ n ∧ n ≤ 1000 ∧ a.length ≤ 1000 ∧ Q (.str (Txt.mul a n)) H) := by
  intro pins s σ H x y v u Q I rx ry h
  obtain ⟨a, n, rfl, rfl, h0, h1, h2, q⟩ := h
  obtain ⟨t, rfl⟩ := rx
  obtain ⟨t', rfl⟩ := ry
  refine PySem.SB.mul ⟨?_, fun hn _ => ?_, fun _ _ => ?_⟩ fun t' k => ⟨.str _, H, I.tok k, ⟨t', rfl⟩, q⟩
  · rw [decide_eq_false (by omega), decide_eq_false (by omega)]
    rfl
  · have h3 : (2 ^ 63 - 1) / n ≥ 9223372036854775807 / 1000 := by
      show (9223372036854775807 : Int) / 1000 ≤ (2 ^ 63 - 1) / n
      have e : (2 ^ 63 - 1 : Int) = 9223372036854775807 := by decide
      rw [e]
      refine (Int.le_ediv_iff_mul_le (by omega)).mpr ?_
      have : (9223372036854775807 : Int) / 1000 * n ≤ (9223372036854775807 : Int) / 1000 * 1000 := Int.mul_le_mul_of_nonneg_left h1 (by decide)
      have e2 : (9223372036854775807 : Int) / 1000 * 1000 ≤ 9223372036854775807 := by decide
      omega
    have e3 : (9223372036854775807 : Int) / 1000 = 9223372036854775 := by decide
    omega
  · refine PyProof.Rows.short24 ?_
    have h5 : n.toNat ≤ 1000 := by omega
    exact Nat.le_trans (Nat.mul_le_mul h2 h5) (by decide)
theorem mul_len {a : Str} {n : Int} (h : 0 ≤ n) : (Txt.mul a n).length = a.length * n.toNat := by
  obtain ⟨m, rfl⟩ : ∃ m : Nat, n = (m : Int) := ⟨n.toNat, by omega⟩
  have h1 := PyProof.Rows.len_mul a (m : Int)
  rw [decide_eq_false (by omega)] at h1
  have e : (if false = true then (0 : Int) else (m : Int)) = (m : Int) := rfl
  rw [e, ← Int.natCast_mul] at h1
  rw [Int.toNat_natCast]
  exact Int.ofNat.inj h1
theorem foldl_app (a : Array Nat) : ∀ (k : Nat) (acc : Array Nat) (c : Nat), c ∈ ((List.replicate k a).foldl (· ++ ·) acc).toList → c ∈ acc.toList ∨ c ∈ a.toList
  | 0, acc, c, h => .inl h
  | k + 1, acc, c, h => by
    rw [List.replicate_succ, List.foldl_cons] at h
    rcases foldl_app a k (acc ++ a) c h with h | h
    · rw [Array.toList_append, List.mem_append] at h
      exact h
    · exact .inr h
theorem mul_mem {a : Str} {n : Int} {c : Nat} (h : c ∈ tl (Txt.mul a n)) : c ∈ tl a := by
  unfold Txt.mul at h
  split at h
  · cases h
  · split at h
    · exact h
    · rcases foldl_app a.cps n.toNat #[] c h with h | h
      · cases h
      · exact h
theorem Wd.mul {a : Str} {n : Int} (h : Wd a) : Wd (Txt.mul a n) := fun c hc => h c (mul_mem hc)
theorem tl_cut (z : Str) (lo hi : Option Int) : tl (cutS z lo hi) = ((tl z).drop (HT.sIx z.length 0 lo)).take (HT.sIx z.length z.length hi - HT.sIx z.length 0 lo) := by
  unfold cutS
  rfl
theorem Wd.cut {z : Str} {lo hi : Option Int} (h : Wd z) : Wd (cutS z lo hi) := fun c hc => by
  rw [tl_cut] at hc
  exact h c (List.mem_of_mem_drop (List.mem_of_mem_take hc))
end
end Sf
namespace Sf
open PySem PySem.Spec PyProof.Rows L2 TL
section
variable {X : Cx}
/-! ### text[::-1] -/
def revS (z : Str) : Str := ⟨(tl z).reverse.toArray⟩
theorem tl_revS (z : Str) : tl (revS z) = (tl z).reverse := rfl
theorem rev_picked (z : Str) : ((Builtin.Str.strSliceIndices none none (-1) z.length).filterMap (z.cps[·]?)) = (tl z).reverse := by
  rw [picked_rev]
  apply List.ext_getElem?
  intro i
  have hz : z.length = (tl z).length := len_tl z
  rw [PyProof.Rows.filterMap_get _ _ (fun k hk => by
    obtain ⟨j, hj, rfl⟩ := List.mem_map.mp hk
    have := List.mem_range.mp hj
    show z.length - 1 - j < z.length
    omega), List.map_map]
  by_cases h : i < z.length
  · rw [List.getElem?_reverse (by omega), List.getElem?_map, List.getElem?_range h]
    show some (z.cps.getD (z.length - 1 - i) 0) = _
    have h2 : z.length - 1 - i < z.cps.size := by show z.length - 1 - i < z.length; omega
    rw [← hz, Array.getElem?_toList]
    simp [Array.getD, h2]
  · rw [List.getElem?_eq_none (by rw [List.length_map, List.length_range]; omega), List.getElem?_eq_none (by rw [List.length_reverse, ← hz]; omega)]
def tRevS (te : TE) : TE := fun σ H Q => te σ H fun x H1 => ∃ z, x = .str z ∧ z.length ≤ sizeLine ∧ Q (.str (revS z)) H1
theorem pe_revS {e : Expr} {te : TE} {k : Nat} {p1 p2 p3 pos : Pos} (he : PE X e te) : PE X (.Subscript e (.Slice none none (some (.UnaryOp .USub (.Constant (.int 1) k p1) p2)) p3) pos) (tRevS te) := by
  refine ⟨fun pins s σ H Q I h => ?_⟩
  refine Subscript_ (thn (he.run pins s σ H _ I h) fun v s1 ⟨x, H1, I1, r1, q1⟩ => ?_)
  obtain ⟨z, ex, hz, q⟩ := q1
  subst ex
  obtain ⟨tz, rfl⟩ := r1
  have hst : PO X (some (.UnaryOp .USub (.Constant (.int 1) k p1) p2)) (tPart (tUn (rU fun i => .int (-i)) (tC (.int 1)))) := po_some (pe_un un_neg pe_int)
  refine wpAny_Slice (thn (po_none.run pins s1 σ H1 (fun o H2 => o = none ∧ H2 = H1) I1 ⟨rfl, rfl⟩) fun vl s2 ⟨l, H2, I2, pl, el, e2⟩ => ?_)
  subst el e2
  refine thn (po_none.run pins s2 σ H2 (fun o H3 => o = none ∧ H3 = H2) I2 ⟨rfl, rfl⟩) fun vu s3 ⟨u, H3, I3, pu, eu, e3⟩ => ?_
  subst eu e3
  refine thn (hst.run pins s3 σ H3 (fun o H4 => o = some (-1) ∧ H4 = H3) I3 ⟨1, rfl, -1, rfl, rfl, rfl⟩) fun vs s4 ⟨o, H4, I4, ps, eo, e4⟩ => ?_
  subst eo e4
  cases pl
  cases pu
  cases ps with
  | int _ ts =>
  have I5 : Inv X pins σ H4 { s4 with heap := s4.heap.push { cls := .type "slice", data := .fields #[.none, .none, .int (-1) ts] } } := I4.kept (t' := s4.toks) fun b ob q => Heap.get?_push_of_some _ q
  show wpAny (model X.prog X.w) X.A (subscriptTail e (.Slice none none (some (.UnaryOp .USub (.Constant (.int 1) k p1) p2)) p3) (.str z tz) (.ref s4.heap.objs.size)) (EP X pins σ Q) X.xe { s4 with heap := s4.heap.push { cls := .type "slice", data := .fields #[.none, .none, .int (-1) ts] } }
  refine tail_any (ops := [.str z tz, .ref s4.heap.objs.size]) (typeIs_str _ _ _) (PySem.F.slot_str_getitem.lookup) ?_ (by with_unfolding_all rfl)
  refine wpAny_getItem_str_slice (l := none) (u := none) (st := some (-1, ts)) ⟨_, Heap.get?_push_size _ rfl, rfl, rfl⟩ rfl ?_
  have e1 : sliceMade z tz none none (some (-1, ts)) = Made.str (revS z) := by
    unfold sliceMade slicePicked
    have h1 : ¬ (((((some ((-1 : Int), ts)).map (·.1)).getD 1 == 1) && ((Builtin.Str.strSliceIndices ((none : Option (Int × Tok)).map (·.1)) ((none : Option (Int × Tok)).map (·.1)) (((some ((-1 : Int), ts)).map (·.1)).getD 1) z.length).length == z.length)) = true) := by
      have : ((((some ((-1 : Int), ts)).map (·.1)).getD 1 == 1)) = false := rfl
      rw [this]
      simp
    rw [if_neg h1]
    show Made.str ⟨((Builtin.Str.strSliceIndices none none (-1) z.length).filterMap (z.cps[·]?)).toArray⟩ = _
    rw [rev_picked]
    rfl
  rw [e1]
  refine ⟨?_, .str _, H4, I5.tok _, ⟨_, rfl⟩, q⟩
  rw [len_tl, tl_revS, List.length_reverse, ← len_tl]
  exact hz
/-! ### text.swapcase() -/
theorem mt_swapcase : MtR X "str.swapcase" (fun x xs H Q => ∃ a, x = .str a ∧ xs = [] ∧ a.length ≤ 5592405 ∧ Q (.str (Txt.swapcase a)) H) :=
  mt0 (C := fun a => a.length ≤ 5592405) (g := fun a => .str (Txt.swapcase a)) fun a _ s _ hc h =>
    PySem.SC.swapcase (PyProof.Rows.fit_swapcase hc) (h _ (s.toks + 1) ⟨_, rfl⟩)
theorem pe_swapcase {o : Expr} {to : TE} {apos pos : Pos} (ho : PE X o to) (hbase : attributeBase o "swapcase" X.env (eval o X.env) = eval o X.env := by rfl) (hline : (apos.endLine == pos.line) = true := by rfl) :
    PE X (.Call (.Attribute o "swapcase" apos) [] [] pos) (tM0 (fun x xs H Q => ∃ a, x = .str a ∧ xs = [] ∧ a.length ≤ 5592405 ∧ Q (.str (Txt.swapcase a)) H) to) :=
  pe_m0 PySem.F.slot_str_swapcase PySem.F.type_str_swapcase mt_swapcase ho hbase hline
theorem case_sgn : ∀ c, c < 128 → sgn c = true → (if Unicode.isUpper c then PyProof.Rows.lo1 c else if Unicode.isLower c then PyProof.Rows.up1 c else c) = flipC c := by decide +kernel
theorem sgn_lt {c : Nat} (h : sgn c = true) : c < 128 := by
  rw [sgn_iff] at h
  omega
def flipS (x : Str) : Str := ⟨((tl x).map flipC).toArray⟩
theorem swap_wd {x : Str} (h : Wd x) : Txt.swapcase x = flipS x := by
  unfold Txt.swapcase
  rw [PyProof.Rows.placed_single x _ flipC fun i c hc => by
    have hc' : x.cps[i]? = some c := by simpa using hc
    have hs := h c (List.mem_of_getElem? hc)
    have hlt := sgn_lt hs
    have hk := case_sgn c hlt hs
    unfold Unicode.lowerAt
    rw [hc']
    have hne : (c == 0x3A3) = false := by rw [beq_eq_false_iff_ne]; omega
    simp only [hne, Bool.false_and, Bool.false_eq_true, if_false]
    rw [PyProof.Rows.lowerOf_ascii c hlt, PyProof.Rows.upperOf_ascii c hlt, ← hk]
    by_cases h1 : Unicode.isUpper c = true
    · rw [if_pos h1, if_pos h1]
    · rw [if_neg h1, if_neg h1]
      by_cases h2 : Unicode.isLower c = true
      · rw [if_pos h2, if_pos h2]
      · rw [if_neg h2, if_neg h2]]
  apply ext_tl
  show (x.cps.map flipC).toList = (tl x).map flipC
  rw [Array.toList_map]
theorem flipS_one (c : Nat) : flipS (one c) = one (flipC c) := rfl
theorem tl_flipS (x : Str) : tl (flipS x) = (tl x).map flipC := rfl
theorem rev_wd {x : Str} (h : Wd x) : Wd (revS x) := fun c hc => h c (List.mem_reverse.mp hc)
theorem revS_len (x : Str) : (revS x).length = x.length := by rw [len_tl, tl_revS, List.length_reverse, ← len_tl]
end
end Sf
namespace Sf
open PySem PySem.Spec PyProof.Rows L2 TL
/-! ### words as lists of codes; the stack of a walk (its head is the last sign) -/
abbrev Sg (l : List Nat) : Prop := ∀ c ∈ l, sgn c = true
theorem flip2 {c : Nat} (h : sgn c = true) : flipC (flipC c) = c := by
  rw [sgn_iff] at h
  unfold flipC
  by_cases h1 : 97 ≤ c
  · rw [if_pos h1, if_neg (by omega)]
    omega
  · rw [if_neg h1, if_pos (by omega)]
    omega
theorem flip_inj {c d : Nat} (hc : sgn c = true) (hd : sgn d = true) (h : flipC c = flipC d) : c = d := by
  rw [← flip2 hc, ← flip2 hd, h]
def pushS (s : List Nat) (c : Nat) : List Nat :=
  match s with
  | [] => [c]
  | x :: t => if x = flipC c then t else c :: x :: t
def RedS : List Nat → Prop
  | [] => True
  | [_] => True
  | x :: y :: t => y ≠ flipC x ∧ RedS (y :: t)
theorem RedS.tail {x : Nat} {t : List Nat} (h : RedS (x :: t)) : RedS t := by
  cases t with
  | nil => trivial
  | cons y t => exact h.2
theorem RedS.suffix : ∀ {a b : List Nat}, RedS (a ++ b) → RedS b
  | [], _, h => h
  | _ :: a, _, h => RedS.suffix (a := a) (RedS.tail h)
theorem pushS_red {s : List Nat} {c : Nat} (h : RedS s) : RedS (pushS s c) := by
  cases s with
  | nil => trivial
  | cons x t =>
    unfold pushS
    by_cases e : x = flipC c
    · simp only [if_pos e]
      exact h.tail
    · simp only [if_neg e]
      exact ⟨e, h⟩
theorem pushS_sg {s : List Nat} {c : Nat} (h : Sg s) (hc : sgn c = true) : Sg (pushS s c) := by
  cases s with
  | nil =>
    intro d hd
    rw [pushS, List.mem_singleton] at hd
    rw [hd]
    exact hc
  | cons x t =>
    unfold pushS
    by_cases e : x = flipC c
    · simp only [if_pos e]
      exact fun d hd => h d (List.mem_cons_of_mem _ hd)
    · simp only [if_neg e]
      intro d hd
      rcases List.mem_cons.mp hd with rfl | hd
      · exact hc
      · exact h d hd
theorem pushS_inv {s : List Nat} {c : Nat} (h : RedS s) (hs : Sg s) (hc : sgn c = true) : pushS (pushS s c) (flipC c) = s := by
  cases s with
  | nil =>
    show (if c = flipC (flipC c) then [] else _) = ([] : List Nat)
    rw [if_pos (flip2 hc).symm]
  | cons x t =>
    by_cases e : x = flipC c
    · have e1 : pushS (x :: t) c = t := by simp only [pushS, if_pos e]
      rw [e1, e]
      cases t with
      | nil => rfl
      | cons y t =>
        have hn : ¬ y = flipC (flipC c) := by
          rw [← e]
          exact h.1
        simp only [pushS, if_neg hn]
    · have e1 : pushS (x :: t) c = c :: x :: t := by simp only [pushS, if_neg e]
      rw [e1]
      simp only [pushS, if_pos (flip2 hc).symm]
def runS (s w : List Nat) : List Nat := w.foldl pushS s
theorem runS_cons (s : List Nat) (c : Nat) (w : List Nat) : runS s (c :: w) = runS (pushS s c) w := rfl
theorem runS_app (s u v : List Nat) : runS s (u ++ v) = runS (runS s u) v := List.foldl_append
theorem runS_red : ∀ {w s : List Nat}, RedS s → RedS (runS s w)
  | [], _, h => h
  | _ :: w, _, h => runS_red (w := w) (pushS_red h)
theorem runS_sg : ∀ {w s : List Nat}, Sg s → Sg w → Sg (runS s w)
  | [], _, h, _ => h
  | c :: w, _, h, hw => runS_sg (w := w) (pushS_sg h (hw c (List.mem_cons_self ..))) (fun d hd => hw d (List.mem_cons_of_mem _ hd))
def backL (w : List Nat) : List Nat := (w.map flipC).reverse
theorem backL_cons (c : Nat) (w : List Nat) : backL (c :: w) = backL w ++ [flipC c] := by
  unfold backL
  rw [List.map_cons, List.reverse_cons]
theorem backL_app (u v : List Nat) : backL (u ++ v) = backL v ++ backL u := by
  unfold backL
  rw [List.map_append, List.reverse_append]
theorem backL_sg {w : List Nat} (h : Sg w) : Sg (backL w) := fun c hc => by
  unfold backL at hc
  rw [List.mem_reverse, List.mem_map] at hc
  obtain ⟨d, hd, rfl⟩ := hc
  exact flip_sgn (h d hd)
theorem backL_back {w : List Nat} (h : Sg w) : backL (backL w) = w := by
  unfold backL
  rw [List.map_reverse, List.reverse_reverse, List.map_map]
  have e : w.map (flipC ∘ flipC) = w.map id := List.map_congr_left fun c hc => flip2 (h c hc)
  rw [e, List.map_id]
theorem run_back : ∀ {w s : List Nat}, RedS s → Sg s → Sg w → runS (runS s w) (backL w) = s
  | [], _, _, _, _ => rfl
  | c :: w, s, h, hs, hw => by
    have hc := hw c (List.mem_cons_self ..)
    rw [runS_cons, backL_cons, runS_app, run_back (w := w) (pushS_red h) (pushS_sg hs hc) (fun d hd => hw d (List.mem_cons_of_mem _ hd))]
    exact pushS_inv h hs hc
theorem pushS_of {s : List Nat} {c : Nat} (h : RedS (c :: s)) : pushS s c = c :: s := by
  cases s with
  | nil => rfl
  | cons x t => simp only [pushS, if_neg h.1]
theorem run_of_red : ∀ {w s : List Nat}, RedS (w.reverse ++ s) → runS s w = w.reverse ++ s
  | [], _, _ => rfl
  | c :: w, s, h => by
    rw [List.reverse_cons, List.append_assoc] at h ⊢
    rw [runS_cons, pushS_of (s := s) (RedS.suffix (b := c :: s) h)]
    exact run_of_red h
/-- a word reduced, as a list from its first sign -/
def shortL (w : List Nat) : List Nat := (runS [] w).reverse
theorem shortL_sg {w : List Nat} (h : Sg w) : Sg (shortL w) := fun c hc => runS_sg (s := []) (fun _ z => by cases z) h c (List.mem_reverse.mp hc)
def push (l : List Nat) (c : Nat) : List Nat := (pushS l.reverse c).reverse
theorem shortL_snoc (w : List Nat) (c : Nat) : shortL (w ++ [c]) = push (shortL w) c := by
  unfold shortL push
  rw [runS_app, List.reverse_reverse]
  rfl
theorem push_last {l : List Nat} {c : Nat} (x : Nat) : push (l ++ [x]) c = if x = flipC c then l else l ++ [x] ++ [c] := by
  unfold push
  rw [List.reverse_append]
  show (if x = flipC c then l.reverse else c :: x :: l.reverse).reverse = _
  by_cases e : x = flipC c
  · rw [if_pos e, if_pos e, List.reverse_reverse]
  · rw [if_neg e, if_neg e]
    simp
theorem push_nil (c : Nat) : push [] c = [c] := rfl
/-- two words put together where they meet -/
def glS : List Nat → List Nat → List Nat
  | x :: s, y :: b => if x = flipC y then glS s b else (y :: b).reverse ++ (x :: s)
  | [], b => b.reverse
  | x :: s, [] => x :: s
theorem RedS.join : ∀ {a : List Nat} {y : Nat} {s : List Nat}, RedS (a ++ [y]) → RedS (y :: s) → RedS (a ++ y :: s)
  | [], _, _, _, h => h
  | [x], y, s, h, k => ⟨h.1, k⟩
  | x :: z :: a, y, s, h, k => ⟨h.1, RedS.join (a := z :: a) h.2 k⟩
theorem glS_run : ∀ {b s : List Nat}, RedS b.reverse → RedS s → glS s b = runS s b
  | [], [], _, _ => rfl
  | [], _ :: _, _, _ => rfl
  | y :: b, [], h, _ => by
    have e := run_of_red (w := y :: b) (s := []) (by rw [List.append_nil]; exact h)
    rw [List.append_nil] at e
    exact e.symm
  | y :: b, x :: s, h, k => by
    rw [List.reverse_cons] at h
    by_cases e : x = flipC y
    · have e1 : pushS (x :: s) y = s := by simp only [pushS, if_pos e]
      rw [glS, if_pos e, runS_cons, e1]
      refine glS_run ?_ k.tail
      exact RedS.prefix h
    · have e1 : pushS (x :: s) y = y :: x :: s := by simp only [pushS, if_neg e]
      rw [glS, if_neg e, runS_cons, e1, List.reverse_cons, List.append_assoc]
      exact (run_of_red (RedS.join h (show RedS (y :: x :: s) from ⟨e, k⟩))).symm
where
  RedS.prefix : ∀ {a b : List Nat}, RedS (a ++ b) → RedS a
  | [], _, _ => trivial
  | [_], _, _ => trivial
  | _ :: y :: a, _, h => ⟨h.1, RedS.prefix (a := y :: a) h.2⟩
end Sf
namespace Sf
open PySem PySem.Spec PyProof.Rows L2 TL
/-! ### texts of words -/
def mkS (l : List Nat) : Str := ⟨l.toArray⟩
theorem tl_mkS (l : List Nat) : tl (mkS l) = l := rfl
theorem mkS_tl (x : Str) : mkS (tl x) = x := mk_tl x
theorem mkS_len (l : List Nat) : (mkS l).length = l.length := by rw [len_tl, tl_mkS]
theorem eq_mkS {x : Str} {l : List Nat} (h : tl x = l) : x = mkS l := ext_tl h
/-- a word undone, reduced, glued, as texts -/
def backT (x : Str) : Str := mkS (backL (tl x))
def shortT (x : Str) : Str := mkS (shortL (tl x))
def gluT (x y : Str) : Str := mkS (glS (tl x).reverse (tl y)).reverse
theorem glS_sg : ∀ {s b : List Nat}, Sg s → Sg b → Sg (glS s b)
  | x :: s, y :: b, hs, hb => by
    unfold glS
    by_cases e : x = flipC y
    · rw [if_pos e]
      exact glS_sg (fun c hc => hs c (List.mem_cons_of_mem _ hc)) (fun c hc => hb c (List.mem_cons_of_mem _ hc))
    · rw [if_neg e]
      intro c hc
      rcases List.mem_append.mp hc with hc | hc
      · exact hb c (List.mem_reverse.mp hc)
      · exact hs c hc
  | [], b, _, hb => fun c hc => hb c (List.mem_reverse.mp (by unfold glS at hc; exact hc))
  | x :: s, [], hs, _ => hs
theorem glS_len : ∀ {s b : List Nat}, (glS s b).length ≤ s.length + b.length
  | x :: s, y :: b => by
    unfold glS
    by_cases e : x = flipC y
    · rw [if_pos e]
      have := glS_len (s := s) (b := b)
      simp only [List.length_cons]
      omega
    · rw [if_neg e]
      simp only [List.length_append, List.length_reverse, List.length_cons]
      omega
  | [], b => by
    unfold glS
    simp
  | x :: s, [] => by
    unfold glS
    simp
theorem gluT_wd {x y : Str} (hx : Wd x) (hy : Wd y) : Wd (gluT x y) := fun c hc => by
  unfold gluT at hc
  rw [tl_mkS, List.mem_reverse] at hc
  exact glS_sg (fun d hd => hx d (List.mem_reverse.mp hd)) hy c hc
theorem gluT_len (x y : Str) : (gluT x y).length ≤ x.length + y.length := by
  unfold gluT
  rw [mkS_len, List.length_reverse, len_tl, len_tl]
  have := glS_len (s := (tl x).reverse) (b := tl y)
  rw [List.length_reverse] at this
  exact this
theorem backT_wd {x : Str} (h : Wd x) : Wd (backT x) := fun c hc => backL_sg h c hc
theorem backT_len (x : Str) : (backT x).length = x.length := by
  unfold backT backL
  rw [mkS_len, List.length_reverse, List.length_map, len_tl]
theorem backT_back {x : Str} (h : Wd x) : backT (backT x) = x := by
  unfold backT
  rw [tl_mkS, backL_back h, mkS_tl]
theorem runS_len : ∀ (w s : List Nat), (runS s w).length ≤ s.length + w.length
  | [], s => by simp [runS]
  | c :: w, s => by
    have h := runS_len w (pushS s c)
    rw [runS_cons]
    have h2 : (pushS s c).length ≤ s.length + 1 := by
      cases s with
      | nil => simp [pushS]
      | cons x t =>
        unfold pushS
        by_cases e : x = flipC c
        · simp only [if_pos e, List.length_cons]
          omega
        · simp only [if_neg e, List.length_cons]
          omega
    simp only [List.length_cons]
    omega
theorem shortL_len (w : List Nat) : (shortL w).length ≤ w.length := by
  unfold shortL
  rw [List.length_reverse]
  have := runS_len w []
  simpa using this
theorem glu_one {l : List Nat} {c : Nat} : (glS l.reverse [c]).reverse = push l c := by
  unfold push
  cases h : l.reverse with
  | nil => rfl
  | cons x t =>
    unfold glS pushS
    by_cases e : x = flipC c
    · simp only [if_pos e]
      cases t <;> rfl
    · simp only [if_neg e]
      rfl
end Sf
namespace Sf
open PySem PySem.Spec PyProof.Rows L2 TL
section
variable {P : Program} {w : World} {K : PySem.W.Frag} {mg : Str → Option Value} {base : Heap}
/-! ### need_word, turned, undone -/
def spNeed : Sp := fun vs H Q _ => ∃ x : Str, vs = [.str x] ∧ Wd x ∧ x.length ≤ 60 ∧ ∀ H', Same H H' → Q .non H'
abbrev HasNeed (P : Program) (w : World) (K : PySem.W.Frag) (mg : Str → Option Value) (base : Heap) : Prop := Has P w K mg base 2 "need_word" ["text"] spNeed
theorem sc_need : FnScope ["text"] ["text"] (defScope s_need_word) := ⟨rfl, rfl, rfl, by decide +kernel, rfl, by decide +kernel, by decide +kernel⟩
theorem has_need (F : FnAt K mg "need_word" s_need_word ["text"]) (hI : HasIsWord P w K mg base) : HasNeed P w K mg base := F.has fun F => by
  obtain ⟨fI, fdI, gI, kI, bI, GI⟩ := hI
  refine F.ok sc_need (fun vs H Q E h => ?_) (fun cdv A outer s H vs Q E hr h => ?_)
  · obtain ⟨x, rfl, _⟩ := h
    rfl
  · obtain ⟨x, rfl, hx, hl, q⟩ := h
    refine ⟨_, pss_one (ps_if (pt_not (pt_val (pe_call GI hr (by rfl) gI kI bI .nil pass0 (pa_cons (pv 0) pa_nil)))) pss_never pss_nil), ?_⟩
    refine ⟨_, rfl, x, rfl, by omega, fun H' s' => ⟨_, rfl, ?_⟩⟩
    rw [isW_true hx hl]
    exact iteF (q H' s')
end
end Sf
namespace Sf
open PySem PySem.Spec PyProof.Rows L2 TL
def MAt (K : PySem.W.Frag) (C : Addr) (m q : Str) (st : Stmt) (ps : List Str) : Prop := ∃ (f : Addr) (fd : FuncData), Meth K C m f ∧ Fun K m q st f fd ∧ Binds K fd ps []
def HasM (P : Program) (w : World) (K : PySem.W.Frag) (mg : Str → Option Value) (base : Heap) (C : Addr) (k : Nat) (m : Str) (ps : List Str) (sp : Sp) : Prop :=
  ∃ (f : Addr) (fd : FuncData), Meth K C m f ∧ Binds K fd ps [] ∧ FnOk P w K mg base CX0 k f fd ps sp
theorem MAt.has {P : Program} {w : World} {K : PySem.W.Frag} {mg : Str → Option Value} {base : Heap} {C : Addr} {k : Nat} {m q : Str} {st : Stmt} {ps : List Str} {sp : Sp} (h : MAt K C m q st ps)
    (ok : ∀ {f : Addr} {fd : FuncData}, Fun K m q st f fd → FnOk P w K mg base CX0 k f fd ps sp) : HasM P w K mg base C k m ps sp := by
  obtain ⟨f, fd, g, F, b⟩ := h
  exact ⟨f, fd, g, b, ok F⟩
theorem mAt_mk {K : PySem.W.Frag} {C : Addr} {m q : Str} {st : Stmt} {ps : List Str} {f : Addr} {oc : Value} {od an : Option Addr} {osl : Array (Option Value)} {kV doc pm cdv ct : Value}
    (a : PySem.W.findIn K (.ref C) m = some (some (.ref f))) (i : PySem.W.isFn K (.ref f) = true) (l : K.lookup f = some ⟨oc, od, .func (PySem.W.fnOf m q (defArgs st) (defBody st) (defScope st) .none kV doc pm an cdv ct), osl⟩)
    (c : PySem.W.codeIn K cdv q = true) (k : PySem.W.keepIn K (.ref f) = true)
    (b : ∀ (kV doc pm : Value) (an : Option Addr) (cdv ct : Value) (us : List Value), us.length = ps.length → bindArgs (PySem.W.fnOf m q (defArgs st) (defBody st) (defScope st) .none kV doc pm an cdv ct) ⟨us, []⟩ = pure (ps.zip us)) : MAt K C m q st ps :=
  ⟨f, _, ⟨a, i, k⟩, fun_mk l c k, (fun_mk l c k).binds b⟩
theorem dc_gen {J : It} {n : Nat} {g : TG} {tt : TT} {tk tv : TE} {vs : List Nat} {σ : L2.St} {H1 : Hp} {D : Addr} {Qd : Hp → Prop} (Pv : Nat → Hp → Prop) (h0 : Pv 0 (upd H1 D (.dK [])))
    (hgo : ∀ i H, i < n → Pv i H → J.go i H) (hst : ∀ H, Pv n H → J.stop n H)
    (hs : ∀ i x H H', i < n → Pv i H → J.yld i H x H' → g x (wipe σ vs) H' fun σ2 H2 => wipe σ2 vs = wipe σ vs ∧ tt σ2 H2 fun b H3 =>
      if b = true then tk σ2 H3 fun y H4 => tv σ2 H4 fun z H5 => ∃ kvs k, y = kV k ∧ H5 D = some (.dK kvs) ∧ kvs.length < sizeLine ∧ Pv (i + 1) (upd H5 D (.dK (putK kvs k z))) else Pv (i + 1) H3) (hd : ∀ H, Pv n H → Qd H) :
    ∃ W : Nat → Nat → Hp → Prop, (∃ m, W 0 m (upd H1 D (.dK []))) ∧ ∀ i m H, W i m H →
      (J.stop i H ∧ Qd H) ∨ (J.go i H ∧ ∃ Nx : Hp → Prop, (∀ H', Nx H' → ∃ m', m' < m ∧ W (i + 1) m' H') ∧ ∀ x H', J.yld i H x H' → g x (wipe σ vs) H' fun σ2 H2 => wipe σ2 vs = wipe σ vs ∧ tt σ2 H2 fun b H3 =>
        if b = true then tk σ2 H3 fun y H4 => tv σ2 H4 fun z H5 => ∃ kvs k, y = kV k ∧ H5 D = some (.dK kvs) ∧ kvs.length < sizeLine ∧ Nx (upd H5 D (.dK (putK kvs k z))) else Nx H3) := by
  refine ⟨fun i m H => m = n - i ∧ i ≤ n ∧ Pv i H, ⟨n, rfl, Nat.zero_le _, h0⟩, ?_⟩
  rintro i m H ⟨rfl, hi, p⟩
  by_cases hlt : i < n
  · exact .inr ⟨hgo i H hlt p, Pv (i + 1), fun H' p' => ⟨n - (i + 1), by omega, rfl, hlt, p'⟩, fun x H' y => hs i x H H' hlt p y⟩
  · have e : i = n := by omega
    subst e
    exact .inl ⟨hst H p, hd H p⟩
theorem kit_self {K : PySem.W.Frag} {t : Value} : PySem.W.kitOne K t t = some true := by
  unfold PySem.W.kitOne
  rw [if_pos (beq_self_eq_true t)]
end Sf
namespace Sf
open PySem PySem.Spec PyProof.Rows L2 TL
/-! ### ==, != and len of an own class -/
section
variable {X : Cx} {k : Nat} {f C : Addr} {fd : FuncData} {ps : List Str} {sp : Sp}
theorem run_fnA {A : Around} {Er : Value → Shared → Prop} {pins : List (Addr × Obj)} {σ : L2.St} {H : Hp} {s : Shared} {Q : VK} {us : List Value} {vs : List V} (F : FnOk X.prog X.w X.K X.mg X.base CX0 k f fd ps sp) (hr : Room k A) (e0 : Env0 X.prog X.w X.K X.mg X.base A X.stack s H) (hb : Binds X.K fd ps [])
    (I : Inv X pins σ H s) (r : Vals vs us) (h : sp vs H Q E0) : wpAny (model X.prog X.w) A (call (.ref f) us) (EP X pins σ Q) Er s := by
  have hl : (us ++ []).length = ps.length := by rw [List.append_nil, ← r.length]; exact F.len _ _ _ _ h
  have hbd := hb s us I.kIn hl
  rw [List.append_nil] at hbd
  refine wpAny_call (codeAny_mono (F.run A X.stack s H ⟨us, []⟩ us vs Q E0 hr e0 hbd r h) fun r s' hq => ?_)
  cases r with
  | error e => exact False.elim hq
  | ok fl =>
    cases fl with
    | ret u => exact I.after hq
    | next => exact False.elim hq
    | brk => exact False.elim hq
    | cont => exact False.elim hq
/-- a == b, both of the class at C, by its __eq__ -/
theorem op_eqOwn (F : FnOk X.prog X.w X.K X.mg X.base CX0 k f fd ps sp) (hs : PySem.W.findIn X.K (.ref C) "__eq__" = some (some (.ref f))) (hf : PySem.W.isFn X.K (.ref f) = true) (hb : Binds X.K fd ps []) (hr : Room k X.A) :
    OpR X (compareOp .Eq) (fun x y H Q => ∃ a b dx dy fs gs, x = .ref a ∧ y = .ref b ∧ H a = some (.ins C dx fs) ∧ H b = some (.ins C dy gs) ∧ sp [.ref a, .ref b] H (fun v H' => ∃ t, v = .bl t ∧ Q (.bl t) H') E0) := by
  intro pins s σ H x y v u Q I rx ry h
  obtain ⟨a, b, dx, dy, fs, gs, rfl, rfl, ha, hb', h⟩ := h
  cases rx
  cases ry
  obtain ⟨mA, J, _⟩ := ins_get I.hok ha
  obtain ⟨mB, J', _⟩ := ins_get I.hok hb'
  obtain ⟨od, J, _⟩ := J.look
  obtain ⟨od', J', _⟩ := J'.look
  obtain ⟨m, hF⟩ := I.fr
  refine PySem.W.cmp_K (op := .Eq) (tb := .ref C) hr.units0 hF I.ok.mod.kin J J'.type (by simp [PySem.W.notFirst]) hs hf ?_
  refine wpAny_mono (run_fnA (Er := X.xe) F hr I.env0 hb I (show Vals [V.ref a, V.ref b] [Value.ref a, Value.ref b] from .cons rfl (.cons rfl .nil)) h) (fun v s' hv => ?_) fun _ _ z => z
  obtain ⟨z, H', I', rz, t, rfl, q⟩ := hv
  cases rz
  exact ⟨.bl t, H', I', rfl, q⟩
theorem ifBound_ne {M : Model} {A : Around} {E : Value → Shared → Prop} {s : Shared} {K : PySem.W.Frag} {x : Addr} {ox : Obj} {od : Option Obj} {args : List Value} {Q : Option Value → Shared → Prop} (X : K.In s.heap) (I : PySem.W.InstAt s.heap x ox C od) (hs : PySem.W.findIn K (.ref C) "__ne__" = some (some (.builtin "object.__ne__")))
    (h : wpAny M A (call (.builtin "object.__ne__") (.ref x :: args)) (fun v => Q (some v)) E s) : wpAny M A (callSpecialIfBound? (.ref x) "__ne__" args) Q E s := by
  simp only [callSpecialIfBound?, bindSpecialIfBound?]
  refine wpAny_holding (wpAny_bind (wpAny_bind (wpAny_bind (I.type.here ((PySem.W.looks_findIn X hs).here ?_)))))
  refine wpAny_bind (wpAny_askSetting (wpAny_ite ?_))
  have fin : wpAny M A (call (.builtin "object.__ne__") ([.ref x] ++ args) >>= fun v => pure (some v)) Q E s := wpAny_bind (wpAny_mono h (fun v s' h' => wpAny_pure h') fun _ _ h' => h')
  split
  · exact wpAny_bind (wpAny_of_eq (PySem.F.cmp_object.ne.bind _) (wpAny_pure (by exact fin)))
  · exact wpAny_tryCatch (wpAny_bind (wpAny_of_eq (PySem.F.cmp_object.ne.bind _) (wpAny_pure (by exact fin))))
/-- a != b, both of the class at C, by its __eq__ -/
theorem op_neOwn (F : FnOk X.prog X.w X.K X.mg X.base CX0 k f fd ps sp) (hs : PySem.W.findIn X.K (.ref C) "__eq__" = some (some (.ref f))) (hf : PySem.W.isFn X.K (.ref f) = true) (hb : Binds X.K fd ps []) (hn : PySem.W.findIn X.K (.ref C) "__ne__" = some (some (.builtin "object.__ne__")))
    (hm : PySem.W.mroIn X.K C (.type "object") = some true) (hr : Room (k + 1) X.A) :
    OpR X (compareOp .NotEq) (fun x y H Q => ∃ a b dx dy fs gs, x = .ref a ∧ y = .ref b ∧ H a = some (.ins C dx fs) ∧ H b = some (.ins C dy gs) ∧ sp [.ref a, .ref b] H (fun v H' => ∃ t, v = .bl t ∧ Q (.bl (!t)) H') E0) := by
  intro pins s σ H x y v u Q I rx ry h
  obtain ⟨a, b, dx, dy, fs, gs, rfl, rfl, ha, hb', h⟩ := h
  cases rx
  cases ry
  obtain ⟨mA, J, _⟩ := ins_get I.hok ha
  obtain ⟨mB, J', _⟩ := ins_get I.hok hb'
  obtain ⟨od, J, _⟩ := J.look
  obtain ⟨od', J', _⟩ := J'.look
  have hu1 : X.A.in1.units < cLine := hr.in1.units0
  have one : wpAny (model X.prog X.w) X.A (tryCompare (.ref a) (cmpInfo .NotEq).2.1 (.ref b)) (fun r s' => ∃ v, r = some v ∧ EP X pins σ Q v s') X.xe s := by
    unfold tryCompare
    refine wpAny_bind (ifBound_ne I.kIn J hn ?_)
    refine wpAny_call (codeAny_call_builtin PySem.F.cmp_object.ne.plain PySem.F.cmpEntry_ne (PySem.W.check_slot PySem.F.cmpKind_ne PySem.F.cmpSplit_ne (J.type.andThen (PySem.W.looks_mroIn I.kIn hm)) (PySem.F.cmpArgs_ne _ _) ?_))
    unfold Builtin.«object.__ne__»
    refine wpAny_bind (wpAny_of_eq (a := (.ref a, [.ref b])) rfl ?_)
    dsimp only
    refine wpAny_bind (wpAny_cRoomFor hu1 ?_)
    refine wpAny_bind (PySem.W.ifBound_K I.kIn J hs hf ?_)
    refine wpAny_mono (run_fnA F hr.in1 I.env0.in1 hb I (show Vals [V.ref a, V.ref b] [Value.ref a, Value.ref b] from .cons rfl (.cons rfl .nil)) h) (fun v s' hv => ?_) fun _ _ z => z
    obtain ⟨z, H', I', rz, t, rfl, q⟩ := hv
    cases rz
    refine wpAny_bind (wpAny_truthy_bool ?_)
    exact wpAny_pure (wpAny_pure ⟨_, rfl, .bl (!t), H', I', rfl, q⟩)
  show wpAny (model X.prog X.w) X.A (richCompare .NotEq (.ref a) (.ref b)) _ _ _
  unfold richCompare
  simp only [oneThing_ref]
  refine wpAny_holding (wpAny_bind (wpAny_cRoomFor hr.units0 ?_))
  refine wpAny_bind (J.type.here (wpAny_bind (J'.type.here ?_)))
  split
  · rename_i q
    simp at q
  · refine wpAny_bind (wpAny_pure ?_)
    simp only [Bool.false_eq_true, if_false]
    refine wpAny_bind (wpAny_mono one (fun r s' z => ?_) fun _ _ e => e)
    obtain ⟨v, rfl, hq⟩ := z
    exact wpAny_pure hq
/-- len(a), a of the class at C, by its __len__ -/
theorem call_lenOwn (F : FnOk X.prog X.w X.K X.mg X.base CX0 k f fd ps sp) (hs : PySem.W.findIn X.K (.ref C) "__len__" = some (some (.ref f))) (hf : PySem.W.isFn X.K (.ref f) = true) (hb : Binds X.K fd ps []) (hr : Room (k + 1) X.A) :
    CallR X (.builtin "len") (fun xs H Q => ∃ a dx fs, xs = [.ref a] ∧ H a = some (.ins C dx fs) ∧ sp [.ref a] H (fun v H' => ∃ n : Nat, v = .int (n : Int) ∧ n ≤ sizeLine ∧ Q (.int (n : Int)) H') E0) := by
  intro pins s σ H xs us Q I r h
  obtain ⟨a, dx, fs, rfl, ha, h⟩ := h
  obtain ⟨u1, rfl, r1⟩ := vals1 r
  cases r1
  obtain ⟨mA, J, _⟩ := ins_get I.hok ha
  obtain ⟨od, J, _⟩ := J.look
  obtain ⟨m, hF⟩ := I.fr
  refine PySem.W.len_K hF I.ok.mod.kin J hs hf ?_
  refine wpAny_mono (run_fnA F hr.in1 I.env0.in1 hb I (show Vals [V.ref a] [Value.ref a] from .cons rfl .nil) h) (fun v s' hv => ?_) fun _ _ z => z
  obtain ⟨z, H', I', rz, n, rfl, hn, q⟩ := hv
  obtain ⟨t, rfl⟩ := rz
  have h63 : (n : Int) < 2 ^ 63 := by
    have := line63
    have : n < 2 ^ 63 := Nat.lt_of_le_of_lt hn this
    exact_mod_cast this
  exact ⟨⟨Int.natCast_nonneg n, h63⟩, .int (n : Int), H', I'.tok _, ⟨_, rfl⟩, q⟩
end
end Sf
namespace Sf
open PySem PySem.Spec PyProof.Rows L2 TL
section
variable {X : Cx}
/-! ### name = {k: v for ..} on one line, the name a local -/
theorem ps_setDc {i : Nat} {y : Str} {py : Pos} {kx vx tg iter : Expr} {ifs : List Expr} {scope : Scope} {own : List (Str × Nat)} {pos spos : Pos} {wi : TI} {g : TG} {tt : TT} {tk tv : TE} (hc : X.calm = true) (hN : X.N.Nodup) (hy : X.N[i]? = some y) (hyl : X.env.scope.names.lookup y = some .local)
    (hsw : swapsWith (.DictComp kx vx [⟨tg, iter, ifs, 0⟩] scope pos) (some (.Name y py)) spos.line X.env = pure true) (hi : PI X tg iter wi) (ok : BlkOk X.N X.env.scope scope own)
    (hg : ∀ (s : Shared) (H : Hp) (C : Addr) (cl : List (Str × Addr)) (fp : List Addr), PG (X.blk s H scope (compEnvC scope cl C X.env) fp) tg g) (ht : ∀ (s : Shared) (H : Hp) (C : Addr) (cl : List (Str × Addr)) (fp : List Addr), PTs (X.blk s H scope (compEnvC scope cl C X.env) fp) ifs tt)
    (hk : ∀ (s : Shared) (H : Hp) (C : Addr) (cl : List (Str × Addr)) (fp : List Addr), PE (X.blk s H scope (compEnvC scope cl C X.env) fp) kx tk)
    (he : ∀ (s : Shared) (H : Hp) (C : Addr) (cl : List (Str × Addr)) (fp : List Addr), PE (X.blk s H scope (compEnvC scope cl C X.env) fp) vx tv) (hs : ∀ x, foldedSetIterable iter X.env x = pure x := by intro _; rfl) :
    PS X (.Assign [.Name y py] (.DictComp kx vx [⟨tg, iter, ifs, 0⟩] scope pos) spos) (tAsg (tDc wi g tt tk tv (own.map (·.2))) (gName i)) := by
  refine ⟨fun pins s σ H D I h => ?_⟩
  rw [exec_Assign_Name_used _ _ _ _ hsw]
  refine wpAny_bind (wpAny_standAt (wpAny_bind ?_))
  show wpAny _ X.A (do let _ ← comprehension (.DictComp kx vx [⟨tg, iter, ifs, 0⟩] scope pos) scope X.env (firstIterPos [⟨tg, iter, ifs, 0⟩] pos) newDict false (eval iter X.env) (some (assign (.Name y py) X.env))) _ _ s
  have h : tDc wi g tt tk tv (own.map (·.2)) σ H (fun x H1 => gName i x σ H1 D.nx) := h
  refine wpAny_bind (thn (dc_core (Qf := fun _ s' => SP X pins D .next s') hc hN I hi ok hg ht hk he hs h fun L C s' m H' I' q hn f => ?_) fun _ s' hq => wpAny_pure (wpAny_pure hq))
  show wpAny _ _ (assign (.Name y py) X.env (.ref L)) _ _ _
  refine wpAny_assign_Name (store_ok2 (v := V.ref L) I' hN hy (.inl hyl) rfl (fun s2 I2 ⟨a, sb, ha⟩ => ?_) (.inr hyl))
  obtain ⟨f0, f1, f2, f3, f4, f5⟩ := f
  have haC : C ≠ a := by
    rcases ha with z | z
    · rw [z]; exact f1
    · exact fun e => f4 y a z e.symm
  refine ⟨m, hn.sameBut sb haC, fun h3 sb3 => ?_⟩
  exact ⟨_, H', I2.turned (t' := s2.toks) (fun b o hb e => (sb3.2 b hb).trans e) f0 f1 f3 f4 f5, q⟩
theorem swD_true {kx vx : Expr} {gs : List Comprehension} {scope : Scope} {pos py : Pos} {y : Str} {l : Nat} {env : Env} (hk : env.scope.kind = .function) (hy : env.scope.names.lookup y = some .local) (hl : (py.line == pos.line) = true)
    (ha : (scope.names.any fun (n, k) => n == y && (k == .local || k == .cell)) = false) : swapsWith (.DictComp kx vx gs scope pos) (some (.Name y py)) l env = pure true := by
  have ky : env.kindOf y = some .local := hy
  have hb : env.blockKind = .function := by unfold Env.blockKind; rw [hk]; rfl
  unfold swapsWith
  simp only [hb, ky, ha, Expr.pos, hl]
  rfl
end
end Sf
namespace Sf
open PySem PySem.Spec PyProof.Rows L2 TL
/-! ### the readings, step by step -/
theorem pe_gS {X : Cx} {x z : Str} {t : Tok} {pos : Pos} (hg : Gl X x) (hm : X.mg x = some (.str z t)) (hd : (x == ("__debug__" : Str)) = false := by decide) : PE X (.Name x pos) (tC (.str z)) := pe_glob (v := .str z) hg hm ⟨t, rfl⟩ hd
theorem pe_gI {X : Cx} {x : Str} {z : Int} {t : Tok} {pos : Pos} (hg : Gl X x) (hm : X.mg x = some (.int z t)) (hd : (x == ("__debug__" : Str)) = false := by decide) : PE X (.Name x pos) (tC (.int z)) := pe_glob (v := .int z) hg hm ⟨t, rfl⟩ hd
/-- a new object at p -/
structure Nw (p : Addr) (H H1 : Hp) : Prop where
  nn : H p = none
  off : ∀ a, a ≠ p → H1 a = H a
/-- all but what stands at p is as it was -/
def Of (p : Addr) (H H1 : Hp) : Prop := ∀ a, a ≠ p → H1 a = H a
theorem Nw.at {p a : Addr} {H H1 : Hp} {o : HO} (n : Nw p H H1) (h : H a = some o) : H1 a = some o := by
  rw [n.off a (ne_of_none h n.nn)]
  exact h
theorem Nw.same {p : Addr} {H H1 : Hp} (n : Nw p H H1) : Same H H1 := fun _ _ h => n.at h
theorem Nw.ne {p a : Addr} {H H1 : Hp} {o : HO} (n : Nw p H H1) (h : H a = some o) : a ≠ p := ne_of_none h n.nn
theorem _root_.L2.Same.at {a : Addr} {H H1 : Hp} {o : HO} (n : Same H H1) (h : H a = some o) : H1 a = some o := n _ _ h
theorem Of.at {p a : Addr} {H H1 : Hp} {o : HO} (n : Of p H H1) (ne : a ≠ p) (h : H a = some o) : H1 a = some o := by
  rw [n a ne]
  exact h
theorem Fx.at {b a : Addr} {H H1 : Hp} {o : HO} (n : Fx b H H1) (ne : a ≠ b) (h : H a = some o) : H1 a = some o := n _ _ h ne
theorem Nw.mk' {p : Addr} {H : Hp} {o : HO} (h : H p = none) : Nw p H (upd H p o) := ⟨h, fun _ n => upd_ne n⟩
theorem _root_.L2.Same.off {p : Addr} {H H1 H2 : Hp} (s : Same H H1) (o : Of p H1 H2) (n : H p = none) : Same H H2 := fun a u h => o.at (ne_of_none h n) (s _ _ h)
theorem _root_.L2.Same.nw {p : Addr} {H H1 H2 : Hp} (s : Same H H1) (o : Nw p H1 H2) : Same H H2 := s.trans o.same
theorem Of.mk' {p : Addr} {H : Hp} {o : HO} : Of p H (upd H p o) := fun _ n => upd_ne n
theorem Bag.nw {H H1 : Hp} {b l p : Addr} (h : Bag H b l) (n : Nw p H H1) : Bag H1 b l := h.same n.same
theorem Bag.off {H H1 : Hp} {b l p : Addr} (h : Bag H b l) (n1 : p ≠ b) (n2 : p ≠ l) (o : Of p H H1) : Bag H1 b l := by
  obtain ⟨ns, k, z, r, h⟩ := h
  exact ⟨ns, k, z, r, o.at n1.symm h.hb, o.at n2.symm h.hl, h.k0, h.z0, h.r0, h.r1⟩
theorem Fx.nw {b p : Addr} {H H1 H2 : Hp} (f : Fx b H H1) (n : Nw p H1 H2) : Fx b H H2 := f.same n.same
theorem Fx.off {b p : Addr} {H H1 H2 : Hp} (f : Fx b H H1) (o : Of p H1 H2) (n : H p = none) : Fx b H H2 := fun a u e hb => o.at (ne_of_none e n) (f a u e hb)
section
variable {σ : L2.St} {H : Hp} {Q : VK} {D : Ends} {K : PySem.W.Frag}
theorem w_var {i : Nat} {v : V} (h : σ[i]? = some (some v)) (q : Q v H) : tVar i σ H Q := ⟨v, h, q⟩
theorem w_c {v : V} (q : Q v H) : tC v σ H Q := q
theorem w_op {r : R2} {ta tb : TE} (q : ta σ H fun x H1 => tb σ H1 fun y H2 => r x y H2 Q) : tOp r ta tb σ H Q := q
theorem w_un {r : V → Hp → VK → Prop} {ta : TE} (q : ta σ H fun x H1 => r x H1 Q) : tUn r ta σ H Q := q
theorem w_i0 {g : Int → Int → V} {i j : Int} (q : Q (g i j) H) : rI0 g (.int i) (.int j) H Q := ⟨i, j, rfl, rfl, q⟩
theorem w_i {C : Int → Int → Prop} {g : Int → Int → V} {i j : Int} (c : C i j) (q : Q (g i j) H) : rI C g (.int i) (.int j) H Q := ⟨i, j, rfl, rfl, c, q⟩
theorem w_u {g : Int → V} {i : Int} (q : Q (g i) H) : rU g (.int i) H Q := ⟨i, rfl, q⟩
theorem dec_int (i j : Int) : decide (V.int i = V.int j) = decide (i = j) := by
  by_cases h : i = j
  · subst h; simp
  · rw [decide_eq_false h, decide_eq_false (fun e => h (V.int.inj e))]
theorem dec_str (i j : Str) : decide (V.str i = V.str j) = decide (i = j) := by
  by_cases h : i = j
  · subst h; simp
  · rw [decide_eq_false h, decide_eq_false (fun e => h (V.str.inj e))]
theorem dec_bl (i j : Bool) : decide (V.bl i = V.bl j) = decide (i = j) := by
  by_cases h : i = j
  · subst h; simp
  · rw [decide_eq_false h, decide_eq_false (fun e => h (V.bl.inj e))]
theorem w_eqI {i j : Int} (q : Q (.bl (decide (i = j))) H) : rEq (.int i) (.int j) H Q := ⟨rfl, by rw [dec_int]; exact q⟩
theorem w_neI {i j : Int} (q : Q (.bl (!decide (i = j))) H) : rNe (.int i) (.int j) H Q := ⟨rfl, by rw [dec_int]; exact q⟩
theorem w_eqS {i j : Str} (q : Q (.bl (decide (i = j))) H) : rEq (.str i) (.str j) H Q := ⟨rfl, by rw [dec_str]; exact q⟩
theorem w_neS {i j : Str} (q : Q (.bl (!decide (i = j))) H) : rNe (.str i) (.str j) H Q := ⟨rfl, by rw [dec_str]; exact q⟩
theorem w_eqB {i j : Bool} (q : Q (.bl (decide (i = j))) H) : rEq (.bl i) (.bl j) H Q := ⟨rfl, by rw [dec_bl]; exact q⟩
theorem w_neB {i j : Bool} (q : Q (.bl (!decide (i = j))) H) : rNe (.bl i) (.bl j) H Q := ⟨rfl, by rw [dec_bl]; exact q⟩
/-! texts -/
def rAddStr : R2 := fun x y H Q => ∃ i j, x = .str i ∧ y = .str j ∧ i.length + j.length ≤ sizeLine ∧ Q (.str (i ++ j)) H
theorem op_addS {X : Cx} : OpR X (binaryOp .Add) rAddStr := op_add_str
theorem w_addS {i j : Str} (h : i.length + j.length ≤ sizeLine) (q : Q (.str (i ++ j)) H) : rAddStr (.str i) (.str j) H Q := ⟨i, j, rfl, rfl, h, q⟩
def rInSign : R2 := fun x y H Q => ∃ (c : Nat) (z : Str), x = .str ⟨#[c]⟩ ∧ y = .str z ∧ Q (.bl (decide (c ∈ z.cps.toList))) H
theorem op_inSg {X : Cx} : OpR X (compareOp .In) rInSign := op_in_sign
theorem w_inSg {c : Nat} {z : Str} (q : Q (.bl (decide (c ∈ z.cps.toList))) H) : rInSign (.str (one c)) (.str z) H Q := ⟨c, z, rfl, rfl, q⟩
def rNotInSign : R2 := fun x y H Q => ∃ (c : Nat) (z : Str), x = .str ⟨#[c]⟩ ∧ y = .str z ∧ Q (.bl (!decide (c ∈ z.cps.toList))) H
theorem op_notInSg {X : Cx} : OpR X (compareOp .NotIn) rNotInSign := op_notIn_sign
theorem w_notInSg {c : Nat} {z : Str} (q : Q (.bl (!decide (c ∈ z.cps.toList))) H) : rNotInSign (.str (one c)) (.str z) H Q := ⟨c, z, rfl, rfl, q⟩
def rIsNone : R2 := fun x y H Q => y = .non ∧ Q (.bl (decide (x = .non))) H
theorem op_isNn {X : Cx} : OpR X (compareOp .Is) rIsNone := op_isN
theorem w_isN {x : V} (q : Q (.bl (decide (x = .non))) H) : rIsNone x .non H Q := ⟨rfl, q⟩
theorem w_isNI {i : Int} (q : Q (.bl false) H) : rIsNone (.int i) .non H Q := ⟨rfl, by rw [decide_eq_false (fun z => nomatch z)]; exact q⟩
theorem w_isNN (q : Q (.bl true) H) : rIsNone .non .non H Q := ⟨rfl, by rw [decide_eq_true rfl]; exact q⟩
def rNotNone : R2 := fun x y H Q => y = .non ∧ Q (.bl (!decide (x = .non))) H
theorem op_notNn {X : Cx} : OpR X (compareOp .IsNot) rNotNone := op_notN
theorem w_notN {x : V} (q : Q (.bl (!decide (x = .non))) H) : rNotNone x .non H Q := ⟨rfl, q⟩
theorem w_notNI {i : Int} (q : Q (.bl true) H) : rNotNone (.int i) .non H Q := ⟨rfl, by rw [decide_eq_false (fun z => nomatch z)]; exact q⟩
theorem w_notNN (q : Q (.bl false) H) : rNotNone .non .non H Q := ⟨rfl, by rw [decide_eq_true rfl]; exact q⟩
theorem w_slS {z : Str} {lo hi : Option Int} (h : z.length ≤ sizeLine) (q : Q (.str (cutS z lo hi)) H) : rSlS (.str z) lo hi H Q := ⟨z, rfl, h, q⟩
theorem w_sl {r : V → Option Int → Option Int → Hp → VK → Prop} {te : TE} {tl th : TO} (q : te σ H fun x H1 => tl σ H1 fun l H2 => th σ H2 fun u H3 => r x l u H3 Q) : tSl r te tl th σ H Q := q
theorem w_nopart {Q : Option Int → Hp → Prop} (q : Q none H) : tNoPart σ H Q := q
def kPart (Q : Option Int → Hp → Prop) : VK := fun x H1 => ∃ i, x = .int i ∧ Q (some i) H1
theorem w_part {t : TE} {Q : Option Int → Hp → Prop} (q : t σ H (kPart Q)) : tPart t σ H Q := q
theorem w_kpart {i : Int} {Q : Option Int → Hp → Prop} (q : Q (some i) H) : kPart Q (.int i) H := ⟨i, rfl, q⟩
theorem w_ixS {z : Str} {i : Int} {c : Nat} (hl : z.length ≤ sizeLine) (h : atI z.cps.toList i = some c) (q : Q (.str (one c)) H) : rIxS (.str z) (.int i) H Q := ⟨z, i, c, rfl, rfl, hl, h, q⟩
theorem w_ixL {p : Addr} {xs : List V} {i : Int} {v : V} (h : H p = some (.lst xs)) (e : atI xs i = some v) (q : Q v H) : rIxL K (.ref p) (.int i) H Q := ⟨p, xs, i, v, rfl, rfl, SqL.of h, e, q⟩
theorem w_ixT {p : Addr} {xs : List V} {i : Int} {v : V} (h : H p = some (.tup xs)) (e : atI xs i = some v) (q : Q v H) : rIxT K (.ref p) (.int i) H Q := ⟨p, xs, i, v, rfl, rfl, SqT.of h, e, q⟩
/-! truth -/
def kB (Q : Bool → Hp → Prop) : VK := fun x H' => ∃ k, x = .bl k ∧ Q k H'
theorem w_test {t : TE} {Q : Bool → Hp → Prop} (q : t σ H (kB Q)) : tTest t σ H Q := q
theorem w_tB {t : TE} {Q : Bool → Hp → Prop} (q : t σ H (kB Q)) : tB t σ H Q := q
theorem w_kB {c : Bool} {Q : Bool → Hp → Prop} (q : Q c H) : kB Q (.bl c) H := ⟨c, rfl, q⟩
def kAnd (u : TT) (σ : L2.St) (Q : Bool → Hp → Prop) : Bool → Hp → Prop := fun c H1 => if c = true then u σ H1 Q else Q false H1
theorem w_and {t u : TT} {Q : Bool → Hp → Prop} (q : t σ H (kAnd u σ Q)) : tAnd t u σ H Q := q
theorem w_andT {u : TT} {Q : Bool → Hp → Prop} (q : u σ H Q) : kAnd u σ Q true H := iteT q
theorem w_andF {u : TT} {Q : Bool → Hp → Prop} (q : Q false H) : kAnd u σ Q false H := iteF q
theorem w_and2 {p : Prop} [Decidable p] {u : TT} {Q : Bool → Hp → Prop} (h1 : p → u σ H Q) (h2 : ¬ p → Q false H) : kAnd u σ Q (decide p) H :=
  ite2 (fun e => h1 (of_decide_eq_true e)) fun e => h2 fun z => e (decide_eq_true z)
theorem w_andN2 {p : Prop} [Decidable p] {u : TT} {Q : Bool → Hp → Prop} (h1 : ¬ p → u σ H Q) (h2 : p → Q false H) : kAnd u σ Q (!decide p) H := by
  by_cases h : p
  · rw [decide_eq_true h]; exact iteF (h2 h)
  · rw [decide_eq_false h]; exact iteT (h1 h)
theorem w_andB {b : Bool} {u : TT} {Q : Bool → Hp → Prop} (h1 : b = true → u σ H Q) (h2 : b = false → Q false H) : kAnd u σ Q b H := by
  cases b with
  | true => exact iteT (h1 rfl)
  | false => exact iteF (h2 rfl)
def kOr (u : TT) (σ : L2.St) (Q : Bool → Hp → Prop) : Bool → Hp → Prop := fun c H1 => if c = true then Q true H1 else u σ H1 Q
theorem w_or {t u : TT} {Q : Bool → Hp → Prop} (q : t σ H (kOr u σ Q)) : tOr t u σ H Q := q
theorem w_orT {u : TT} {Q : Bool → Hp → Prop} (q : Q true H) : kOr u σ Q true H := iteT q
theorem w_orF {u : TT} {Q : Bool → Hp → Prop} (q : u σ H Q) : kOr u σ Q false H := iteF q
theorem w_or2 {p : Prop} [Decidable p] {u : TT} {Q : Bool → Hp → Prop} (h1 : p → Q true H) (h2 : ¬ p → u σ H Q) : kOr u σ Q (decide p) H :=
  ite2 (fun e => h1 (of_decide_eq_true e)) fun e => h2 fun z => e (decide_eq_true z)
theorem w_orN2 {p : Prop} [Decidable p] {u : TT} {Q : Bool → Hp → Prop} (h1 : ¬ p → Q true H) (h2 : p → u σ H Q) : kOr u σ Q (!decide p) H := by
  by_cases h : p
  · rw [decide_eq_true h]; exact iteF (h2 h)
  · rw [decide_eq_false h]; exact iteT (h1 h)
theorem w_orB {b : Bool} {u : TT} {Q : Bool → Hp → Prop} (h1 : b = true → Q true H) (h2 : b = false → u σ H Q) : kOr u σ Q b H := by
  cases b with
  | true => exact iteT (h1 rfl)
  | false => exact iteF (h2 rfl)
def kNot (Q : Bool → Hp → Prop) : Bool → Hp → Prop := fun c H1 => Q (!c) H1
theorem w_not {t : TT} {Q : Bool → Hp → Prop} (q : t σ H (kNot Q)) : tNot t σ H Q := q
theorem w_kNot {c : Bool} {Q : Bool → Hp → Prop} (q : Q (!c) H) : kNot Q c H := q
theorem w_kNotT {Q : Bool → Hp → Prop} (q : Q false H) : kNot Q true H := q
theorem w_kNotF {Q : Bool → Hp → Prop} (q : Q true H) : kNot Q false H := q
theorem w_kNotN {p : Prop} [Decidable p] {Q : Bool → Hp → Prop} (q : Q (decide p) H) : kNot Q (!decide p) H := by
  show Q (!!decide p) H
  rw [Bool.not_not]
  exact q
/-! truth as values -/
def kAndV (tb : TE) (σ : L2.St) (Q : VK) : VK := fun x H1 => ∃ c, x = .bl c ∧ if c = true then tb σ H1 Q else Q (.bl false) H1
theorem w_andV {ta tb : TE} (q : ta σ H (kAndV tb σ Q)) : tAndV ta tb σ H Q := q
theorem w_andVT {tb : TE} (q : tb σ H Q) : kAndV tb σ Q (.bl true) H := ⟨true, rfl, iteT q⟩
theorem w_andVF {tb : TE} (q : Q (.bl false) H) : kAndV tb σ Q (.bl false) H := ⟨false, rfl, iteF q⟩
theorem w_andV2 {p : Prop} [Decidable p] {tb : TE} (h1 : p → tb σ H Q) (h2 : ¬ p → Q (.bl false) H) : kAndV tb σ Q (.bl (decide p)) H :=
  ⟨_, rfl, ite2 (fun e => h1 (of_decide_eq_true e)) fun e => h2 fun z => e (decide_eq_true z)⟩
theorem w_andVB {b : Bool} {tb : TE} (h1 : b = true → tb σ H Q) (h2 : b = false → Q (.bl false) H) : kAndV tb σ Q (.bl b) H := by
  cases b with
  | true => exact w_andVT (h1 rfl)
  | false => exact w_andVF (h2 rfl)
def kOrV (tb : TE) (σ : L2.St) (Q : VK) : VK := fun x H1 => ∃ c, x = .bl c ∧ if c = true then Q (.bl true) H1 else tb σ H1 Q
theorem w_orV {ta tb : TE} (q : ta σ H (kOrV tb σ Q)) : tOrV ta tb σ H Q := q
theorem w_orVB {b : Bool} {tb : TE} (h1 : b = true → Q (.bl true) H) (h2 : b = false → tb σ H Q) : kOrV tb σ Q (.bl b) H := by
  cases b with
  | true => exact ⟨true, rfl, iteT (h1 rfl)⟩
  | false => exact ⟨false, rfl, iteF (h2 rfl)⟩
def kNotV (Q : VK) : VK := fun x H1 => ∃ c, x = .bl c ∧ Q (.bl (!c)) H1
theorem w_notV {ta : TE} (q : ta σ H (kNotV Q)) : tNotV ta σ H Q := q
theorem w_kNotV {c : Bool} (q : Q (.bl (!c)) H) : kNotV Q (.bl c) H := ⟨c, rfl, q⟩
theorem w_kNotVF (q : Q (.bl true) H) : kNotV Q (.bl false) H := ⟨false, rfl, q⟩
theorem w_kNotVT (q : Q (.bl false) H) : kNotV Q (.bl true) H := ⟨true, rfl, q⟩
def kIfE (ta tb : TE) (σ : L2.St) (Q : VK) : Bool → Hp → Prop := fun c H1 => if c = true then ta σ H1 Q else tb σ H1 Q
theorem w_ifE {t : TT} {ta tb : TE} (q : t σ H (kIfE ta tb σ Q)) : tIf t ta tb σ H Q := q
theorem w_ifET {ta tb : TE} (q : ta σ H Q) : kIfE ta tb σ Q true H := iteT q
theorem w_ifEF {ta tb : TE} (q : tb σ H Q) : kIfE ta tb σ Q false H := iteF q
theorem w_ifE2 {p : Prop} [Decidable p] {ta tb : TE} (h1 : p → ta σ H Q) (h2 : ¬ p → tb σ H Q) : kIfE ta tb σ Q (decide p) H :=
  ite2 (fun e => h1 (of_decide_eq_true e)) fun e => h2 fun z => e (decide_eq_true z)
theorem w_ifEN2 {p : Prop} [Decidable p] {ta tb : TE} (h1 : ¬ p → ta σ H Q) (h2 : p → tb σ H Q) : kIfE ta tb σ Q (!decide p) H := by
  by_cases h : p
  · rw [decide_eq_true h]; exact iteF (h2 h)
  · rw [decide_eq_false h]; exact iteT (h1 h)
theorem w_ifEB {b : Bool} {ta tb : TE} (h1 : b = true → ta σ H Q) (h2 : b = false → tb σ H Q) : kIfE ta tb σ Q b H := by
  cases b with
  | true => exact iteT (h1 rfl)
  | false => exact iteF (h2 rfl)
def kChain (r' : R2) (tc : TE) (y : V) (σ : L2.St) (Q : VK) : VK := fun z H3 => ∃ k, z = .bl k ∧ (if k = true then tc σ H3 fun w' H4 => r' y w' H4 Q else Q (.bl false) H3)
theorem w_chain {r r' : R2} {ta tb tc : TE} (q : ta σ H fun x H1 => tb σ H1 fun y H2 => r x y H2 (kChain r' tc y σ Q)) : tChain r r' ta tb tc σ H Q := q
theorem w_chain2 {p : Prop} [Decidable p] {r' : R2} {tc : TE} {y : V} (h1 : p → tc σ H fun w' H4 => r' y w' H4 Q) (h2 : ¬ p → Q (.bl false) H) : kChain r' tc y σ Q (.bl (decide p)) H :=
  ⟨_, rfl, ite2 (fun e => h1 (of_decide_eq_true e)) fun e => h2 fun z => e (decide_eq_true z)⟩
/-! arguments, displays -/
theorem w_nil {Q : List V → Hp → Prop} (q : Q [] H) : tNil σ H Q := q
theorem w_cons {ta : TE} {tr : TA} {Q : List V → Hp → Prop} (q : ta σ H fun x H1 => tr σ H1 fun xs H2 => Q (x :: xs) H2) : tCons ta tr σ H Q := q
def kNewL (Q : VK) : List V → Hp → Prop := fun xs H1 => xs.length ≤ sizeLine ∧ ∀ p, H1 p = none → Q (.ref p) (upd H1 p (.lst xs))
def kNewT (Q : VK) : List V → Hp → Prop := fun xs H1 => xs.length ≤ sizeLine ∧ ∀ p, H1 p = none → Q (.ref p) (upd H1 p (.tup xs))
theorem w_lst {t : TA} (q : t σ H (kNewL Q)) : tLst t σ H Q := q
theorem w_tup {t : TA} (q : t σ H (kNewT Q)) : tTup t σ H Q := q
theorem w_newL {xs : List V} (hl : xs.length ≤ sizeLine) (k : ∀ p H1, H1 p = some (.lst xs) → Nw p H H1 → Q (.ref p) H1) : kNewL Q xs H := ⟨hl, fun _ n => k _ _ upd_same (.mk' n)⟩
theorem w_newT {xs : List V} (hl : xs.length ≤ sizeLine) (k : ∀ p H1, H1 p = some (.tup xs) → Nw p H H1 → Q (.ref p) H1) : kNewT Q xs H := ⟨hl, fun _ n => k _ _ upd_same (.mk' n)⟩
theorem w_slL {p : Addr} {xs : List V} {lo hi : Option Int} (h : H p = some (.lst xs)) (k : ∀ q H1, H1 q = some (.lst (cutV xs lo hi)) → Nw q H H1 → Q (.ref q) H1) : rSlL K (.ref p) lo hi H Q :=
  ⟨p, xs, rfl, SqL.of h, fun _ n => k _ _ upd_same (.mk' n)⟩
theorem w_cat {l b : Addr} {xs zs : List V} (h1 : H l = some (.lst xs)) (h2 : H b = some (.lst zs)) (hl : xs.length + zs.length ≤ sizeLine) (k : ∀ q H1, H1 q = some (.lst (xs ++ zs)) → Nw q H H1 → Q (.ref q) H1) : rCat (.ref l) (.ref b) H Q :=
  ⟨l, b, xs, zs, rfl, rfl, h1, h2, hl, fun _ n => k _ _ upd_same (.mk' n)⟩
/-! calls -/
theorem w_cb {r : List V → Hp → VK → Prop} {t : TA} (q : t σ H fun vs H1 => r vs H1 Q) : tCB r t σ H Q := q
theorem w_call {sp : Sp} {dvs : List V} {E : XK} {t : TA} (q : t σ H fun vs H1 => sp (vs ++ dvs) H1 Q E) : tCall sp dvs E t σ H Q := q
def kMeth (C : Addr) (m : Str) (sp : Sp) (dvs : List V) (E : XK) (t : TA) (σ : L2.St) (Q : VK) : VK := fun x H1 => ∃ a dx fs, x = .ref a ∧ H1 a = some (.ins C dx fs) ∧ fs.lookup m = none ∧ t σ H1 fun vs H2 => sp (x :: (vs ++ dvs)) H2 Q E
theorem w_meth {C : Addr} {m : Str} {sp : Sp} {dvs : List V} {E : XK} {ta : TE} {t : TA} (q : ta σ H (kMeth C m sp dvs E t σ Q)) : tMeth C m sp dvs E ta t σ H Q := q
theorem w_kMeth {C a dx : Addr} {fs : List (Str × V)} {m : Str} {sp : Sp} {dvs : List V} {E : XK} {t : TA} (h : H a = some (.ins C dx fs)) (hm : fs.lookup m = none) (q : t σ H fun vs H2 => sp (.ref a :: (vs ++ dvs)) H2 Q E) : kMeth C m sp dvs E t σ Q (.ref a) H := ⟨a, dx, fs, rfl, h, hm, q⟩
def kMake (C : Addr) (sp : Sp) (dvs : List V) (E : XK) (Q : VK) : List V → Hp → Prop := fun vs H1 => ∀ x dx, H1 x = none → H1 dx = none → dx ≠ x →
  sp (.ref x :: (vs ++ dvs)) (upd (upd H1 dx (.own x)) x (.ins C dx [])) (fun v H2 => v = .non ∧ Q (.ref x) H2) E
theorem w_make {C : Addr} {sp : Sp} {dvs : List V} {E : XK} {t : TA} (q : t σ H (kMake C sp dvs E Q)) : tMake C sp dvs E t σ H Q := q
def kFld (K : PySem.W.Frag) (f : Str) (Q : VK) : VK := fun x H1 => ∃ a C dx fs v, x = .ref a ∧ H1 a = some (.ins C dx fs) ∧ Cls K C ∧ NoAttr K C f ∧ fs.lookup f = some v ∧ Q v H1
theorem w_fld {ta : TE} {f : Str} (q : ta σ H (kFld K f Q)) : tFld K ta f σ H Q := q
theorem w_kFld {a C dx : Addr} {fs : List (Str × V)} {f : Str} {v : V} (h : H a = some (.ins C dx fs)) (c : Cls K C) (n : NoAttr K C f) (e : fs.lookup f = some v) (q : Q v H) : kFld K f Q (.ref a) H := ⟨a, C, dx, fs, v, rfl, h, c, n, e, q⟩
def rLenSeq (K : PySem.W.Frag) : List V → Hp → VK → Prop := fun xs H Q => ∃ p ys, xs = [.ref p] ∧ (SqL K H p ys ∨ SqT K H p ys) ∧ Q (.int ys.length) H
theorem call_lenQ {X : Cx} : CallR X (.builtin "len") (rLenSeq X.K) := call_len_seq
theorem w_lenL {p : Addr} {ys : List V} (h : H p = some (.lst ys)) (q : Q (.int ys.length) H) : rLenSeq K [.ref p] H Q := ⟨p, ys, rfl, .inl (SqL.of h), q⟩
theorem w_lenT {p : Addr} {ys : List V} (h : H p = some (.tup ys)) (q : Q (.int ys.length) H) : rLenSeq K [.ref p] H Q := ⟨p, ys, rfl, .inr (SqT.of h), q⟩
def rLenStr : List V → Hp → VK → Prop := fun xs H Q => ∃ z, xs = [.str z] ∧ z.length ≤ sizeLine ∧ Q (.int z.length) H
theorem call_lenS {X : Cx} : CallR X (.builtin "len") rLenStr := call_len_str
theorem w_lenS {z : Str} (h : z.length ≤ sizeLine) (q : Q (.int z.length) H) : rLenStr [.str z] H Q := ⟨z, rfl, h, q⟩
def rLenDct : List V → Hp → VK → Prop := fun xs H Q => ∃ a kvs, xs = [V.ref a] ∧ H a = some (.dK kvs) ∧ Q (.int kvs.length) H
theorem call_lenDc {X : Cx} : CallR X (.builtin "len") rLenDct := call_lenD
theorem w_lenD {p : Addr} {kvs : List (Key × V)} (h : H p = some (.dK kvs)) (q : Q (.int kvs.length) H) : rLenDct [.ref p] H Q := ⟨p, kvs, rfl, h, q⟩
def rMin2 : List V → Hp → VK → Prop := fun xs H Q => ∃ i j, xs = [.int i, .int j] ∧ Q (.int (if j < i then j else i)) H
theorem call_min2N {X : Cx} (hc : X.calm = true) : CallR X (.builtin "min") rMin2 := call_min2 hc
theorem w_min2 {i j : Int} (q : Q (.int (if j < i then j else i)) H) : rMin2 [.int i, .int j] H Q := ⟨i, j, rfl, q⟩
def rMax2 : List V → Hp → VK → Prop := fun xs H Q => ∃ i j, xs = [.int i, .int j] ∧ Q (.int (if j > i then j else i)) H
theorem call_max2N {X : Cx} (hc : X.calm = true) : CallR X (.builtin "max") rMax2 := call_max2 hc
theorem w_max2 {i j : Int} (q : Q (.int (if j > i then j else i)) H) : rMax2 [.int i, .int j] H Q := ⟨i, j, rfl, q⟩
def rListOf (K : PySem.W.Frag) : List V → Hp → VK → Prop := fun xs H Q => ∃ p ys, xs = [.ref p] ∧ (SqL K H p ys ∨ SqT K H p ys) ∧ ∀ l, H l = none → Q (.ref l) (upd H l (.lst ys))
theorem call_listO {X : Cx} : CallR X (.type "list") (rListOf X.K) := call_list_of
theorem w_listL {p : Addr} {ys : List V} (h : H p = some (.lst ys)) (k : ∀ l H1, H1 l = some (.lst ys) → Nw l H H1 → Q (.ref l) H1) : rListOf K [.ref p] H Q := ⟨p, ys, rfl, .inl (SqL.of h), fun _ n => k _ _ upd_same (.mk' n)⟩
theorem w_listT {p : Addr} {ys : List V} (h : H p = some (.tup ys)) (k : ∀ l H1, H1 l = some (.lst ys) → Nw l H H1 → Q (.ref l) H1) : rListOf K [.ref p] H Q := ⟨p, ys, rfl, .inr (SqT.of h), fun _ n => k _ _ upd_same (.mk' n)⟩
def rTupOf (K : PySem.W.Frag) : List V → Hp → VK → Prop := fun xs H Q => ∃ p ys, xs = [.ref p] ∧ ((SqL K H p ys ∧ ∀ l, H l = none → Q (.ref l) (upd H l (.tup ys))) ∨ (SqT K H p ys ∧ Q (.ref p) H))
theorem call_tupO {X : Cx} : CallR X (.type "tuple") (rTupOf X.K) := call_tuple_of
theorem w_tupL {p : Addr} {ys : List V} (h : H p = some (.lst ys)) (k : ∀ l H1, H1 l = some (.tup ys) → Nw l H H1 → Q (.ref l) H1) : rTupOf K [.ref p] H Q := ⟨p, ys, rfl, .inl ⟨SqL.of h, fun _ n => k _ _ upd_same (.mk' n)⟩⟩
theorem w_all {p : Addr} {bs : List Bool} (h : H p = some (.lst (bs.map V.bl))) (q : Q (.bl (bs.all id)) H) : rAll K [.ref p] H Q := ⟨p, bs, rfl, SqL.of h, q⟩
theorem w_any {p : Addr} {bs : List Bool} (h : H p = some (.lst (bs.map V.bl))) (q : Q (.bl (bs.any id)) H) : rAny K [.ref p] H Q := ⟨p, bs, rfl, SqL.of h, q⟩
theorem w_isi_int_int {i : Int} (q : Q (.bl true) H) : rIsi K [(.int i), .ty "int"] H Q := ⟨_, _, _, _, true, rfl, .ty "int", .base (.int i), kit_ty (by decide +kernel), q⟩
theorem w_isi_int_bool {i : Int} (q : Q (.bl false) H) : rIsi K [(.int i), .ty "bool"] H Q := ⟨_, _, _, _, false, rfl, .ty "bool", .base (.int i), kit_ty (by decide +kernel), q⟩
theorem w_isi_int_str {i : Int} (q : Q (.bl false) H) : rIsi K [(.int i), .ty "str"] H Q := ⟨_, _, _, _, false, rfl, .ty "str", .base (.int i), kit_ty (by decide +kernel), q⟩
theorem w_isi_str_int {i : Str} (q : Q (.bl false) H) : rIsi K [(.str i), .ty "int"] H Q := ⟨_, _, _, _, false, rfl, .ty "int", .base (.str i), kit_ty (by decide +kernel), q⟩
theorem w_isi_str_bool {i : Str} (q : Q (.bl false) H) : rIsi K [(.str i), .ty "bool"] H Q := ⟨_, _, _, _, false, rfl, .ty "bool", .base (.str i), kit_ty (by decide +kernel), q⟩
theorem w_isi_str_str {i : Str} (q : Q (.bl true) H) : rIsi K [(.str i), .ty "str"] H Q := ⟨_, _, _, _, true, rfl, .ty "str", .base (.str i), kit_ty (by decide +kernel), q⟩
theorem w_isi_bool_int {i : Bool} (q : Q (.bl true) H) : rIsi K [(.bl i), .ty "int"] H Q := ⟨_, _, _, _, true, rfl, .ty "int", .base (.bl i), kit_ty (by decide +kernel), q⟩
theorem w_isi_bool_bool {i : Bool} (q : Q (.bl true) H) : rIsi K [(.bl i), .ty "bool"] H Q := ⟨_, _, _, _, true, rfl, .ty "bool", .base (.bl i), kit_ty (by decide +kernel), q⟩
theorem w_isi_bool_str {i : Bool} (q : Q (.bl false) H) : rIsi K [(.bl i), .ty "str"] H Q := ⟨_, _, _, _, false, rfl, .ty "str", .base (.bl i), kit_ty (by decide +kernel), q⟩
theorem w_isi_NoneType_int  (q : Q (.bl false) H) : rIsi K [.non, .ty "int"] H Q := ⟨_, _, _, _, false, rfl, .ty "int", .base .non, kit_ty (by decide +kernel), q⟩
theorem w_isi_NoneType_str  (q : Q (.bl false) H) : rIsi K [.non, .ty "str"] H Q := ⟨_, _, _, _, false, rfl, .ty "str", .base .non, kit_ty (by decide +kernel), q⟩
theorem w_isi_NoneType_bool  (q : Q (.bl false) H) : rIsi K [.non, .ty "bool"] H Q := ⟨_, _, _, _, false, rfl, .ty "bool", .base .non, kit_ty (by decide +kernel), q⟩
/-! methods of lists, texts -/
def kBM (K : PySem.W.Frag) (T : String) (r : V → List V → Hp → VK → Prop) (t : TA) (σ : L2.St) (Q : VK) : VK := fun x H1 => tyV K T x H1 ∧ t σ H1 fun xs H2 => r x xs H2 Q
theorem w_bm {T : String} {r : V → List V → Hp → VK → Prop} {to : TE} {t : TA} (q : to σ H (kBM K T r t σ Q)) : tBM K T r to t σ H Q := q
theorem w_bm0 {T : String} {r : V → List V → Hp → VK → Prop} {to : TE} (q : to σ H (kBM K T r tNil σ Q)) : tBM0 K T r to σ H Q := q
theorem w_kbmL {p : Addr} {xs : List V} {r : V → List V → Hp → VK → Prop} {t : TA} (h : H p = some (.lst xs)) (q : t σ H fun xs H2 => r (.ref p) xs H2 Q) : kBM K "list" r t σ Q (.ref p) H := ⟨.inl ⟨rfl, _, SqL.of h⟩, q⟩
theorem w_append {p : Addr} {xs : List V} {v : V} (h : H p = some (.lst xs)) (hl : xs.length < sizeLine) (k : ∀ H1, H1 p = some (.lst (xs ++ [v])) → Of p H H1 → Q .non H1) : rAppend (.ref p) [v] H Q := ⟨p, xs, v, rfl, rfl, h, hl, k _ upd_same .mk'⟩
theorem perm_erase {α : Type} : ∀ (l : List α) (i : Nat) (h : i < l.length), l.Perm (l[i] :: l.eraseIdx i)
  | x :: r, 0, _ => by exact .refl _
  | x :: r, i + 1, h => by
    have ih := perm_erase r i (by simpa using h)
    exact (ih.cons x).trans (.swap _ _ _)
theorem w_popV {p : Addr} {xs : List V} {i : Int} (h : H p = some (.lst xs)) (h0 : 0 ≤ i) (h1 : i < xs.length) (hz : xs.length ≤ 100000) (k : ∀ x ys H1, xs.Perm (x :: ys) → H1 p = some (.lst ys) → Of p H H1 → Q x H1) : rPopAt (.ref p) [.int i] H Q := by
  have hi : i.toNat < xs.length := by omega
  refine ⟨p, xs, i, i.toNat, xs[i.toNat], rfl, rfl, h, by omega, by omega, ?_, List.getElem?_eq_getElem hi, k _ (xs.eraseIdx i.toNat) _ (perm_erase xs _ hi) upd_same .mk'⟩
  unfold seqIndex?
  simp only [if_neg (show ¬ i < 0 by omega), Bool.and_eq_true, decide_eq_true_eq]
  rw [if_pos ⟨h0, h1⟩]
theorem erase_map {α β : Type} (f : α → β) : ∀ (l : List α) (i : Nat), (l.map f).eraseIdx i = (l.eraseIdx i).map f
  | [], _ => rfl
  | x :: r, 0 => rfl
  | x :: r, i + 1 => by
    show f x :: (r.map f).eraseIdx i = f x :: (r.eraseIdx i).map f
    rw [erase_map f r i]
theorem w_popI {p : Addr} {ns : List Int} {i : Int} (h : H p = some (.lst (ns.map V.int))) (h0 : 0 ≤ i) (h1 : i < ns.length) (hz : ns.length ≤ 100000) (k : ∀ x ms H1, ns.Perm (x :: ms) → H1 p = some (.lst (ms.map V.int)) → Of p H H1 → Q (.int x) H1) : rPopAt (.ref p) [.int i] H Q := by
  have hi : i.toNat < ns.length := by omega
  have e : (ns.map V.int)[i.toNat]? = some (.int ns[i.toNat]) := by rw [List.getElem?_map, List.getElem?_eq_getElem hi]; rfl
  refine ⟨p, _, i, i.toNat, .int ns[i.toNat], rfl, rfl, h, by omega, by omega, ?_, e, k _ (ns.eraseIdx i.toNat) _ (perm_erase ns _ hi) ?_ .mk'⟩
  · unfold seqIndex?
    simp only [if_neg (show ¬ i < 0 by omega), Bool.and_eq_true, decide_eq_true_eq, List.length_map]
    rw [if_pos ⟨h0, h1⟩]
  · rw [upd_same, erase_map]
theorem w_clear {p : Addr} {xs : List V} (h : H p = some (.lst xs)) (k : ∀ H1, H1 p = some (.lst []) → Of p H H1 → Q .non H1) : rClear (.ref p) [] H Q := ⟨p, xs, rfl, rfl, h, k _ upd_same .mk'⟩
def kM0 (r : V → List V → Hp → VK → Prop) (Q : VK) : VK := fun x H1 => (∃ a, x = .str a) ∧ r x [] H1 Q
theorem w_m0 {r : V → List V → Hp → VK → Prop} {to : TE} (q : to σ H (kM0 r Q)) : tM0 r to σ H Q := q
theorem w_kM0 {r : V → List V → Hp → VK → Prop} {x : Str} (q : r (.str x) [] H Q) : kM0 r Q (.str x) H := ⟨⟨x, rfl⟩, q⟩
def kM1 (r : V → List V → Hp → VK → Prop) (te : TE) (σ : L2.St) (Q : VK) : VK := fun x H1 => (∃ a, x = .str a) ∧ te σ H1 fun y H2 => r x [y] H2 Q
theorem w_m1 {r : V → List V → Hp → VK → Prop} {to te : TE} (q : to σ H (kM1 r te σ Q)) : tM1 r to te σ H Q := q
theorem w_kM1 {r : V → List V → Hp → VK → Prop} {te : TE} {x : Str} (q : te σ H fun y H2 => r (.str x) [y] H2 Q) : kM1 r te σ Q (.str x) H := ⟨⟨x, rfl⟩, q⟩
/-! methods of texts, by name -/
def rUpper : V → List V → Hp → VK → Prop := fun x xs H Q => ∃ a, x = .str a ∧ xs = [] ∧ a.length ≤ 5592405 ∧ Q (.str (Txt.upper a)) H
theorem mt_upN {X : Cx} : MtR X "str.upper" rUpper := mt_upper
theorem w_upper {a : Str} (h : a.length ≤ 5592405) (q : Q (.str (Txt.upper a)) H) : rUpper (.str a) [] H Q := ⟨a, rfl, rfl, h, q⟩
theorem w_up1 {c : Nat} (h : 97 ≤ c ∧ c ≤ 104) (q : Q (.str (one (c - 32))) H) : rUpper (.str (one c)) [] H Q := ⟨_, rfl, rfl, by rw [len_one]; decide, by rw [upper_one h]; exact q⟩
def rLower : V → List V → Hp → VK → Prop := fun x xs H Q => ∃ a, x = .str a ∧ xs = [] ∧ a.length ≤ 5592405 ∧ Q (.str (Txt.lower a)) H
theorem mt_loN {X : Cx} : MtR X "str.lower" rLower := mt_lower
theorem w_lower {a : Str} (h : a.length ≤ 5592405) (q : Q (.str (Txt.lower a)) H) : rLower (.str a) [] H Q := ⟨a, rfl, rfl, h, q⟩
theorem w_lo1 {c : Nat} (h : 65 ≤ c ∧ c ≤ 72) (q : Q (.str (one (c + 32))) H) : rLower (.str (one c)) [] H Q := ⟨_, rfl, rfl, by rw [len_one]; decide, by rw [lower_one h]; exact q⟩
def rSwap : V → List V → Hp → VK → Prop := fun x xs H Q => ∃ a, x = .str a ∧ xs = [] ∧ a.length ≤ 5592405 ∧ Q (.str (Txt.swapcase a)) H
theorem pe_swapN {X : Cx} {o : Expr} {to : TE} {apos pos : Pos} (ho : PE X o to) (hbase : attributeBase o "swapcase" X.env (eval o X.env) = eval o X.env := by rfl) (hline : (apos.endLine == pos.line) = true := by rfl) : PE X (.Call (.Attribute o "swapcase" apos) [] [] pos) (tM0 rSwap to) := pe_swapcase ho hbase hline
theorem w_swap {a : Str} (hw : Wd a) (h : a.length ≤ 5592405) (q : Q (.str (flipS a)) H) : rSwap (.str a) [] H Q := ⟨a, rfl, rfl, h, by rw [swap_wd hw]; exact q⟩
theorem w_swap1 {c : Nat} (hc : sgn c = true) (q : Q (.str (one (flipC c))) H) : rSwap (.str (one c)) [] H Q := w_swap (wd_one hc) (by rw [len_one]; decide) q
theorem w_revS {te : TE} (q : te σ H fun x H1 => ∃ z, x = .str z ∧ z.length ≤ sizeLine ∧ Q (.str (revS z)) H1) : tRevS te σ H Q := q
def rJoin (K : PySem.W.Frag) : V → List V → Hp → VK → Prop := fun x xs H Q => ∃ a p, ∃ ys : List Str, x = .str a ∧ xs = [.ref p] ∧ (SqL K H p (ys.map V.str) ∨ SqT K H p (ys.map V.str)) ∧ (ys.map (·.length)).sum + ys.length * a.length ≤ 16777216 ∧ Q (.str (Txt.join a ys)) H
theorem mt_joinN {X : Cx} : MtR X "str.join" (rJoin X.K) := mt_join
theorem w_join {a : Str} {p : Addr} {ys : List Str} (h : H p = some (.lst (ys.map V.str))) (hl : (ys.map (·.length)).sum + ys.length * a.length ≤ 16777216) (q : Q (.str (Txt.join a ys)) H) : rJoin K (.str a) [.ref p] H Q := ⟨a, p, ys, rfl, rfl, .inl (SqL.of h), hl, q⟩
def rStarts : V → List V → Hp → VK → Prop := fun x xs H Q => ∃ a b, x = .str a ∧ xs = [.str b] ∧ Q (.bl (Txt.startswith a b)) H
theorem mt_startN {X : Cx} : MtR X "str.startswith" rStarts := mt_startswith
theorem w_starts {a b : Str} (q : Q (.bl (Txt.startswith a b)) H) : rStarts (.str a) [.str b] H Q := ⟨a, b, rfl, rfl, q⟩
def rEnds : V → List V → Hp → VK → Prop := fun x xs H Q => ∃ a b, x = .str a ∧ xs = [.str b] ∧ Q (.bl (Txt.endswith a b)) H
theorem mt_endN {X : Cx} : MtR X "str.endswith" rEnds := mt_endswith
theorem w_ends {a b : Str} (q : Q (.bl (Txt.endswith a b)) H) : rEnds (.str a) [.str b] H Q := ⟨a, b, rfl, rfl, q⟩
def rMulStr : R2 := fun x y H Q => ∃ (a : Str) (n : Int), x = .str a ∧ y = .int n ∧ 0 ≤ n ∧ n ≤ 1000 ∧ a.length ≤ 1000 ∧ Q (.str (Txt.mul a n)) H
theorem op_mulS {X : Cx} : OpR X (binaryOp .Mult) rMulStr := op_mul_str
theorem w_mulS {a : Str} {n : Int} (h0 : 0 ≤ n) (h1 : n ≤ 1000) (h2 : a.length ≤ 1000) (q : Q (.str (Txt.mul a n)) H) : rMulStr (.str a) (.int n) H Q := ⟨a, n, rfl, rfl, h0, h1, h2, q⟩
/-! dicts -/
def kDGet (x y : V) (Q : VK) : Hp → Prop := fun H2 => ∃ a v, x = .ref a ∧ DGet H2 a y (some v) ∧ Q v H2
theorem w_dget {td ty : TE} (q : td σ H fun x H1 => ty σ H1 fun y H2 => kDGet x y Q H2) : tDGet td ty σ H Q := q
theorem w_kDGetI {a : Addr} {kvs : List (Key × V)} {i : Int} {v : V} (h : H a = some (.dK kvs)) (e : valV kvs (Sum.inl i) = some v) (q : Q v H) : kDGet (.ref a) (.int i) Q H := ⟨a, v, rfl, by rw [← e]; exact DGet.k (k := Sum.inl i) h, q⟩
theorem w_kDGetS {a : Addr} {kvs : List (Key × V)} {i : Str} {v : V} (h : H a = some (.dK kvs)) (e : valV kvs (Sum.inr i) = some v) (q : Q v H) : kDGet (.ref a) (.str i) Q H := ⟨a, v, rfl, by rw [← e]; exact DGet.k (k := Sum.inr i) h, q⟩
def kDIn (y x : V) (Q : VK) : Hp → Prop := fun H2 => ∃ a o, x = .ref a ∧ DGet H2 a y o ∧ Q (.bl o.isSome) H2
theorem w_din {ty td : TE} (q : ty σ H fun y H1 => td σ H1 fun x H2 => kDIn y x Q H2) : tDIn ty td σ H Q := q
theorem w_kDInI {a : Addr} {kvs : List (Key × V)} {i : Int} (h : H a = some (.dK kvs)) (q : Q (.bl (valV kvs (Sum.inl i)).isSome) H) : kDIn (.int i) (.ref a) Q H := ⟨a, _, rfl, DGet.k (k := Sum.inl i) h, q⟩
theorem w_kDInS {a : Addr} {kvs : List (Key × V)} {i : Str} (h : H a = some (.dK kvs)) (q : Q (.bl (valV kvs (Sum.inr i)).isSome) H) : kDIn (.str i) (.ref a) Q H := ⟨a, _, rfl, DGet.k (k := Sum.inr i) h, q⟩
def kDNotIn (y x : V) (Q : VK) : Hp → Prop := fun H2 => ∃ a o, x = .ref a ∧ DGet H2 a y o ∧ Q (.bl (!o.isSome)) H2
theorem w_dnotin {ty td : TE} (q : ty σ H fun y H1 => td σ H1 fun x H2 => kDNotIn y x Q H2) : tDNotIn ty td σ H Q := q
theorem w_kDNotInI {a : Addr} {kvs : List (Key × V)} {i : Int} (h : H a = some (.dK kvs)) (q : Q (.bl (!(valV kvs (Sum.inl i)).isSome)) H) : kDNotIn (.int i) (.ref a) Q H := ⟨a, _, rfl, DGet.k (k := Sum.inl i) h, q⟩
theorem w_kDNotInS {a : Addr} {kvs : List (Key × V)} {i : Str} (h : H a = some (.dK kvs)) (q : Q (.bl (!(valV kvs (Sum.inr i)).isSome)) H) : kDNotIn (.str i) (.ref a) Q H := ⟨a, _, rfl, DGet.k (k := Sum.inr i) h, q⟩
def kDGet1 (ty : TE) (σ : L2.St) (Q : VK) : VK := fun x H1 => ∃ a, x = .ref a ∧ IsD H1 a ∧ ty σ H1 fun y H2 => ∃ o, DGet H2 a y o ∧ Q (o.getD .non) H2
def kDGet1b (a : Addr) (Q : VK) : VK := fun y H2 => ∃ o, DGet H2 a y o ∧ Q (o.getD .non) H2
theorem w_dget1 {td ty : TE} (q : td σ H (kDGet1 ty σ Q)) : tDGet1 td ty σ H Q := q
theorem w_kDGet1 {a : Addr} {kvs : List (Key × V)} {ty : TE} (h : H a = some (.dK kvs)) (q : ty σ H (kDGet1b a Q)) : kDGet1 ty σ Q (.ref a) H := ⟨a, rfl, .inl ⟨kvs, .of h⟩, q⟩
theorem w_kDGet1I {a : Addr} {kvs : List (Key × V)} {i : Int} (h : H a = some (.dK kvs)) (q : Q ((valV kvs (Sum.inl i)).getD .non) H) : kDGet1b a Q (.int i) H := ⟨_, DGet.k (k := Sum.inl i) h, q⟩
theorem w_kDGet1S {a : Addr} {kvs : List (Key × V)} {i : Str} (h : H a = some (.dK kvs)) (q : Q ((valV kvs (Sum.inr i)).getD .non) H) : kDGet1b a Q (.str i) H := ⟨_, DGet.k (k := Sum.inr i) h, q⟩
theorem w_dnewK (k : ∀ p H1, H1 p = some (.dK []) → Nw p H H1 → Q (.ref p) H1) : tDNewK σ H Q := fun _ n => k _ _ upd_same (.mk' n)
def kDPut (n : L2.St → Hp → Prop) (σ : L2.St) (x y v : V) : Hp → Prop := fun H3 => ∃ a H4, x = .ref a ∧ DPut H3 a y v H4 ∧ n σ H4
theorem w_sdput {td ty tv : TE} {n : L2.St → Hp → Prop} {rt : VK} {bk ct : L2.St → Hp → Prop} (q : tv σ H fun v H1 => td σ H1 fun x H2 => ty σ H2 fun y H3 => kDPut n σ x y v H3) : sDPut td ty tv ⟨n, rt, bk, ct⟩ σ H := q
theorem w_kDPutI {a : Addr} {kvs : List (Key × V)} {i : Int} {v : V} {n : L2.St → Hp → Prop} (h : H a = some (.dK kvs)) (hl : kvs.length < sizeLine) (k : ∀ H1, H1 a = some (.dK (putK kvs (Sum.inl i) v)) → Of a H H1 → n σ H1) : kDPut n σ (.ref a) (.int i) v H := ⟨a, _, rfl, DPut.k (k := Sum.inl i) h hl, k _ upd_same .mk'⟩
theorem w_kDPutS {a : Addr} {kvs : List (Key × V)} {i : Str} {v : V} {n : L2.St → Hp → Prop} (h : H a = some (.dK kvs)) (hl : kvs.length < sizeLine) (k : ∀ H1, H1 a = some (.dK (putK kvs (Sum.inr i) v)) → Of a H H1 → n σ H1) : kDPut n σ (.ref a) (.str i) v H := ⟨a, _, rfl, DPut.k (k := Sum.inr i) h hl, k _ upd_same .mk'⟩
/-! a dict made by a comprehension -/
def kDc (g : TG) (tt : TT) (tk tv : TE) (vs : List Nat) (σ : L2.St) (Q : VK) : It → Hp → Prop := fun J H1 => ∀ D, H1 D = none → ∃ W : Nat → Nat → Hp → Prop, (∃ m, W 0 m (upd H1 D (.dK []))) ∧ ∀ i m H, W i m H →
  (J.stop i H ∧ Q (.ref D) H) ∨ (J.go i H ∧ ∃ Nx : Hp → Prop, (∀ H', Nx H' → ∃ m', m' < m ∧ W (i + 1) m' H') ∧ ∀ x H', J.yld i H x H' → g x (wipe σ vs) H' fun σ2 H2 => wipe σ2 vs = wipe σ vs ∧ tt σ2 H2 fun b H3 =>
    if b = true then tk σ2 H3 fun y H4 => tv σ2 H4 fun z H5 => ∃ kvs k, y = kV k ∧ H5 D = some (.dK kvs) ∧ kvs.length < sizeLine ∧ Nx (upd H5 D (.dK (putK kvs k z))) else Nx H3)
theorem w_dc {wi : TI} {g : TG} {tt : TT} {tk tv : TE} {vs : List Nat} (q : wi σ H (kDc g tt tk tv vs σ Q)) : tDc wi g tt tk tv vs σ H Q := q
def kItD (D : Addr) (N : Hp → Prop) (y z : V) : Hp → Prop := fun H5 => ∃ kvs k, y = kV k ∧ H5 D = some (.dK kvs) ∧ kvs.length < sizeLine ∧ N (upd H5 D (.dK (putK kvs k z)))
theorem w_kItDS {p : Addr} {N : Hp → Prop} {kvs : List (Key × V)} {y : Str} {z : V} (h : H p = some (.dK kvs)) (hl : kvs.length < sizeLine) (k : ∀ H5, H5 p = some (.dK (putK kvs (Sum.inr y) z)) → Of p H H5 → N H5) : kItD p N (.str y) z H := ⟨kvs, Sum.inr y, rfl, h, hl, k _ upd_same .mk'⟩
theorem w_kItDI {p : Addr} {N : Hp → Prop} {kvs : List (Key × V)} {y : Int} {z : V} (h : H p = some (.dK kvs)) (hl : kvs.length < sizeLine) (k : ∀ H5, H5 p = some (.dK (putK kvs (Sum.inl y) z)) → Of p H H5 → N H5) : kItD p N (.int y) z H := ⟨kvs, Sum.inl y, rfl, h, hl, k _ upd_same .mk'⟩
def kTstD (tk tv : TE) (σ : L2.St) (D : Addr) (N : Hp → Prop) : Bool → Hp → Prop := fun b H3 => if b = true then tk σ H3 fun y H4 => tv σ H4 fun z H5 => kItD D N y z H5 else N H3
theorem w_tstDT {tk tv : TE} {p : Addr} {N : Hp → Prop} (q : tk σ H fun y H4 => tv σ H4 fun z H5 => kItD p N y z H5) : kTstD tk tv σ p N true H := iteT q
theorem w_tstDB {b : Bool} {tk tv : TE} {p : Addr} {N : Hp → Prop} (h1 : b = true → tk σ H fun y H4 => tv σ H4 fun z H5 => kItD p N y z H5) (h2 : b = false → N H) : kTstD tk tv σ p N b H := by
  cases b with
  | true => exact iteT (h1 rfl)
  | false => exact iteF (h2 rfl)
def kEachD (tt : TT) (tk tv : TE) (vs : List Nat) (σ : L2.St) (D : Addr) (N : Hp → Prop) : L2.St → Hp → Prop := fun σ2 H2 => wipe σ2 vs = wipe σ vs ∧ tt σ2 H2 (kTstD tk tv σ2 D N)
theorem w_eachD {tt : TT} {tk tv : TE} {vs : List Nat} {σ σ2 : L2.St} {p : Addr} {N : Hp → Prop} (e : wipe σ2 vs = wipe σ vs) (q : tt σ2 H (kTstD tk tv σ2 p N)) : kEachD tt tk tv vs σ p N σ2 H := ⟨e, q⟩
theorem w_dcG {J : It} {n : Nat} {g : TG} {tt : TT} {tk tv : TE} {vs : List Nat} (Pv : Addr → Nat → Hp → Prop) (h0 : ∀ p H1, H1 p = some (.dK []) → Nw p H H1 → Pv p 0 H1)
    (hgo : ∀ p i H, i < n → Pv p i H → J.go i H) (hst : ∀ p H, Pv p n H → J.stop n H)
    (hs : ∀ p i x H H', i < n → Pv p i H → J.yld i H x H' → g x (wipe σ vs) H' (kEachD tt tk tv vs σ p (Pv p (i + 1)))) (hd : ∀ p H, Pv p n H → Q (.ref p) H) : kDc g tt tk tv vs σ Q J H := fun p np => by
  refine ⟨fun i m H => m = n - i ∧ i ≤ n ∧ Pv p i H, ⟨n, rfl, Nat.zero_le _, h0 p _ upd_same (.mk' np)⟩, ?_⟩
  rintro i m H ⟨rfl, hi, h⟩
  by_cases hlt : i < n
  · exact .inr ⟨hgo p i H hlt h, Pv p (i + 1), fun H' p' => ⟨n - (i + 1), by omega, rfl, hlt, p'⟩, fun x H' y => hs p i x H H' hlt h y⟩
  · have e : i = n := by omega
    subst e
    exact .inl ⟨hst p H h, hd p H h⟩
theorem w_dcS {x : Str} {g : TG} {tt : TT} {tk tv : TE} {vs : List Nat} (Pv : Addr → Nat → Hp → Prop) (h0 : ∀ p H1, H1 p = some (.dK []) → Nw p H H1 → Pv p 0 H1)
    (hs : ∀ p i c H, (tl x)[i]? = some c → Pv p i H → g (.str (one c)) (wipe σ vs) H (kEachD tt tk tv vs σ p (Pv p (i + 1)))) (hd : ∀ p H, Pv p (tl x).length H → Q (.ref p) H) : kDc g tt tk tv vs σ Q (Its x) H := by
  have hz : x.cps.size = (tl x).length := len_tl x
  refine w_dcG (n := x.cps.size) Pv h0 (fun p i H hi h => hi) (fun p H h => Nat.le_refl _) ?_ (fun p H h => hd p H (by rw [← hz]; exact h))
  rintro p i v H H' hi h ⟨rfl, c, hc, rfl⟩
  exact hs p i c H' (getElem?_of_cps hc) h
/-! list(range(n)) -/
def kRg1 (Q : Int → Int → Hp → Prop) : VK := fun x H1 => ∃ n, x = .int n ∧ Q 0 n H1
theorem w_rg1 {ta : TE} {Q : Int → Int → Hp → Prop} (q : ta σ H (kRg1 Q)) : tRg1 ta σ H Q := q
theorem w_kRg1 {n : Int} {Q : Int → Int → Hp → Prop} (q : Q 0 n H) : kRg1 Q (.int n) H := ⟨n, rfl, q⟩
def kRgL (Q : VK) (a b : Int) : Hp → Prop := fun H1 => RgOk a b ∧ ∀ q, H1 q = none → Q (.ref q) (upd H1 q (.lst (rgV a b)))
theorem w_lstRg {te : L2.St → Hp → (Int → Int → Hp → Prop) → Prop} (q : te σ H fun a b H1 => kRgL Q a b H1) : tLstRg te σ H Q := q
theorem w_kRgL {a b : Int} (h : RgOk a b) (k : ∀ p H1, H1 p = some (.lst (rgV a b)) → Nw p H H1 → Q (.ref p) H1) : kRgL Q a b H := ⟨h, fun _ n => k _ _ upd_same (.mk' n)⟩
/-! statements -/
theorem w_seq {t u : TS} {n : L2.St → Hp → Prop} {rt : VK} {bk ct : L2.St → Hp → Prop} (q : t ⟨u ⟨n, rt, bk, ct⟩, rt, bk, ct⟩ σ H) : tSeq t u ⟨n, rt, bk, ct⟩ σ H := q
/-- a statement, and what holds behind it -/
theorem w_seqJ {t u : TS} {n : L2.St → Hp → Prop} {rt : VK} {bk ct : L2.St → Hp → Prop} (J : L2.St → Hp → Prop) (q : ∀ N : L2.St → Hp → Prop, (∀ σ' H', J σ' H' → N σ' H') → t ⟨N, rt, bk, ct⟩ σ H) (hr : ∀ σ' H', J σ' H' → u ⟨n, rt, bk, ct⟩ σ' H') : tSeq t u ⟨n, rt, bk, ct⟩ σ H := q _ hr
theorem w_next {n : L2.St → Hp → Prop} {rt : VK} {bk ct : L2.St → Hp → Prop} (q : n σ H) : tNext ⟨n, rt, bk, ct⟩ σ H := q
theorem w_break {n : L2.St → Hp → Prop} {rt : VK} {bk ct : L2.St → Hp → Prop} (q : bk σ H) : tBreak ⟨n, rt, bk, ct⟩ σ H := q
theorem w_cont {n : L2.St → Hp → Prop} {rt : VK} {bk ct : L2.St → Hp → Prop} (q : ct σ H) : tCont ⟨n, rt, bk, ct⟩ σ H := q
theorem w_drop {te : TE} {n : L2.St → Hp → Prop} {rt : VK} {bk ct : L2.St → Hp → Prop} (q : te σ H fun _ H1 => n σ H1) : tDrop te ⟨n, rt, bk, ct⟩ σ H := q
theorem w_ret {te : TE} {n : L2.St → Hp → Prop} {rt : VK} {bk ct : L2.St → Hp → Prop} (q : te σ H rt) : tRet te ⟨n, rt, bk, ct⟩ σ H := q
theorem w_retN {n : L2.St → Hp → Prop} {rt : VK} {bk ct : L2.St → Hp → Prop} (q : rt .non H) : tRetN ⟨n, rt, bk, ct⟩ σ H := q
def kIf (t u : TS) (D : Ends) (σ : L2.St) : Bool → Hp → Prop := fun b H1 => if b = true then t D σ H1 else u D σ H1
theorem w_if {c : TT} {t u : TS} (q : c σ H (kIf t u D σ)) : tIfS c t u D σ H := q
theorem w_ifT {t u : TS} (q : t D σ H) : kIf t u D σ true H := iteT q
theorem w_ifF {t u : TS} (q : u D σ H) : kIf t u D σ false H := iteF q
theorem w_if2 {p : Prop} [Decidable p] {t u : TS} (h1 : p → t D σ H) (h2 : ¬ p → u D σ H) : kIf t u D σ (decide p) H :=
  ite2 (fun e => h1 (of_decide_eq_true e)) fun e => h2 fun z => e (decide_eq_true z)
theorem w_ifN2 {p : Prop} [Decidable p] {t u : TS} (h1 : ¬ p → t D σ H) (h2 : p → u D σ H) : kIf t u D σ (!decide p) H := by
  by_cases h : p
  · rw [decide_eq_true h]; exact iteF (h2 h)
  · rw [decide_eq_false h]; exact iteT (h1 h)
theorem w_ifB {b : Bool} {t u : TS} (h1 : b = true → t D σ H) (h2 : b = false → u D σ H) : kIf t u D σ b H := by
  cases b with
  | true => exact iteT (h1 rfl)
  | false => exact iteF (h2 rfl)
theorem w_asg {te : TE} {g : TG} {n : L2.St → Hp → Prop} {rt : VK} {bk ct : L2.St → Hp → Prop} (q : te σ H fun x H1 => g x σ H1 n) : tAsg te g ⟨n, rt, bk, ct⟩ σ H := q
theorem w_gn {i : Nat} {v : V} {Q : L2.St → Hp → Prop} (q : Q (σ.set i (some v)) H) : gName i v σ H Q := q
def kPar (i j : Nat) (σ : L2.St) (n : L2.St → Hp → Prop) : List V → Hp → Prop := fun vs H1 => ∃ v w, vs = [v, w] ∧ n ((σ.set i (some v)).set j (some w)) H1
theorem w_par {i j : Nat} {ta : TA} {n : L2.St → Hp → Prop} {rt : VK} {bk ct : L2.St → Hp → Prop} (q : ta σ H (kPar i j σ n)) : tPar i j ta ⟨n, rt, bk, ct⟩ σ H := q
theorem w_kPar {i j : Nat} {v w : V} {n : L2.St → Hp → Prop} (q : n ((σ.set i (some v)).set j (some w)) H) : kPar i j σ n [v, w] H := ⟨v, w, rfl, q⟩
theorem w_gtup {a : Addr} {xs : List V} {n : Nat} {t : TGs} {Q : L2.St → Hp → Prop} (h : H a = some (.tup xs)) (hl : xs.length = n) (q : t xs σ H Q) : gTup K n t (.ref a) σ H Q := ⟨a, xs, rfl, SqT.of h, hl, q⟩
theorem w_gcons {t : TG} {u : TGs} {v : V} {r : List V} {Q : L2.St → Hp → Prop} (q : t v σ H fun σ' H' => u r σ' H' Q) : gCons t u (v :: r) σ H Q := ⟨v, r, rfl, q⟩
theorem w_gnil {Q : L2.St → Hp → Prop} (q : Q σ H) : gNil [] σ H Q := ⟨rfl, q⟩
theorem w_gsub {to ti : TE} {t : TSet} {v : V} {Q : L2.St → Hp → Prop} (q : to σ H fun o H1 => ti σ H1 fun i H2 => t o i v H2 fun H3 => Q σ H3) : gSub to ti t v σ H Q := q
theorem w_setL {p : Addr} {xs : List V} {k : Int} {j : Nat} {v : V} {Q : Hp → Prop} (h : H p = some (.lst xs)) (e : ixN xs.length k = some j) (q : ∀ H1, H1 p = some (.lst (xs.set j v)) → Of p H H1 → Q H1) : rSetL (.ref p) (.int k) v H Q := ⟨p, xs, k, j, rfl, rfl, h, e, q _ upd_same .mk'⟩
def kSFld (K : PySem.W.Frag) (f : Str) (y : V) (n : L2.St → Hp → Prop) (σ : L2.St) : VK := fun x H2 => ∃ a C dx fs, x = .ref a ∧ H2 a = some (.ins C dx fs) ∧ Cls K C ∧ NoAttr K C f ∧ fs.length < 1000 ∧ n σ (upd H2 a (.ins C dx (putF f y fs)))
theorem w_sfld {ta tv : TE} {f : Str} {n : L2.St → Hp → Prop} {rt : VK} {bk ct : L2.St → Hp → Prop} (q : tv σ H fun y H1 => ta σ H1 (kSFld K f y n σ)) : sFld K ta tv f ⟨n, rt, bk, ct⟩ σ H := q
theorem w_kSFld {a C dx : Addr} {fs : List (Str × V)} {f : Str} {y : V} {n : L2.St → Hp → Prop} (h : H a = some (.ins C dx fs)) (c : Cls K C) (na : NoAttr K C f) (hl : fs.length < 1000) (k : ∀ H1, H1 a = some (.ins C dx (putF f y fs)) → Of a H H1 → n σ H1) : kSFld K f y n σ (.ref a) H :=
  ⟨a, C, dx, fs, rfl, h, c, na, hl, k _ upd_same .mk'⟩
theorem w_aug {i : Nat} {x : V} {te : TE} {ti : TIp} {n : L2.St → Hp → Prop} {rt : VK} {bk ct : L2.St → Hp → Prop} (h : σ[i]? = some (some x)) (q : te σ H fun y H1 => ti x y H1 fun z H2 => n (σ.set i (some z)) H2) : tAug i te ti ⟨n, rt, bk, ct⟩ σ H := ⟨x, h, q⟩
theorem w_ipI {f : Int → Int → Int} {i j : Int} (q : Q (.int (f i j)) H) : ipI f (.int i) (.int j) H Q := ⟨i, j, rfl, rfl, q⟩
/-! loops -/
def kFor (g : TG) (tb : TS) (D : Ends) (σ : L2.St) : It → Hp → Prop := fun J H1 => ∃ W : Nat → Nat → L2.St → Hp → Prop, (∃ m, W 0 m σ H1) ∧ ∀ i m σ H, W i m σ H →
  (J.stop i H ∧ D.nx σ H) ∨ (J.go i H ∧ ∃ N : L2.St → Hp → Prop, (∀ σ' H', N σ' H' → ∃ m', m' < m ∧ W (i + 1) m' σ' H') ∧ ∀ x H', J.yld i H x H' → g x σ H' fun σ2 H2 => tb { D with nx := N, ct := N, bk := D.nx } σ2 H2)
theorem w_for {wi : TI} {g : TG} {tb : TS} (q : wi σ H (kFor g tb D σ)) : tFor wi g tb D σ H := q
def kRng1 (R : It → Hp → Prop) : List V → Hp → Prop := fun vs H1 => ∃ j : Int, vs = [.int j] ∧ -(2 ^ 62) ≤ j ∧ j < 2 ^ 62 ∧ R (Itr 0 j.toNat) H1
theorem w_rng1 {ta : TA} {R : It → Hp → Prop} (q : ta σ H (kRng1 R)) : iRng1 ta σ H R := q
theorem w_kRng1 {j : Int} {R : It → Hp → Prop} (h0 : -(2 ^ 62) ≤ j) (h1 : j < 2 ^ 62) (q : R (Itr 0 j.toNat) H) : kRng1 R [.int j] H := ⟨j, rfl, h0, h1, q⟩
def kList (K : PySem.W.Frag) (R : It → Hp → Prop) : VK := fun x H1 => ∃ a, x = .ref a ∧ (∃ xs, SqL K H1 a xs) ∧ R (Itl K a) H1
theorem w_ilist {tl : TE} {R : It → Hp → Prop} (q : tl σ H (kList K R)) : iList K tl σ H R := q
theorem w_kList {a : Addr} {xs : List V} {R : It → Hp → Prop} (h : H a = some (.lst xs)) (q : R (Itl K a) H) : kList K R (.ref a) H := ⟨a, rfl, ⟨xs, SqL.of h⟩, q⟩
def kTupI (K : PySem.W.Frag) (R : It → Hp → Prop) : VK := fun x H1 => ∃ a, x = .ref a ∧ (∃ xs, SqT K H1 a xs) ∧ R (Itt K a) H1
theorem w_itup {tl : TE} {R : It → Hp → Prop} (q : tl σ H (kTupI K R)) : iTup K tl σ H R := q
theorem w_kTupI {a : Addr} {xs : List V} {R : It → Hp → Prop} (h : H a = some (.tup xs)) (q : R (Itt K a) H) : kTupI K R (.ref a) H := ⟨a, rfl, ⟨xs, SqT.of h⟩, q⟩
def kStr (R : It → Hp → Prop) : VK := fun v H1 => ∃ x, v = .str x ∧ R (Its x) H1
theorem w_istr {te : TE} {R : It → Hp → Prop} (q : te σ H (kStr R)) : iStr te σ H R := q
theorem w_kStr {x : Str} {R : It → Hp → Prop} (q : R (Its x) H) : kStr R (.str x) H := ⟨x, rfl, q⟩
def kEnum (K : PySem.W.Frag) (R : It → Hp → Prop) : List V → Hp → Prop := fun vs H1 => ∃ a xs, vs = [.ref a] ∧ SqL K H1 a xs ∧ R (Ite K a) H1
theorem w_ienum {ta : TA} {R : It → Hp → Prop} (q : ta σ H (kEnum K R)) : iEnum K ta σ H R := q
theorem w_kEnum {a : Addr} {xs : List V} {R : It → Hp → Prop} (h : H a = some (.lst xs)) (q : R (Ite K a) H) : kEnum K R [.ref a] H := ⟨a, xs, rfl, SqL.of h, q⟩
/-- a loop: what holds ahead of turn i -/
theorem w_range {lo : Int} {n : Nat} {g : TG} {tb : TS} {nx : L2.St → Hp → Prop} {rt : VK} {bk ct : L2.St → Hp → Prop} (Pv : Nat → L2.St → Hp → Prop) (h0 : Pv 0 σ H)
    (hs : ∀ i σ H, i < n → Pv i σ H → g (.int (lo + i)) σ H fun σ2 H2 => tb ⟨Pv (i + 1), rt, nx, Pv (i + 1)⟩ σ2 H2) (hd : ∀ σ H, Pv n σ H → nx σ H) : kFor g tb ⟨nx, rt, bk, ct⟩ σ (Itr lo n) H :=
  for_range (lo := lo) (n := n) Pv h0 hs hd
theorem w_list {a : Addr} {xs : List V} {g : TG} {tb : TS} {nx : L2.St → Hp → Prop} {rt : VK} {bk ct : L2.St → Hp → Prop} (Pv : Nat → L2.St → Hp → Prop) (h0 : Pv 0 σ H) (hl : ∀ i σ H, i ≤ xs.length → Pv i σ H → H a = some (.lst xs))
    (hs : ∀ i x σ H, xs[i]? = some x → Pv i σ H → g x σ H fun σ2 H2 => tb ⟨Pv (i + 1), rt, nx, Pv (i + 1)⟩ σ2 H2) (hd : ∀ σ H, Pv xs.length σ H → nx σ H) : kFor g tb ⟨nx, rt, bk, ct⟩ σ (Itl K a) H :=
  for_list (K := K) (a := a) (xs := xs) Pv h0 (fun i σ H hi p => SqL.of (hl i σ H hi p)) hs hd
theorem w_tupF {a : Addr} {xs : List V} {g : TG} {tb : TS} {nx : L2.St → Hp → Prop} {rt : VK} {bk ct : L2.St → Hp → Prop} (Pv : Nat → L2.St → Hp → Prop) (h0 : Pv 0 σ H) (hl : ∀ i σ H, i ≤ xs.length → Pv i σ H → H a = some (.tup xs))
    (hs : ∀ i x σ H, xs[i]? = some x → Pv i σ H → g x σ H fun σ2 H2 => tb ⟨Pv (i + 1), rt, nx, Pv (i + 1)⟩ σ2 H2) (hd : ∀ σ H, Pv xs.length σ H → nx σ H) : kFor g tb ⟨nx, rt, bk, ct⟩ σ (Itt K a) H := by
  refine for_gen (n := xs.length) Pv h0 (fun i σ H hi p => ⟨xs, xs[i], SqT.of (hl i σ H (Nat.le_of_lt hi) p), List.getElem?_eq_getElem hi⟩) (fun σ H p => ⟨xs, SqT.of (hl _ σ H (Nat.le_refl _) p), Nat.le_refl _⟩) ?_ hd
  rintro i v σ H H' hi p ⟨rfl, hx⟩
  exact hs i v σ H' (hx xs (SqT.of (hl i σ H' (Nat.le_of_lt hi) p))) p
theorem w_str {x : Str} {g : TG} {tb : TS} {nx : L2.St → Hp → Prop} {rt : VK} {bk ct : L2.St → Hp → Prop} (Pv : Nat → L2.St → Hp → Prop) (h0 : Pv 0 σ H)
    (hs : ∀ i c σ H, (tl x)[i]? = some c → Pv i σ H → g (.str (one c)) σ H fun σ2 H2 => tb ⟨Pv (i + 1), rt, nx, Pv (i + 1)⟩ σ2 H2) (hd : ∀ σ H, Pv (tl x).length σ H → nx σ H) : kFor g tb ⟨nx, rt, bk, ct⟩ σ (Its x) H := by
  have hz : x.cps.size = (tl x).length := len_tl x
  refine for_gen (n := x.cps.size) Pv h0 (fun i σ H hi _ => hi) (fun σ H _ => Nat.le_refl _) ?_ (fun σ H p => hd σ H (by rw [← hz]; exact p))
  rintro i v σ H H' hi p ⟨rfl, c, hc, rfl⟩
  exact hs i c σ H' (getElem?_of_cps hc) p
theorem w_enum {a : Addr} {xs : List V} {g : TG} {tb : TS} {nx : L2.St → Hp → Prop} {rt : VK} {bk ct : L2.St → Hp → Prop} (Pv : Nat → L2.St → Hp → Prop) (h0 : Pv 0 σ H) (hl : ∀ i σ H, i ≤ xs.length → Pv i σ H → H a = some (.lst xs))
    (hs : ∀ i x t σ H H1, xs[i]? = some x → Pv i σ H → H1 t = some (.tup [.int (i : Nat), x]) → Nw t H H1 → g (.ref t) σ H1 fun σ2 H2 => tb ⟨Pv (i + 1), rt, nx, Pv (i + 1)⟩ σ2 H2) (hd : ∀ σ H, Pv xs.length σ H → nx σ H) : kFor g tb ⟨nx, rt, bk, ct⟩ σ (Ite K a) H := by
  refine for_gen (n := xs.length) Pv h0 (fun i σ H hi p => ⟨xs, xs[i], SqL.of (hl i σ H (Nat.le_of_lt hi) p), List.getElem?_eq_getElem hi⟩) (fun σ H p => ⟨xs, SqL.of (hl _ σ H (Nat.le_refl _) p), Nat.le_refl _⟩) ?_ hd
  rintro i v σ H H' hi p ⟨t, x, rfl, nt, rfl, hx⟩
  exact hs i x t σ H _ (hx xs (SqL.of (hl i σ H (Nat.le_of_lt hi) p))) p upd_same (.mk' nt)
/-! comprehensions -/
def kLc (g : TG) (tt : TT) (te : TE) (vs : List Nat) (σ : L2.St) (Q : VK) : It → Hp → Prop := fun J H1 => ∀ D, H1 D = none → ∃ W : Nat → Nat → Hp → Prop, (∃ m, W 0 m (upd H1 D (.lst []))) ∧ ∀ i m H, W i m H →
  (J.stop i H ∧ Q (.ref D) H) ∨ (J.go i H ∧ ∃ Nx : Hp → Prop, (∀ H', Nx H' → ∃ m', m' < m ∧ W (i + 1) m' H') ∧ ∀ x H', J.yld i H x H' → g x (wipe σ vs) H' fun σ2 H2 => wipe σ2 vs = wipe σ vs ∧ tt σ2 H2 fun b H3 =>
    if b = true then te σ2 H3 fun y H4 => ∃ acc, H4 D = some (.lst acc) ∧ acc.length < sizeLine ∧ Nx (upd H4 D (.lst (acc ++ [y]))) else Nx H3)
theorem w_lc {wi : TI} {g : TG} {tt : TT} {te : TE} {vs : List Nat} (q : wi σ H (kLc g tt te vs σ Q)) : tLc wi g tt te vs σ H Q := q
/-- what an item of the list does: the item, then the list -/
def kIt (D : Addr) (N : Hp → Prop) : VK := fun y H4 => ∃ acc, H4 D = some (.lst acc) ∧ acc.length < sizeLine ∧ N (upd H4 D (.lst (acc ++ [y])))
theorem w_kIt {p : Addr} {N : Hp → Prop} {acc : List V} {y : V} (h : H p = some (.lst acc)) (hl : acc.length < sizeLine) (k : ∀ H5, H5 p = some (.lst (acc ++ [y])) → Of p H H5 → N H5) : kIt p N y H := ⟨acc, h, hl, k _ upd_same .mk'⟩
def kTst (te : TE) (σ : L2.St) (D : Addr) (N : Hp → Prop) : Bool → Hp → Prop := fun b H3 => if b = true then te σ H3 (kIt D N) else N H3
theorem w_yes {Q : Bool → Hp → Prop} (q : Q true H) : tYes σ H Q := q
theorem w_tstT {te : TE} {p : Addr} {N : Hp → Prop} (q : te σ H (kIt p N)) : kTst te σ p N true H := iteT q
theorem w_tstF {te : TE} {p : Addr} {N : Hp → Prop} (q : N H) : kTst te σ p N false H := iteF q
theorem w_tst2 {c : Prop} [Decidable c] {te : TE} {p : Addr} {N : Hp → Prop} (h1 : c → te σ H (kIt p N)) (h2 : ¬ c → N H) : kTst te σ p N (decide c) H :=
  ite2 (fun e => h1 (of_decide_eq_true e)) fun e => h2 fun z => e (decide_eq_true z)
theorem w_tstB {b : Bool} {te : TE} {p : Addr} {N : Hp → Prop} (h1 : b = true → te σ H (kIt p N)) (h2 : b = false → N H) : kTst te σ p N b H := by
  cases b with
  | true => exact iteT (h1 rfl)
  | false => exact iteF (h2 rfl)
def kEach (tt : TT) (te : TE) (vs : List Nat) (σ : L2.St) (D : Addr) (N : Hp → Prop) : L2.St → Hp → Prop := fun σ2 H2 => wipe σ2 vs = wipe σ vs ∧ tt σ2 H2 (kTst te σ2 D N)
theorem w_each {tt : TT} {te : TE} {vs : List Nat} {σ σ2 : L2.St} {p : Addr} {N : Hp → Prop} (e : wipe σ2 vs = wipe σ vs) (q : tt σ2 H (kTst te σ2 p N)) : kEach tt te vs σ p N σ2 H := ⟨e, q⟩
/-- a comprehension by what holds ahead of item i; p: where the made list stands -/
theorem w_lcG {J : It} {n : Nat} {g : TG} {tt : TT} {te : TE} {vs : List Nat} (Pv : Addr → Nat → Hp → Prop) (h0 : ∀ p H1, H1 p = some (.lst []) → Nw p H H1 → Pv p 0 H1)
    (hgo : ∀ p i H, i < n → Pv p i H → J.go i H) (hst : ∀ p H, Pv p n H → J.stop n H)
    (hs : ∀ p i x H H', i < n → Pv p i H → J.yld i H x H' → g x (wipe σ vs) H' (kEach tt te vs σ p (Pv p (i + 1)))) (hd : ∀ p H, Pv p n H → Q (.ref p) H) : kLc g tt te vs σ Q J H := fun p np =>
  lc_gen (n := n) (Pv p) (h0 p _ upd_same (.mk' np)) (hgo p) (hst p) (hs p) (hd p)
theorem w_lcL {a : Addr} {xs : List V} {g : TG} {tt : TT} {te : TE} {vs : List Nat} (Pv : Addr → Nat → Hp → Prop) (h0 : ∀ p H1, H1 p = some (.lst []) → Nw p H H1 → Pv p 0 H1)
    (hl : ∀ p i H, i ≤ xs.length → Pv p i H → H a = some (.lst xs)) (hs : ∀ p i x H, xs[i]? = some x → Pv p i H → g x (wipe σ vs) H (kEach tt te vs σ p (Pv p (i + 1)))) (hd : ∀ p H, Pv p xs.length H → Q (.ref p) H) : kLc g tt te vs σ Q (Itl K a) H := by
  refine w_lcG (n := xs.length) Pv h0 (fun p i H hi h => ⟨xs, xs[i], SqL.of (hl p i H (Nat.le_of_lt hi) h), List.getElem?_eq_getElem hi⟩) (fun p H h => ⟨xs, SqL.of (hl p _ H (Nat.le_refl _) h), Nat.le_refl _⟩) ?_ hd
  rintro p i x H H' hi h ⟨rfl, hx⟩
  exact hs p i x H' (hx xs (SqL.of (hl p i H' (Nat.le_of_lt hi) h))) h
theorem w_lcR {lo : Int} {n : Nat} {g : TG} {tt : TT} {te : TE} {vs : List Nat} (Pv : Addr → Nat → Hp → Prop) (h0 : ∀ p H1, H1 p = some (.lst []) → Nw p H H1 → Pv p 0 H1)
    (hs : ∀ p i H, i < n → Pv p i H → g (.int (lo + i)) (wipe σ vs) H (kEach tt te vs σ p (Pv p (i + 1)))) (hd : ∀ p H, Pv p n H → Q (.ref p) H) : kLc g tt te vs σ Q (Itr lo n) H := by
  refine w_lcG (n := n) Pv h0 (fun p i H hi h => hi) (fun p H h => Nat.le_refl _) ?_ hd
  rintro p i x H H' hi h ⟨rfl, rfl⟩
  exact hs p i H' hi h
theorem w_lcS {x : Str} {g : TG} {tt : TT} {te : TE} {vs : List Nat} (Pv : Addr → Nat → Hp → Prop) (h0 : ∀ p H1, H1 p = some (.lst []) → Nw p H H1 → Pv p 0 H1)
    (hs : ∀ p i c H, (tl x)[i]? = some c → Pv p i H → g (.str (one c)) (wipe σ vs) H (kEach tt te vs σ p (Pv p (i + 1)))) (hd : ∀ p H, Pv p (tl x).length H → Q (.ref p) H) : kLc g tt te vs σ Q (Its x) H := by
  have hz : x.cps.size = (tl x).length := len_tl x
  refine w_lcG (n := x.cps.size) Pv h0 (fun p i H hi h => hi) (fun p H h => Nat.le_refl _) ?_ (fun p H h => hd p H (by rw [← hz]; exact h))
  rintro p i v H H' hi h ⟨rfl, c, hc, rfl⟩
  exact hs p i c H' (getElem?_of_cps hc) h
end
end Sf
namespace Sf
open PySem PySem.Spec PyProof.Rows L2 TL
/-! ### worlds: the mathematics -/
/-- a move: the code of its letter, from, to -/
abbrev Mv := Nat × Int × Int
def sgs : List Nat := [97, 65, 98, 66, 99, 67, 100, 68, 101, 69, 102, 70, 103, 71, 104, 72]
theorem sgs_iff {c : Nat} : c ∈ sgs ↔ sgn c = true := by
  rw [sgn_iff]
  unfold sgs
  simp only [List.mem_cons, List.not_mem_nil, or_false]
  omega
theorem sgs_nd : sgs.Nodup := by decide
def mvOn (c : Nat) (m : Mv) : Option (Int × Int) := if m.1 = c then some (m.2.1, m.2.2) else if m.1 = c + 32 then some (m.2.2, m.2.1) else none
def LM (ms : List Mv) (c : Nat) : List (Int × Int) := ms.filterMap (mvOn c)
def lk (l : List (Int × Int)) (x : Int) : Option Int := (l.find? fun p => decide (p.1 = x)).map (·.2)
def kvI (l : List (Int × Int)) : List (Key × V) := l.map fun p => (Sum.inl p.1, V.int p.2)
def oV : Option Int → V
  | none => .non
  | some i => .int i
theorem kvI_len (l : List (Int × Int)) : (kvI l).length = l.length := List.length_map ..
theorem val_kvI (x : Int) : ∀ l : List (Int × Int), valV (kvI l) (Sum.inl x) = (lk l x).map V.int
  | [] => rfl
  | (a, b) :: r => by
    unfold kvI lk
    rw [List.map_cons, List.find?_cons]
    by_cases h : a = x
    · rw [valV_pos (by show (Sum.inl a : Key) = Sum.inl x; rw [h]), decide_eq_true h]
      rfl
    · rw [valV_neg (fun e => h (Sum.inl.inj e)), decide_eq_false h]
      exact val_kvI x r
theorem getD_kvI (x : Int) (l : List (Int × Int)) : (valV (kvI l) (Sum.inl x)).getD .non = oV (lk l x) := by
  rw [val_kvI]
  cases lk l x <;> rfl
theorem lk_none {l : List (Int × Int)} {x : Int} (h : ∀ p ∈ l, p.1 ≠ x) : lk l x = none := by
  unfold lk
  rw [List.find?_eq_none.mpr fun p hp => by simp [h p hp]]
  rfl
theorem lk_mem {l : List (Int × Int)} {x y : Int} (h : lk l x = some y) : (x, y) ∈ l := by
  unfold lk at h
  rw [Option.map_eq_some_iff] at h
  obtain ⟨p, hp, rfl⟩ := h
  have h1 := List.find?_some hp
  have h2 := List.mem_of_find?_eq_some hp
  rw [decide_eq_true_eq] at h1
  rw [← h1]
  exact h2
theorem lk_of {l : List (Int × Int)} {x y : Int} (hu : ∀ p ∈ l, ∀ q ∈ l, p.1 = q.1 → p = q) (h : (x, y) ∈ l) : lk l x = some y := by
  cases e : lk l x with
  | none =>
    unfold lk at e
    rw [Option.map_eq_none_iff, List.find?_eq_none] at e
    exact absurd (decide_eq_true rfl) (e _ h)
  | some z =>
    have := hu _ (lk_mem e) _ h rfl
    exact congrArg some (congrArg Prod.snd this)
structure WOk (n : Int) (ms : List Mv) : Prop where
  rg : ∀ m ∈ ms, 97 ≤ m.1 ∧ m.1 ≤ 104 ∧ 0 ≤ m.2.1 ∧ m.2.1 < n ∧ 0 ≤ m.2.2 ∧ m.2.2 < n
  pw : ms.Pairwise fun m k => m.1 = k.1 → m.2.1 ≠ k.2.1 ∧ m.2.2 ≠ k.2.2
theorem WOk.pre {n : Int} {ms : List Mv} {m : Mv} (h : WOk n (ms ++ [m])) : WOk n ms ∧ ∀ k ∈ ms, k.1 = m.1 → k.2.1 ≠ m.2.1 ∧ k.2.2 ≠ m.2.2 :=
  ⟨⟨fun k hk => h.rg k (List.mem_append_left _ hk), (List.pairwise_append.mp h.pw).1⟩, fun k hk => (List.pairwise_append.mp h.pw).2.2 k hk m (List.mem_singleton.mpr rfl)⟩
theorem WOk.take {n : Int} {ms : List Mv} (h : WOk n ms) (i : Nat) : WOk n (ms.take i) := ⟨fun m hm => h.rg m (List.mem_of_mem_take hm), h.pw.sublist (List.take_sublist i ms)⟩
theorem take_snoc {α : Type} {l : List α} {i : Nat} {x : α} (h : l[i]? = some x) : l.take (i + 1) = l.take i ++ [x] := by
  rw [List.take_add_one, h]
  rfl
theorem LM_snoc (ms : List Mv) (m : Mv) (c : Nat) : LM (ms ++ [m]) c = LM ms c ++ (mvOn c m).toList := by
  unfold LM
  rw [List.filterMap_append, List.filterMap_cons]
  cases mvOn c m <;> rfl
theorem LM_mem {ms : List Mv} {c : Nat} {p : Int × Int} : p ∈ LM ms c ↔ ∃ m ∈ ms, (m.1 = c ∧ m.2.1 = p.1 ∧ m.2.2 = p.2) ∨ (m.1 ≠ c ∧ m.1 = c + 32 ∧ m.2.2 = p.1 ∧ m.2.1 = p.2) := by
  unfold LM
  rw [List.mem_filterMap]
  constructor
  · rintro ⟨m, hm, e⟩
    refine ⟨m, hm, ?_⟩
    unfold mvOn at e
    split at e
    · rename_i h
      cases e
      exact .inl ⟨h, rfl, rfl⟩
    · rename_i h
      split at e
      · rename_i h2
        cases e
        exact .inr ⟨h, h2, rfl, rfl⟩
      · cases e
  · rintro ⟨m, hm, e⟩
    refine ⟨m, hm, ?_⟩
    unfold mvOn
    rcases e with ⟨h1, h2, h3⟩ | ⟨h0, h1, h2, h3⟩
    · rw [if_pos h1, h2, h3]
    · rw [if_neg h0, if_pos h1, h2, h3]
/-- the step at a new move: its start is free, its end too -/
theorem new_start {n : Int} {ms : List Mv} {m : Mv} (h : WOk n (ms ++ [m])) : lk (LM ms m.1) m.2.1 = none := lk_none fun p hp => by
  obtain ⟨k, hk, e⟩ := LM_mem.mp hp
  have hr := h.rg k (List.mem_append_left _ hk)
  have hm := h.rg m (List.mem_append_right _ (List.mem_singleton.mpr rfl))
  rcases e with ⟨h1, h2, _⟩ | ⟨_, h1, _⟩
  · rw [← h2]
    exact (h.pre.2 k hk h1).1
  · omega
theorem new_end {n : Int} {ms : List Mv} {m : Mv} (h : WOk n (ms ++ [m])) : lk (LM ms (m.1 - 32)) m.2.2 = none := lk_none fun p hp => by
  obtain ⟨k, hk, e⟩ := LM_mem.mp hp
  have hr := h.rg k (List.mem_append_left _ hk)
  have hm := h.rg m (List.mem_append_right _ (List.mem_singleton.mpr rfl))
  rcases e with ⟨h1, h2, _⟩ | ⟨_, h1, h2, _⟩
  · omega
  · rw [← h2]
    exact (h.pre.2 k hk (by omega)).2
theorem mvOn_self (m : Mv) : mvOn m.1 m = some (m.2.1, m.2.2) := by
  unfold mvOn
  rw [if_pos rfl]
theorem mvOn_great {m : Mv} (h : 97 ≤ m.1) : mvOn (m.1 - 32) m = some (m.2.2, m.2.1) := by
  unfold mvOn
  rw [if_neg (by omega), if_pos (by omega)]
theorem mvOn_other {m : Mv} {c : Nat} (h1 : c ≠ m.1) (h2 : c ≠ m.1 - 32) (h : 97 ≤ m.1) : mvOn c m = none := by
  unfold mvOn
  rw [if_neg (Ne.symm h1), if_neg (by omega)]
theorem LM_len (ms : List Mv) (c : Nat) : (LM ms c).length ≤ ms.length := List.length_filterMap_le ..
/-- where a word leads -/
def ledM (st : Nat → Int → Option Int) : List Nat → Int → Option Int
  | [], x => some x
  | c :: r, x => (st c x).bind (ledM st r)
theorem ledM_app (st : Nat → Int → Option Int) : ∀ (l r : List Nat) (x : Int), ledM st (l ++ r) x = (ledM st l x).bind (ledM st r)
  | [], r, x => rfl
  | c :: l, r, x => by
    show (st c x).bind (ledM st (l ++ r)) = ((st c x).bind (ledM st l)).bind (ledM st r)
    cases st c x with
    | none => rfl
    | some y => exact ledM_app st l r y
theorem ledM_snoc {st : Nat → Int → Option Int} {l : List Nat} {i c : Nat} {x : Int} (h : l[i]? = some c) : ledM st (l.take (i + 1)) x = (ledM st (l.take i) x).bind (st c) := by
  rw [take_snoc h, ledM_app]
  cases ledM st (l.take i) x with
  | none => rfl
  | some y =>
    show (st c y).bind (fun z => some z) = st c y
    cases st c y <;> rfl
theorem ledM_none {st : Nat → Int → Option Int} {l : List Nat} {i : Nat} {x : Int} (h : ledM st (l.take i) x = none) : ledM st l x = none := by
  have e := ledM_app st (l.take i) (l.drop i) x
  rw [List.take_append_drop, h] at e
  exact e
theorem one_inj {a b : Nat} (h : one a = one b) : a = b := by
  have h2 : tl (one a) = tl (one b) := by rw [h]
  exact (List.cons.inj h2).1
def stp (L : Nat → List (Int × Int)) (c : Nat) (x : Int) : Option Int := lk (L c) x
theorem val_sgs {f : Nat → V} {c : Nat} : ∀ {l : List Nat}, c ∈ l → valV (l.map fun c => ((Sum.inr (one c) : Key), f c)) (Sum.inr (one c)) = some (f c)
  | a :: r, h => by
    rw [List.map_cons]
    by_cases e : a = c
    · subst e
      exact valV_pos rfl
    · rw [valV_neg fun z => e (by
        have := Sum.inr.inj z
        have h2 : tl (one a) = tl (one c) := by rw [this]
        exact List.cons.inj h2 |>.1)]
      exact val_sgs ((List.mem_cons.mp h).resolve_left fun z => e z.symm)
theorem val_sgs_none {f : Nat → V} {c : Nat} : ∀ {l : List Nat}, c ∉ l → valV (l.map fun c => ((Sum.inr (one c) : Key), f c)) (Sum.inr (one c)) = none
  | [], _ => rfl
  | a :: r, h => by
    rw [List.map_cons, valV_neg fun z => h (by
        have := Sum.inr.inj z
        have h2 : tl (one a) = tl (one c) := by rw [this]
        rw [(List.cons.inj h2).1]
        exact List.mem_cons_self)]
    exact val_sgs_none fun z => h (List.mem_cons_of_mem _ z)
end Sf
namespace Sf
open PySem PySem.Spec PyProof.Rows L2 TL
/-! ### data: lists, tuples compared -/
section
variable {K : PySem.W.Frag} {H : Hp}
theorem lay_all {α : Type} {f : α → PyData} : ∀ {l : List α}, (∀ x ∈ l, PyData.canLay0 (f x) = true) → PyData.canLayAll0 (l.map f) = true
  | [], _ => rfl
  | x :: l, h => by
    rw [List.map_cons, PyData.canLayAll0, h x List.mem_cons_self, lay_all fun y hy => h y (List.mem_cons_of_mem _ hy)]
    rfl
theorem depth_all {α : Type} {f : α → PyData} {k : Nat} : ∀ {l : List α}, (∀ x ∈ l, (f x).depth ≤ k) → PyData.depthAll (l.map f) ≤ k
  | [], _ => Nat.zero_le _
  | x :: l, h => by
    rw [List.map_cons, PyData.depthAll]
    exact Nat.max_le.mpr ⟨h x List.mem_cons_self, depth_all fun y hy => h y (List.mem_cons_of_mem _ hy)⟩
theorem dp_map {α : Type} {f : α → PyData} {vs : List V} {l : List α} (h : Paired (fun v x => Dp K H v (f x)) vs l) : DpAll K H vs (l.map f) := by
  induction h with
  | nil => exact .nil
  | cons r _ ih => exact .cons r ih
theorem shaped_list {α : Type} {f : α → PyData} {l : List α} (h1 : ∀ x ∈ l, PyData.canLay0 (f x) = true) (h2 : ∀ x ∈ l, (f x).depth ≤ 60) : SeqAt.shaped (.list (l.map f)) = true := by
  unfold SeqAt.shaped
  rw [PyData.canLay0, lay_all h1, Bool.true_and, PyData.depth]
  have := depth_all h2
  exact decide_eq_true (by omega)
theorem strOk_wd {x : Str} (h : Wd x) : PyData.canLay0 (.str x) = true := by
  rw [PyData.canLay0]
  unfold PyData.strOk
  rw [Array.all_eq_true']
  intro c hc
  have := sgn_lt (h c (Array.mem_def.mp hc))
  exact decide_eq_true (by omega)
theorem eqv_nil {ds : List PyData} : PyData.eqv (.list ds) (.list []) = ds.isEmpty := by
  cases ds <;> simp [PyData.eqv, PyData.eqvAll]
/-- l != [] -/
theorem w_neNil {Q : VK} {p q : Addr} {ds : List PyData} {vs : List V} (h : H p = some (.lst vs)) (hd : DpAll K H vs ds) (hs : SeqAt.shaped (.list ds) = true) (hq : H q = some (.lst [])) (k : Q (.bl (!ds.isEmpty)) H) : rNeD K (.ref p) (.ref q) H Q :=
  ⟨_, _, .lst (SqL.of h) hd, .lst (SqL.of hq) .nil, hs, by decide +kernel, by rw [eqv_nil]; exact k⟩
theorem dpI : ∀ l : List Int, DpAll K H (l.map V.int) (l.map .int)
  | [] => .nil
  | _ :: l => .cons (.int _) (dpI l)
theorem shapedI (l : List Int) : SeqAt.shaped (.list (l.map .int)) = true := shaped_list (fun x _ => by rw [PyData.canLay0]) (fun x _ => by rw [PyData.depth]; omega)
theorem w_neNilI {Q : VK} {p q : Addr} {ns : List Int} (h : H p = some (.lst (ns.map V.int))) (hq : H q = some (.lst [])) (k : Q (.bl (!ns.isEmpty)) H) : rNeD K (.ref p) (.ref q) H Q :=
  w_neNil h (dpI ns) (shapedI ns) hq (by rw [List.isEmpty_map]; exact k)
/-- two lists of the same data -/
theorem w_neSame {Q : VK} {x y : V} {d : PyData} (h1 : Dp K H x d) (h2 : Dp K H y d) (hs : SeqAt.shaped d = true) (k : Q (.bl false) H) : rNeD K x y H Q :=
  ⟨d, d, h1, h2, hs, hs, by rw [SeqAt.eqv_refl d (SeqAt.canLay_of_shaped hs)]; exact k⟩
theorem w_eqSame {Q : VK} {x y : V} {d : PyData} (h1 : Dp K H x d) (h2 : Dp K H y d) (hs : SeqAt.shaped d = true) (k : Q (.bl true) H) : rEqD K x y H Q :=
  ⟨d, d, h1, h2, hs, hs, by rw [SeqAt.eqv_refl d (SeqAt.canLay_of_shaped hs)]; exact k⟩
end
end Sf
namespace Sf
open PySem PySem.Spec PyProof.Rows L2 TL
theorem passes_len {X : Cx} {W : WX} (n : Nat) (hn : X.N.length = n) (tk : Takes X W) : Passes (L2.CX X.prog X.w) X (fun cls d H => ∀ σ : L2.St, σ.length = n → W cls d σ H) := fun _ σ _ _ e s' I c => tk e s' (XE.of_call I (fun _ _ _ h => h σ (I.len.trans hn)) c)
section
variable {X : Cx} {CX : CXT} {k : Nat} {f C : Addr} {fd : FuncData} {ps : List Str} {sp : Sp} {E : XK} {x m : Str} {p pos apos : Pos} {e o : Expr} {es : List Expr} {te ta : TE} {t : TA} {mc : Value}
/-! ### C(), C an own exception whose __init__ is walked -/
theorem pmk_oex0 {fI : Addr} (T : OexC X.K C) (iC : PySem.W.findIn X.K (.ref C) "__init__" = some (some (.ref fI))) (tI : PySem.W.typeIn X.K (.ref fI) = some (.type "function"))
    (F1 : FnOk X.prog X.w X.K X.mg X.base CX k fI fd ps sp) (hr : Room (k + 1) X.A) (hb : Binds X.K fd ps []) (hx : Passes CX X (fun _ _ _ => False)) (hg : Gl X x) (hm : X.mg x = some (.ref C))
    (hdb : (x == ("__debug__" : Str)) = false := by decide) : PMk X (.Call (.Name x p) [] [] pos) (tMkO C sp [] tNil) := by
  intro pins s σ H Q I h
  obtain ⟨nm, q, N, bs, bm, sn, sub, ab, col, dd, k0, k1, k2, k3, k5, hC, hbm⟩ := T.cls
  refine wpAny_Call_Name_kw (ld_glob I hg hm ?_ hdb)
  refine PySem.W.callWith_K0 I.kIn T.kC ?_
  show wpAny _ _ (call (.ref C) []) _ _ _
  obtain ⟨hz, q1⟩ := h
  obtain ⟨hp, g, dr, tk, os⟩ := s
  have hsz : hp.objs.size ≤ hp.objs.size + 1 := Nat.le_succ _
  have hn : H (hp.objs.size + 1) = none := I.hok.fresh hsz
  have hq := q1 (hp.objs.size + 1) hn
  have kk : ∀ b o, hp.get? b = some o → ((hp.push (PySem.W.kdv_tup [])).push (PySem.HandSPX.excO C hp.objs.size)).get? b = some o := fun b o e => Heap.get?_push_of_some _ (Heap.get?_push_of_some _ e)
  have hget : ((hp.push (PySem.W.kdv_tup [])).push (PySem.HandSPX.excO C hp.objs.size)).get? (hp.objs.size + 1) = some (PySem.HandSPX.excO C hp.objs.size) := by heap_get
  have I2 : Inv X pins σ (upd H (hp.objs.size + 1) (exo (hp.objs.size + 1) C none)) ⟨(hp.push (PySem.W.kdv_tup [])).push (PySem.HandSPX.excO C hp.objs.size), g, dr, tk, os⟩ :=
    I.laid (t' := tk) (a := hp.objs.size + 1) (o := exo (hp.objs.size + 1) C none) (h' := (hp.push (PySem.W.kdv_tup [])).push (PySem.HandSPX.excO C hp.objs.size)) kk hsz (exo_ok hget)
  have r2 : Vals [V.ref (hp.objs.size + 1)] [Value.ref (hp.objs.size + 1)] := .cons rfl .nil
  have hl : [Value.ref (hp.objs.size + 1)].length = ps.length := by
    have e : [V.ref (hp.objs.size + 1)].length = ps.length := F1.len _ _ _ _ hq
    exact e
  refine wpAny_call (PySem.HandSPX.call_own F.excBase_ValueError (fun Y => PySem.HandSPX.refsVE_contains Y bm hbm) (I.kIn _ _ hC) (PySem.W.looks_findIn I.kIn iC) (fun self => PySem.W.bind_fn I.kIn self tI) (by decide)
    (codeAny_mono (F1.run _ X.stack _ _ ⟨[Value.ref (hp.objs.size + 1)], []⟩ [Value.ref (hp.objs.size + 1)] _ _ (fun _ _ _ => False) (hr.make C [] []) (I2.env0.make C [] []) (hb _ [Value.ref (hp.objs.size + 1)] I2.kIn hl) r2 hq) fun r s' hq' => ?_))
  cases r with
  | error er => exact hx pins σ _ _ er s' I2 hq'
  | ok fl =>
    cases fl with
    | ret u =>
      obtain ⟨v, H2, os2, bare2, un2, hok2, rv, ev, d, fs, ea, ed, hd1, q2⟩ := hq'
      subst ev
      obtain ⟨h2, g2, d2, t2, os'⟩ := s'
      exact ⟨rv, mk_end (raises_own T.exC T.tyC) I hsz kk un2 hok2 os2 bare2 ea ed hd1 q2⟩
    | next => exact False.elim hq'
    | brk => exact False.elim hq'
    | cont => exact False.elim hq'
/-! ### C.m(..), C an own class, m a def of it -/
def tClsFn (C : Addr) (sp : Sp) (E : XK) (ta : TE) (t : TA) : TE := fun σ H Q => ta σ H fun x H1 => x = .ref C ∧ t σ H1 fun vs H2 => sp vs H2 Q E
theorem pe_clsFn {pl : Sem Bool} (he : PE X o ta) (rd : PySem.W.readsIn X.K C mc = true) (ga : PySem.W.specialIn X.K (.ref C) "__getattribute__" = some (some (.builtin "type.__getattribute__"))) (at_ : PySem.W.findCls X.K (.ref C) mc m = some (.val (.ref f)))
    (F : FnOk X.prog X.w X.K X.mg X.base CX k f fd ps sp) (hr : Room k X.A) (kp : PySem.W.keepIn X.K (.ref f) = true) (hb : Binds X.K fd ps []) (hx : Passes CX X E) (ha : PA X (e :: es) t)
    (hst : starEach (e :: es) X.env = (false, eval e X.env) :: starEach es X.env := by rfl) (hpl : (backTo pos (starEach es X.env)).any (·.1) = false := by rfl)
    (ht : eval (.Call (.Attribute o m apos) (e :: es) [] pos) X.env = (do
      let ov ← eval o X.env
      standAt apos.atName
      let (f, first) ← holding [ov] (getMethod ov m pl)
      callWith pos f first (backTo pos (starEach (e :: es) X.env)) (backToKw pos (keywordEach [] X.env))) := by rfl) :
    PE X (.Call (.Attribute o m apos) (e :: es) [] pos) (tClsFn C sp E ta t) := by
  refine ⟨fun pins s σ H Q I h => ?_⟩
  refine PySem.W.methodCall_KW (pl := pl) (thn (he.run pins s σ H _ I h) fun u s1 ⟨x, H1, I1, rx, ex, q⟩ => ?_) ht
  subst ex
  obtain rfl : u = Value.ref C := rx
  refine PySem.W.method_cls I1.kIn ga (PySem.W.cls_value I1.kIn rd at_ rfl ?_)
  refine PySem.W.callWith_K (h₀ := X.base) I1.ok.mod.kin kp (thn (ha.run pos pins _ σ H1 _ (I1.tok _) q) fun us s3 ⟨vs, H2, I3, rv, q2⟩ => ⟨I3.kIn, ?_⟩) hst hpl
  exact run_fn F hr hb (dvs := []) .nil hx I3 rv (by rw [List.append_nil]; exact q2)
end
end Sf
namespace Sf
open PySem PySem.Spec PyProof.Rows L2 TL
/-! ### a def with defaults -/
structure FunD (K : PySem.W.Frag) (x qual : Str) (st : Stmt) (f : Addr) (fd : FuncData) : Prop where
  ex : ∃ (oc : Value) (od : Option Addr) (dV kV doc pm : Value) (an : Option Addr) (cdv ct : Value) (osl : Array (Option Value)),
    fd = PySem.W.fnOf x qual (defArgs st) (defBody st) (defScope st) dV kV doc pm an cdv ct ∧ K.lookup f = some ⟨oc, od, .func fd, osl⟩ ∧ PySem.W.codeIn K cdv qual = true
  kp : PySem.W.keepIn K (.ref f) = true
theorem FunD.ok {P : Program} {w : World} {K : PySem.W.Frag} {mg : Str → Option Value} {base : Heap} {x qual : Str} {st : Stmt} {f : Addr} {fd : FuncData} {N ps : List Str} {k : Nat} {sp : Sp} (F : FunD K x qual st f fd) (S : FnScope N ps (defScope st)) (len : ∀ vs H Q E, sp vs H Q E → vs.length = ps.length)
    (hbody : ∀ (cdv : Value) (A : Around) (outer : List Env) (s : Shared) (H : Hp) (vs : List V) (Q : VK) (E : XK), Room k (A.deeper (envOfC qual (defScope st) s.heap.objs.size f cdv)) → sp vs H Q E →
      ∃ t, PSs (cxOf CX0 P w K mg base N qual (defScope st) f cdv A outer s H E).nox (defBody st) t ∧ t { nx := fun _ H' => Q .non H', rt := Q } (start N vs) H) : FnOk P w K mg base CX0 (k + 1) f fd ps sp := by
  obtain ⟨oc, od, dV, kV, doc, pm, an, cdv, ct, osl, rfl, lk, hcd⟩ := F.ex
  refine fn_of lk hcd S len fun A outer s H vs Q E hr hsp => ?_
  obtain ⟨t, h, q⟩ := hbody cdv A outer s H vs Q E hr hsp
  exact ⟨t, h.nox, q⟩
def FbD (K : PySem.W.Frag) (x qual : Str) (st : Stmt) (f : Addr) (ps : List Str) : Prop := ∃ fd, FunD K x qual st f fd ∧ Binds K fd ps []
def Fb (K : PySem.W.Frag) (x qual : Str) (st : Stmt) (f : Addr) (ps : List Str) : Prop := ∃ fd, Fun K x qual st f fd ∧ Binds K fd ps []
theorem fbD_mk {K : PySem.W.Frag} {x qual : Str} {st : Stmt} {f T : Addr} {ps : List Str} {oc : Value} {od an : Option Addr} {osl : Array (Option Value)} {kV doc pm cdv ct : Value} (l : K.lookup f = some ⟨oc, od, .func (PySem.W.fnOf x qual (defArgs st) (defBody st) (defScope st) (.ref T) kV doc pm an cdv ct), osl⟩)
    (c : PySem.W.codeIn K cdv qual = true) (k : PySem.W.keepIn K (.ref f) = true)
    (b : ∀ (kV doc pm : Value) (an : Option Addr) (cdv ct : Value) (s : Shared) (us : List Value), K.In s.heap → us.length = ps.length → BindsTo s (PySem.W.fnOf x qual (defArgs st) (defBody st) (defScope st) (.ref T) kV doc pm an cdv ct) ⟨us, []⟩ (ps.zip us)) : FbD K x qual st f ps :=
  ⟨_, ⟨⟨oc, od, .ref T, kV, doc, pm, an, cdv, ct, osl, rfl, l, c⟩, k⟩, fun s us X hl => by
    rw [List.append_nil] at hl ⊢
    exact b kV doc pm an cdv ct s us X hl⟩
theorem se_binds {K : PySem.W.Frag} {T : Addr} {o : Obj} {v1 v2 : Value} {n : Nat} (ho : K.lookup T = some o) (hs : o.data = .seq #[v1, v2] n) (kV doc pm : Value) (an : Option Addr) (cdv ct : Value) (s : Shared) (us : List Value) (X : K.In s.heap) (hl : us.length = 3) :
    BindsTo s (PySem.W.fnOf "__init__" "SpoorError.__init__" (defArgs s_SpoorError___init__) (defBody s_SpoorError___init__) (defScope s_SpoorError___init__) (.ref T) kV doc pm an cdv ct) ⟨us, []⟩ ((["self", "word", "message"] : List Str).zip us) := by
  match us, hl with
  | [_, _, _], _ => exact PySem.W.binds_K X rfl ho hs rfl rfl
theorem fb_mk {K : PySem.W.Frag} {x qual : Str} {st : Stmt} {f : Addr} {ps : List Str} {oc : Value} {od an : Option Addr} {osl : Array (Option Value)} {kV doc pm cdv ct : Value} (l : K.lookup f = some ⟨oc, od, .func (PySem.W.fnOf x qual (defArgs st) (defBody st) (defScope st) .none kV doc pm an cdv ct), osl⟩)
    (c : PySem.W.codeIn K cdv qual = true) (k : PySem.W.keepIn K (.ref f) = true) (b : ∀ (kV doc pm : Value) (an : Option Addr) (cdv ct : Value) (us : List Value), us.length = ps.length → bindArgs (PySem.W.fnOf x qual (defArgs st) (defBody st) (defScope st) .none kV doc pm an cdv ct) ⟨us, []⟩ = pure (ps.zip us)) : Fb K x qual st f ps :=
  ⟨_, fun_mk l c k, (fun_mk l c k).binds b⟩
theorem exm_self {K : PySem.W.Frag} {C : Addr} (h0 : PySem.W.subIn K (.ref C) (.type "BaseException") = some true) (h1 : PySem.W.isClsIn K C = true) (h2 : PySem.W.typeIn K (.ref C) = some (.type "type")) (h3 : PySem.W.subIn K (.ref C) (.ref C) = some true) : PySem.W.exmOne K (.ref C) (.ref C) = some true := by
  unfold PySem.W.exmOne
  rw [if_pos (by rw [h0]; rfl)]
  unfold PySem.W.isClsIn at h1
  unfold PySem.W.kitCls
  dsimp only
  rw [h1, h2, if_pos (by simp), h3]
/-! ### the refusals -/
/-- an own refusal, the class at C, its __init__ at f -/
structure EC (K : PySem.W.Frag) (mg : Str → Option Value) (nm : Str) (C f : Addr) : Prop where
  ox : OexC K C
  iC : PySem.W.findIn K (.ref C) "__init__" = some (some (.ref f))
  tI : PySem.W.typeIn K (.ref f) = some (.type "function")
  gC : mg nm = some (.ref C)
  xf : XfC K C
  nw : PySem.W.findIn K (.ref C) "word" = some none
  te : PySem.W.exmOne K (.ref C) (.ref C) = some true
theorem oex_mk {K : PySem.W.Frag} {C : Addr} {nm q : Str} {N : Addr} {bs bm : List Value} {sn : List Str} {sub : List Value} {ab : Bool} {col : Option Bool} {dd : Option Addr} {k0 k1 k2 k3 k5 : Option Value}
    (lk : K.lookup C = some (excClassObj nm q C N bs bm true sn sub ab col dd k0 k1 k2 k3 k5 "ValueError.__new__")) (rv : PySem.HandSPX.refsVE bm = true) (sa : PySem.W.findIn K (.ref C) "__setattr__" = some (some (.builtin "object.__setattr__"))) (ex : PySem.W.subIn K (.ref C) (.type "BaseException") = some true)
    (ty : PySem.W.typeIn K (.ref C) = some (.type "type")) (kC : PySem.W.keepIn K (.ref C) = true) : OexC K C := ⟨⟨nm, q, N, bs, bm, sn, sub, ab, col, dd, k0, k1, k2, k3, k5, lk, rv⟩, sa, ex, ty, kC⟩
/-- SpoorError itself -/
structure SE (K : PySem.W.Frag) (mg : Str → Option Value) (C f : Addr) : Prop where
  gC : mg "SpoorError" = some (.ref C)
  rd : PySem.W.readsIn K C (.type "type") = true
  ga : PySem.W.specialIn K (.ref C) "__getattribute__" = some (some (.builtin "type.__getattribute__"))
  at_ : PySem.W.findCls K (.ref C) (.type "type") "__init__" = some (.val (.ref f))
  vV : PySem.W.findCls K (.type "ValueError") (.type "type") "__init__" = some (.val (.builtin "ValueError.__init__"))
  mV : mg "ValueError" = none
section
variable {P : Program} {w : World} {K : PySem.W.Frag} {mg : Str → Option Value} {base : Heap} {C CS fS : Addr}
def spSE (K : PySem.W.Frag) : Sp := fun vs H Q _ => ∃ (a C : Addr) (z m : Str), vs = [.ref a, .str z, .str m] ∧ OexC K C ∧ PySem.W.findIn K (.ref C) "word" = some none ∧ H a = some (exo a C none) ∧
  ∀ dx, H dx = none → dx ≠ a → Q .non (upd (upd H dx (exd dx [(("word" : Str), .str z)])) a (exo a C (some dx)))
theorem sc_se : FnScope ["self", "word", "message"] ["self", "word", "message"] (defScope s_SpoorError___init__) := ⟨rfl, rfl, rfl, by decide +kernel, rfl, by decide +kernel, by decide +kernel⟩
theorem ok_se {f : Addr} {fd : FuncData} {j : Nat} (F : FunD K "__init__" "SpoorError.__init__" s_SpoorError___init__ f fd) (S : SE K mg CS fS) : FnOk P w K mg base CX0 (j + 1) f fd ["self", "word", "message"] (spSE K) := by
  refine F.ok sc_se (fun vs H Q E h => ?_) (fun cdv A outer s H vs Q E hr h => ?_)
  · obtain ⟨a, C, z, m, rfl, _⟩ := h
    rfl
  · obtain ⟨a, C, z, m, rfl, ox, nw, ha, q⟩ := h
    refine ⟨_, pss_cons (ps_expr (pe_veinit (by rfl) S.mV S.vV (pa_cons (pv 0) (pa_cons (pv 2) pa_nil)))) (pss_one (ps_ost (pv 0) (pv 1))), ?_⟩
    refine ⟨_, rfl, _, rfl, a, C, _, rfl, (by show 1 ≤ 1000; decide), ox, ha, ?_⟩
    exact ⟨_, rfl, _, rfl, a, C, rfl, ox, nw, .inl ⟨ha, fun dx n ne => q dx n ne⟩⟩
/-- X.__init__(self): the word of X -/
def spEx (K : PySem.W.Frag) (z : Str) : Sp := fun vs H Q _ => ∃ (a C : Addr), vs = [.ref a] ∧ OexC K C ∧ PySem.W.findIn K (.ref C) "word" = some none ∧ H a = some (exo a C none) ∧
  ∀ dx, H dx = none → dx ≠ a → Q .non (upd (upd H dx (exd dx [(("word" : Str), .str z)])) a (exo a C (some dx)))
theorem w_mkO {H : Hp} {σ : L2.St} {W : XK} {z nm : Str} {f : Addr} (T : EC K mg nm C f) (k : ∀ (d : Addr) (H' : Hp), H d = none → H' d = some (.xd [(("word" : Str), .str z)]) → Same H H' → W (.ref C) (some d) H') : tMkO C (spEx K z) [] tNil σ H W := by
  refine ⟨by show 0 ≤ 1000; decide, fun a na => ⟨a, C, rfl, T.ox, T.nw, upd_same, fun dx n ne => ⟨rfl, dx, _, upd_same, ?_, ?_, k dx _ ?_ upd_same fun b o e => ?_⟩⟩⟩
  · rw [upd_ne ne, upd_same]
  · rw [upd_ne ne] at n
    exact n
  · rw [upd_ne ne] at n
    exact n
  · rw [upd_ne ne] at n
    rw [upd_ne (ne_of_none e n), del_ne (ne_of_none e na), upd_ne (ne_of_none e na), upd_ne (ne_of_none e n), upd_ne (ne_of_none e na)]
    exact e
end
end Sf
namespace Sf
open PySem PySem.Spec PyProof.Rows L2 TL
section
variable {P : Program} {w : World} {K : PySem.W.Frag} {mg : Str → Option Value} {base : Heap} {C CS fS : Addr}
theorem sc_bwo : FnScope ["self"] ["self"] (defScope s_BadWorld___init__) := ⟨rfl, rfl, rfl, by decide +kernel, rfl, by decide +kernel, by decide +kernel⟩
theorem ok_bwo {f : Addr} {fd fdS : FuncData} (F : Fun K "__init__" "BadWorld.__init__" s_BadWorld___init__ f fd) (S : SE K mg CS fS) (FS : FunD K "__init__" "SpoorError.__init__" s_SpoorError___init__ fS fdS) (bS : Binds K fdS ["self", "word", "message"] []) : FnOk P w K mg base CX0 2 f fd ["self"] (spEx K (Str.ofString "badworld")) := by
  refine F.ok sc_bwo (fun vs H Q E h => ?_) (fun cdv A outer s H vs Q E hr h => ?_)
  · obtain ⟨a, C, rfl, _⟩ := h
    rfl
  · obtain ⟨a, C, rfl, ox, nw, ha, q⟩ := h
    have GS : FnOk P w K mg base CX0 1 fS fdS ["self", "word", "message"] (spSE K) := ok_se FS S
    refine ⟨_, pss_one (ps_expr (pe_clsFn (pe_glob (v := .ref CS) (by rfl) S.gC rfl) S.rd S.ga S.at_ GS hr FS.kp bS pass0 (pa_cons (pv 0) (pa_cons pe_str (pa_cons pe_str pa_nil))))), ?_⟩
    exact ⟨rfl, _, rfl, a, C, _, _, rfl, ox, nw, ha, fun dx n ne => q dx n ne⟩
end
end Sf
set_option hygiene false
/-! heap look-ups: hp; unlike addresses: ne; steps: st, go -/
local macro_rules | `(tactic| walk_at "hp") => `(tactic| first
  | assumption
  | (refine Sf.Nw.at (by assumption) ?_; walk_at "hp")
  | (refine L2.Same.at (by assumption) ?_; walk_at "hp")
  | (refine Sf.Of.at (by assumption) ?_ ?_; (case refine_1 => walk_at "ne"); (case refine_2 => walk_at "hp"))
  | (refine Sf.Fx.at (by assumption) ?_ ?_; (case refine_1 => walk_at "ne"); (case refine_2 => walk_at "hp")))
local macro_rules | `(tactic| walk_at "ne") => `(tactic| first
  | assumption
  | exact Ne.symm (by assumption)
  | exact Sf.Nw.ne (by assumption) (by walk_at "hp")
  | exact (Sf.Nw.ne (by assumption) (by walk_at "hp")).symm)
local macro_rules | `(tactic| walk_at "sm") => `(tactic| first
  | assumption
  | exact L2.Same.refl _
  | (refine L2.Same.nw ?_ (by assumption); walk_at "sm")
  | (refine L2.Same.trans ?_ (by assumption); walk_at "sm"))
local macro_rules | `(tactic| walk_at "bg") => `(tactic| first
  | assumption
  | (refine Sf.Bag.nw ?_ (by assumption); walk_at "bg")
  | (refine Sf.Bag.same (by assumption) ?_; walk_at "bg"))
local macro_rules | `(tactic| walk_at "fx") => `(tactic| first
  | assumption
  | exact Sf.Fx.refl
  | (refine Sf.Fx.nw ?_ (by assumption); walk_at "fx")
  | (refine Sf.Fx.same ?_ (by assumption); walk_at "fx")
  | (refine Sf.Fx.trans ?_ (by assumption); walk_at "fx"))
local macro_rules | `(tactic| walk_at "sz") => `(tactic| first
  | decide
  | (simp only [List.length_cons, List.length_nil, Nat.zero_add]; decide))
local macro_rules | `(tactic| walk_at "s0") => `(tactic| first
  | with_reducible refine Sf.w_var rfl ?_
  | with_reducible refine Sf.w_c ?_
  | with_reducible refine Sf.w_cons ?_
  | with_reducible refine Sf.w_nil ?_
  | with_reducible refine Sf.w_op ?_
  | with_reducible refine Sf.w_asg ?_
  | with_reducible refine Sf.w_gn ?_
  | with_reducible refine Sf.w_call ?_
  | with_reducible refine Sf.w_cb ?_
  | with_reducible refine Sf.w_if ?_
  | with_reducible refine Sf.w_test ?_
  | with_reducible refine Sf.w_tB ?_
  | with_reducible refine Sf.w_kB ?_
  | with_reducible refine Sf.w_i0 ?_
  | with_reducible refine Sf.w_eqI ?_
  | with_reducible refine Sf.w_neI ?_
  | with_reducible refine Sf.w_eqS ?_
  | with_reducible refine Sf.w_neS ?_
  | with_reducible refine Sf.w_eqB ?_
  | with_reducible refine Sf.w_neB ?_
  | with_reducible refine Sf.w_inSg ?_
  | with_reducible refine Sf.w_notInSg ?_
  | with_reducible refine Sf.w_isNI ?_
  | with_reducible refine Sf.w_isNN ?_
  | with_reducible refine Sf.w_isN ?_
  | with_reducible refine Sf.w_notNI ?_
  | with_reducible refine Sf.w_notNN ?_
  | with_reducible refine Sf.w_notN ?_
  | with_reducible refine Sf.w_un ?_
  | with_reducible refine Sf.w_u ?_
  | with_reducible refine Sf.w_sl ?_
  | with_reducible refine Sf.w_nopart ?_
  | with_reducible refine Sf.w_part ?_
  | with_reducible refine Sf.w_kpart ?_
  | with_reducible refine Sf.w_and ?_
  | with_reducible refine Sf.w_or ?_
  | with_reducible refine Sf.w_not ?_
  | with_reducible refine Sf.w_kNotT ?_
  | with_reducible refine Sf.w_kNotF ?_
  | with_reducible refine Sf.w_kNotN ?_
  | with_reducible refine Sf.w_kNot ?_
  | with_reducible refine Sf.w_andT ?_
  | with_reducible refine Sf.w_andF ?_
  | with_reducible refine Sf.w_orT ?_
  | with_reducible refine Sf.w_orF ?_
  | with_reducible refine Sf.w_andV ?_
  | with_reducible refine Sf.w_andVT ?_
  | with_reducible refine Sf.w_andVF ?_
  | with_reducible refine Sf.w_orV ?_
  | with_reducible refine Sf.w_notV ?_
  | with_reducible refine Sf.w_kNotVT ?_
  | with_reducible refine Sf.w_kNotVF ?_
  | with_reducible refine Sf.w_kNotV ?_
  | with_reducible refine Sf.w_ifE ?_
  | with_reducible refine Sf.w_ifET ?_
  | with_reducible refine Sf.w_ifEF ?_
  | with_reducible refine Sf.w_ifT ?_
  | with_reducible refine Sf.w_ifF ?_
  | with_reducible refine Sf.w_chain ?_
  | with_reducible refine Sf.w_lst ?_
  | with_reducible refine Sf.w_tup ?_
  | with_reducible refine Sf.w_drop ?_
  | with_reducible refine Sf.w_ret ?_
  | with_reducible refine Sf.w_retN ?_
  | with_reducible refine Sf.w_next ?_
  | with_reducible refine Sf.w_break ?_
  | with_reducible refine Sf.w_cont ?_
  | with_reducible refine Sf.w_meth ?_
  | with_reducible refine Sf.w_make ?_
  | with_reducible refine Sf.w_fld ?_
  | with_reducible refine Sf.w_sfld ?_
  | with_reducible refine Sf.w_bm ?_
  | with_reducible refine Sf.w_bm0 ?_
  | ((with_reducible refine' Sf.w_kbmL ?hp_ ?_); (case hp_ => walk_at "hp"))
  | with_reducible refine Sf.w_m0 ?_
  | with_reducible refine Sf.w_kM0 ?_
  | with_reducible refine Sf.w_m1 ?_
  | with_reducible refine Sf.w_kM1 ?_
  | with_reducible refine Sf.w_par ?_
  | with_reducible refine Sf.w_kPar ?_
  | with_reducible refine Sf.w_gcons ?_
  | with_reducible refine Sf.w_gnil ?_
  | with_reducible refine Sf.w_gsub ?_
  | with_reducible refine Sf.w_for ?_
  | with_reducible refine Sf.w_rng1 ?_
  | with_reducible refine Sf.w_ilist ?_
  | with_reducible refine Sf.w_itup ?_
  | with_reducible refine Sf.w_istr ?_
  | with_reducible refine Sf.w_kStr ?_
  | with_reducible refine Sf.w_ienum ?_
  | with_reducible refine Sf.w_lc ?_
  | with_reducible refine Sf.w_yes ?_
  | with_reducible refine Sf.w_tstT ?_
  | with_reducible refine Sf.w_tstF ?_
  | with_reducible refine Sf.w_each rfl ?_
  | with_reducible refine Sf.w_dget ?_
  | with_reducible refine Sf.w_din ?_
  | with_reducible refine Sf.w_dnotin ?_
  | ((with_reducible refine' Sf.w_kDInI ?hp_ ?_); (case hp_ => walk_at "hp"))
  | ((with_reducible refine' Sf.w_kDInS ?hp_ ?_); (case hp_ => walk_at "hp"))
  | ((with_reducible refine' Sf.w_kDNotInI ?hp_ ?_); (case hp_ => walk_at "hp"))
  | ((with_reducible refine' Sf.w_kDNotInS ?hp_ ?_); (case hp_ => walk_at "hp"))
  | with_reducible refine Sf.w_dget1 ?_
  | ((with_reducible refine' Sf.w_kDGet1 ?hp_ ?_); (case hp_ => walk_at "hp"))
  | ((with_reducible refine' Sf.w_kDGet1I ?hp_ ?_); (case hp_ => walk_at "hp"))
  | ((with_reducible refine' Sf.w_kDGet1S ?hp_ ?_); (case hp_ => walk_at "hp"))
  | with_reducible refine Sf.w_sdput ?_
  | with_reducible refine Sf.w_dc ?_
  | with_reducible refine Sf.w_tstDT ?_
  | with_reducible refine Sf.w_eachD rfl ?_
  | with_reducible refine Sf.w_lstRg ?_
  | with_reducible refine Sf.w_min2 ?_
  | with_reducible refine Sf.w_max2 ?_
  | with_reducible refine Sf.w_starts ?_
  | with_reducible refine Sf.w_ends ?_
  | with_reducible refine Sf.w_rg1 ?_
  | with_reducible refine Sf.w_kRg1 ?_
  | with_reducible refine Sf.w_aug rfl ?_
  | with_reducible refine Sf.w_ipI ?_
  | with_reducible refine Sf.w_isi_int_int ?_
  | with_reducible refine Sf.w_isi_int_bool ?_
  | with_reducible refine Sf.w_isi_int_str ?_
  | with_reducible refine Sf.w_isi_str_int ?_
  | with_reducible refine Sf.w_isi_str_bool ?_
  | with_reducible refine Sf.w_isi_str_str ?_
  | with_reducible refine Sf.w_isi_bool_int ?_
  | with_reducible refine Sf.w_isi_bool_bool ?_
  | with_reducible refine Sf.w_isi_bool_str ?_
  | with_reducible refine Sf.w_isi_NoneType_int ?_
  | with_reducible refine Sf.w_isi_NoneType_str ?_
  | with_reducible refine Sf.w_isi_NoneType_bool ?_
  | ((with_reducible refine' Sf.w_lenL ?hp_ ?_); (case hp_ => walk_at "hp"))
  | ((with_reducible refine' Sf.w_lenT ?hp_ ?_); (case hp_ => walk_at "hp"))
  | ((with_reducible refine' Sf.w_lenD ?hp_ ?_); (case hp_ => walk_at "hp"))
  | ((with_reducible refine' Sf.w_kList ?hp_ ?_); (case hp_ => walk_at "hp"))
  | ((with_reducible refine' Sf.w_kTupI ?hp_ ?_); (case hp_ => walk_at "hp"))
  | ((with_reducible refine' Sf.w_kEnum ?hp_ ?_); (case hp_ => walk_at "hp"))
  | ((with_reducible refine' Sf.w_ixT ?hp_ ?rf_ ?_); (case hp_ => walk_at "hp"); (case rf_ => exact rfl))
  | ((with_reducible refine' Sf.w_ixL ?hp_ ?rf_ ?_); (case hp_ => walk_at "hp"); (case rf_ => exact rfl))
  | ((with_reducible refine' Sf.w_gtup ?hp_ ?rf_ ?_); (case hp_ => walk_at "hp"); (case rf_ => exact rfl)))
local macro_rules | `(tactic| walk_at "gs") => `(tactic| repeat walk_at "s0")
local macro_rules | `(tactic| walk_at "go") => `(tactic| repeat (first | walk_at "s0" | with_reducible refine Sf.w_seq ?_))
namespace Sf
open PySem PySem.Spec PyProof.Rows L2 TL
section
variable {P : Program} {w : World} {K : PySem.W.Frag} {mg : Str → Option Value} {base : Heap}
/-! ### is_upto -/
def upB : V → Int → Bool
  | .int i, m => decide (0 ≤ i) && decide (i ≤ m)
  | _, _ => false
def flat3 : V → Prop
  | .bl _ => True
  | .int _ => True
  | .str _ => True
  | _ => False
def spUp : Sp := fun vs H Q _ => ∃ (v : V) (m : Int), vs = [v, .int m] ∧ flat3 v ∧ Q (.bl (upB v m)) H
abbrev HasUp (P : Program) (w : World) (K : PySem.W.Frag) (mg : Str → Option Value) (base : Heap) : Prop := Has P w K mg base 1 "is_upto" ["thing", "most"] spUp
theorem sc_up : FnScope ["thing", "most"] ["thing", "most"] (defScope s_is_upto) := ⟨rfl, rfl, rfl, by decide +kernel, rfl, by decide +kernel, by decide +kernel⟩
theorem has_up (F : FnAt K mg "is_upto" s_is_upto ["thing", "most"]) (B : Blt mg) : HasUp P w K mg base := F.has fun F => by
  refine F.ok sc_up (fun vs H Q E h => ?_) (fun cdv A outer s H vs Q E hr h => ?_)
  · obtain ⟨v, m, rfl, _⟩ := h
    rfl
  · obtain ⟨v, m, rfl, hv, q⟩ := h
    refine ⟨_, (pss_one (ps_ret (pe_and (pe_callB call_isi (by rfl) B.isinstance (by decide +kernel) (pa_cons (pv 0) (pa_cons (pe_bltn (v := .ty "int") (by rfl) B.int (by decide +kernel) rfl) pa_nil))) (pe_and (pe_not (pe_callB call_isi (by rfl) B.isinstance (by decide +kernel) (pa_cons (pv 0) (pa_cons (pe_bltn (v := .ty "bool") (by rfl) B.bool (by decide +kernel) rfl) pa_nil)))) (pe_one (pe_chain op_le op_le pe_int (pv 0) (pv 1))))))), ?_⟩
    cases v with
    | int i =>
      walk_at "go"
      refine w_chain2 (fun h0 => ?_) (fun h0 => ?_)
      · walk_at "go"
        rw [upB, decide_eq_true h0, Bool.true_and] at q
        exact q
      · walk_at "go"
        rw [upB, decide_eq_false h0, Bool.false_and] at q
        exact q
    | bl b =>
      walk_at "go"
      exact q
    | str x =>
      walk_at "go"
      exact q
    | non => exact hv.elim
    | byt b => exact hv.elim
    | flt b => exact hv.elim
    | ref b => exact hv.elim
    | ty b => exact hv.elim
end
end Sf
namespace Sf
open PySem PySem.Spec PyProof.Rows L2 TL
/-! ### worlds in the heap -/
def wf (pl ld : Addr) : List (Str × V) := putF "leads" (.ref ld) (putF "places" (.ref pl) [])
theorem fpl_ne : ¬ (("places" : Str) = "leads") := by decide +kernel
theorem wf_places (pl ld : Addr) : (wf pl ld).lookup ("places" : Str) = some (.ref pl) := by
  unfold wf
  rw [lookup_putF, if_neg fpl_ne, lookup_putF, if_pos rfl]
theorem wf_leads (pl ld : Addr) : (wf pl ld).lookup ("leads" : Str) = some (.ref ld) := by
  unfold wf
  rw [lookup_putF, if_pos rfl]
theorem wf_no (pl ld : Addr) {m : Str} (h1 : ¬ m = "leads") (h2 : ¬ m = "places") : (wf pl ld).lookup m = none := by
  unfold wf
  rw [lookup_putF, if_neg h1, lookup_putF, if_neg h2]
  all_goals rfl
/-- moves in the heap -/
def MvAt (H : Hp) (v : V) (m : Mv) : Prop := ∃ t, v = .ref t ∧ H t = some (.tup [.str (one m.1), .int m.2.1, .int m.2.2])
abbrev MvsAt (H : Hp) (vs : List V) (ms : List Mv) : Prop := Paired (MvAt H) vs ms
/-- tuples stand -/
def Tps (H H' : Hp) : Prop := ∀ a xs, H a = some (.tup xs) → H' a = some (.tup xs)
theorem Tps.of {H H' : Hp} (s : Same H H') : Tps H H' := fun a xs h => s _ _ h
theorem Tps.refl {H : Hp} : Tps H H := fun _ _ h => h
theorem Tps.trans {H H1 H2 : Hp} (a : Tps H H1) (b : Tps H1 H2) : Tps H H2 := fun c xs h => b c xs (a c xs h)
theorem Tps.off {H H1 H2 : Hp} {p : Addr} {ys : List V} (a : Tps H H1) (h1 : H1 p = some (.lst ys)) (b : Of p H1 H2) : Tps H H2 := fun c xs h => b.at (ne_of (a _ _ h) h1 (by intro z; cases z)) (a _ _ h)
theorem Tps.offD {H H1 H2 : Hp} {p : Addr} {ys : List (Key × V)} (a : Tps H H1) (h1 : H1 p = some (.dK ys)) (b : Of p H1 H2) : Tps H H2 := fun c xs h => b.at (ne_of (a _ _ h) h1 (by intro z; cases z)) (a _ _ h)
theorem Tps.fx {H H1 : Hp} {b l : Addr} (h : Bag H b l) (f : Fx b H H1) : Tps H H1 := fun c xs e => f _ _ e (by
  obtain ⟨ns, k, z, r, hb⟩ := h
  exact ne_of e hb.hb (by intro q; cases q))
theorem MvsAt.tps {H H' : Hp} (s : Tps H H') {vs : List V} {ms : List Mv} (h : MvsAt H vs ms) : MvsAt H' vs ms := Paired.mapP h fun v m ⟨t, e, ht⟩ => ⟨t, e, s _ _ ht⟩
theorem paired_get {α β : Type} {R : α → β → Prop} : ∀ {as : List α} {bs : List β} {i : Nat} {a : α}, Paired R as bs → as[i]? = some a → ∃ b, bs[i]? = some b ∧ R a b
  | _, _, _, _, .nil, e => by simp at e
  | _, _, 0, _, .cons r _, e => by simp at e; subst e; exact ⟨_, rfl, r⟩
  | _, _, i + 1, x, .cons _ t, e => by
    obtain ⟨u, h1, h2⟩ := paired_get (i := i) (a := x) t (by simpa using e)
    exact ⟨u, by simpa using h1, h2⟩
def leV (d : Nat → Addr) (l : List Nat) : List (Key × V) := l.map fun c => ((Sum.inr (one c) : Key), V.ref (d c))
/-- leads in the heap; those of N are not known ahead -/
structure LdAt (H : Hp) (ld : Addr) (d : Nat → Addr) (L : Nat → List (Int × Int)) : Prop where
  hd : H ld = some (.dK (leV d sgs))
  hc : ∀ c ∈ sgs, H (d c) = some (.dK (kvI (L c)))
theorem LdAt.same {H H' : Hp} {ld : Addr} {d : Nat → Addr} {L : Nat → List (Int × Int)} (h : LdAt H ld d L) (s : Same H H') : LdAt H' ld d L := ⟨s _ _ h.hd, fun c hc => s _ _ (h.hc c hc)⟩
/-- a world -/
def WAt (C : Addr) (H : Hp) (p : Addr) (n : Int) (L : Nat → List (Int × Int)) : Prop := ∃ (dx pl ld : Addr) (d : Nat → Addr), H p = some (.ins C dx (wf pl ld)) ∧ H pl = some (.lst (rgV 0 n)) ∧ LdAt H ld d L
theorem WAt.same {C : Addr} {H H' : Hp} {p : Addr} {n : Int} {L : Nat → List (Int × Int)} (s : Same H H') : WAt C H p n L → WAt C H' p n L
  | ⟨dx, pl, ld, d, h1, h2, h3⟩ => ⟨dx, pl, ld, d, s _ _ h1, s _ _ h2, h3.same s⟩
structure WC (K : PySem.W.Frag) (mg : Str → Option Value) (C : Addr) : Prop where
  cl : Cls K C
  nP : PySem.W.findIn K (.ref C) "places" = some none
  nL : PySem.W.findIn K (.ref C) "leads" = some none
  mgC : mg "World" = some (.ref C)
  ha : PySem.W.findIn K (.ref C) "__class__" = some (some (.builtin "object.__class__"))
  hn : PySem.W.specialIn K (.builtin "object.__class__") "__get__" = some (some (.builtin "getset_descriptor.__get__"))
  htk : PySem.W.takesIn K (.builtin "object.__class__") = some true
  hm : PySem.W.mroIn K C (.type "object") = some true
  ne : PySem.W.findIn K (.ref C) "__ne__" = some (some (.builtin "object.__ne__"))
section
variable {P : Program} {w : World} {K : PySem.W.Frag} {mg : Str → Option Value} {base : Heap} {C : Addr}
/-! ### is_move (a move that is one) -/
def spIm : Sp := fun vs H Q _ => ∃ (t : Addr) (m : Mv) (n : Int), vs = [.ref t, .int n] ∧ H t = some (.tup [.str (one m.1), .int m.2.1, .int m.2.2]) ∧ 97 ≤ m.1 ∧ m.1 ≤ 104 ∧ 0 ≤ m.2.1 ∧ m.2.1 < n ∧ 0 ≤ m.2.2 ∧ m.2.2 < n ∧ Q (.bl true) H
abbrev HasIm (P : Program) (w : World) (K : PySem.W.Frag) (mg : Str → Option Value) (base : Heap) : Prop := Has P w K mg base 2 "is_move" ["move", "many"] spIm
theorem sc_im : FnScope ["move", "many"] ["move", "many"] (defScope s_is_move) := ⟨rfl, rfl, rfl, by decide +kernel, rfl, by decide +kernel, by decide +kernel⟩
theorem upB_true {i m : Int} (h0 : 0 ≤ i) (h1 : i ≤ m) : upB (.int i) m = true := by
  show (decide (0 ≤ i) && decide (i ≤ m)) = true
  rw [decide_eq_true h0, decide_eq_true h1]
  rfl
theorem has_im (F : FnAt K mg "is_move" s_is_move ["move", "many"]) (B : Blt mg) (h_Up : HasUp P w K mg base) {t1 : Tok} (C_LETTERS : mg "LETTERS" = some (.str (Str.ofString "abcdefgh") t1)) : HasIm P w K mg base := F.has fun F => by
  obtain ⟨f_Up, fd_Up, g_Up, k_Up, b_Up, G_Up⟩ := h_Up
  refine F.ok sc_im (fun vs H Q E h => ?_) (fun cdv A outer s H vs Q E hr h => ?_)
  · obtain ⟨t, m, n, rfl, _⟩ := h
    rfl
  · obtain ⟨t, m, n, rfl, ht, a1, a2, a3, a4, a5, a6, q⟩ := h
    refine ⟨_, (pss_cons (ps_if (PW.pt (pw_or (pt_cmpR op_ne (pe_callB call_lenQ (by rfl) B.len PySem.boot_len (pa_cons (pv 0) pa_nil)) pe_int (nomark _)) (pw_or (pt_not (pt_val (pe_call G_Up (hr.mono (by decide)) (by rfl) g_Up k_Up b_Up .nil pass0 (pa_cons (pe_ix ix_tup (pv 0) pe_int (fun _ _ => rfl)) (pa_cons (pe_op op_sub (pv 1) pe_int) pa_nil))))) (pw_or1 (pt_not (pt_val (pe_call G_Up (hr.mono (by decide)) (by rfl) g_Up k_Up b_Up .nil pass0 (pa_cons (pe_ix ix_tup (pv 0) pe_int (fun _ _ => rfl)) (pa_cons (pe_op op_sub (pv 1) pe_int) pa_nil))))))))) (pss_one (ps_ret pe_bl)) pss_nil) (pss_one (ps_ret (pe_and (pe_callB call_isi (by rfl) B.isinstance (by decide +kernel) (pa_cons (pe_ix ix_tup (pv 0) pe_int (fun _ _ => rfl)) (pa_cons (pe_bltn (v := .ty "str") (by rfl) B.str (by decide +kernel) rfl) pa_nil))) (pe_and (pe_cmpR op_eq (pe_callB call_lenS (by rfl) B.len PySem.boot_len (pa_cons (pe_ix ix_tup (pv 0) pe_int (fun _ _ => rfl)) pa_nil)) pe_int (nomark _)) (pe_one (pe_cmpR op_inSg (pe_ix ix_tup (pv 0) pe_int (fun _ _ => rfl)) (pe_gS (by rfl) C_LETTERS) rfl))))))), ?_⟩
    walk_at "go"
    refine w_orN2 (fun z => absurd rfl z) fun _ => ?_
    walk_at "go"
    refine ⟨_, _, rfl, trivial, ?_⟩
    rw [upB_true a3 (by omega)]
    walk_at "go"
    refine ⟨_, _, rfl, trivial, ?_⟩
    rw [upB_true a5 (by omega)]
    walk_at "go"
    refine w_lenS (by rw [len_one]; decide) ?_
    walk_at "go"
    refine w_andV2 (fun _ => ?_) (fun z => absurd rfl z)
    walk_at "go"
    rw [decide_eq_true (in_small.mpr ⟨a1, a2⟩)]
    exact q
end
end Sf
namespace Sf
open PySem PySem.Spec PyProof.Rows L2 TL
section
variable {P : Program} {w : World} {K : PySem.W.Frag} {mg : Str → Option Value} {base : Heap} {C : Addr}
/-! ### leads_by -/
def spLb : Sp := fun vs H Q _ => ∃ (n : Int) (a : Addr) (us : List V) (ms : List Mv), vs = [.int n, .ref a] ∧ H a = some (.lst us) ∧ MvsAt H us ms ∧ WOk n ms ∧ ms.length ≤ 100000 ∧
  ∀ (ld : Addr) (d : Nat → Addr) (H' : Hp), H ld = none → (∀ c ∈ sgs, H (d c) = none) → Same H H' → LdAt H' ld d (LM ms) → Q (.ref ld) H'
abbrev HasLb (P : Program) (w : World) (K : PySem.W.Frag) (mg : Str → Option Value) (base : Heap) : Prop := Has P w K mg base 3 "leads_by" ["many", "moves"] spLb
theorem sc_lb : FnScope ["many", "moves", "sign", "leads", "move", "letter", "start", "end"] ["many", "moves"] (defScope s_leads_by) := ⟨rfl, rfl, rfl, by decide +kernel, rfl, by decide +kernel, by decide +kernel⟩
/-- what stands while leads are laid -/
structure LdIn (H0 H : Hp) (ld : Addr) (d : Nat → Addr) (S : List Nat) (L : Nat → List (Int × Int)) : Prop where
  hd : H ld = some (.dK (leV d S))
  hc : ∀ c ∈ S, H (d c) = some (.dK (kvI (L c)))
  sm : Same H0 H
  nl : H0 ld = none
  nd : ∀ c ∈ S, H0 (d c) = none
  ne : ∀ c ∈ S, d c ≠ ld
  inj : ∀ c ∈ S, ∀ e ∈ S, d c = d e → c = e
theorem kvI_put {l : List (Int × Int)} {x y : Int} (h : lk l x = none) : putK (kvI l) (Sum.inl x) (.int y) = kvI (l ++ [(x, y)]) := by
  rw [putK_new _ (by rw [val_kvI, h]; rfl)]
  unfold kvI
  rw [List.map_append]
  rfl
theorem LdIn.put {H0 H H1 : Hp} {ld : Addr} {d : Nat → Addr} {L : Nat → List (Int × Int)} {c : Nat} {x y : Int} (h : LdIn H0 H ld d sgs L) (hc : c ∈ sgs) (hx : lk (L c) x = none)
    (h1 : H1 (d c) = some (.dK (putK (kvI (L c)) (Sum.inl x) (.int y)))) (o : Of (d c) H H1) : LdIn H0 H1 ld d sgs (fun e => if e = c then L c ++ [(x, y)] else L e) := by
  refine ⟨o.at (h.ne c hc).symm h.hd, fun e he => ?_, h.sm.off o (h.nd c hc), h.nl, h.nd, h.ne, h.inj⟩
  by_cases z : e = c
  · subst z
    rw [if_pos rfl, h1, kvI_put hx]
  · rw [if_neg z]
    exact o.at (fun q => z (h.inj e he c hc q)) (h.hc e he)
theorem LdIn.cong {H0 H : Hp} {ld : Addr} {d : Nat → Addr} {S : List Nat} {L L' : Nat → List (Int × Int)} (h : LdIn H0 H ld d S L) (e : ∀ c ∈ S, L c = L' c) : LdIn H0 H ld d S L' := ⟨h.hd, fun c hc => by rw [← e c hc]; exact h.hc c hc, h.sm, h.nl, h.nd, h.ne, h.inj⟩
theorem up_one {c : Nat} (h : 97 ≤ c ∧ c ≤ 104) : Txt.upper (one c) = one (c - 32) := upper_one h
theorem small_sgs {c : Nat} (h : 97 ≤ c ∧ c ≤ 104) : c ∈ sgs := sgs_iff.mpr (sgn_iff.mpr (.inl h))
theorem great_sgs {c : Nat} (h : 97 ≤ c ∧ c ≤ 104) : c - 32 ∈ sgs := sgs_iff.mpr (sgn_iff.mpr (.inr (by omega)))
theorem has_lb (F : FnAt K mg "leads_by" s_leads_by ["many", "moves"]) (B : Blt mg) (h_Im : HasIm P w K mg base) {t1 : Tok} (C_SIGNS : mg "SIGNS" = some (.str (Str.ofString "aAbBcCdDeEfFgGhH") t1)) : HasLb P w K mg base := F.has fun F => by
  obtain ⟨f_Im, fd_Im, g_Im, k_Im, b_Im, G_Im⟩ := h_Im
  refine F.ok sc_lb (fun vs H Q E h => ?_) (fun cdv A outer s H vs Q E hr h => ?_)
  · obtain ⟨n, a, us, ms, rfl, _⟩ := h
    rfl
  · obtain ⟨n, a, us, ms, rfl, ha, hm, ok, hlen, q⟩ := h
    refine ⟨_, (pss_cons (ps_setDc (i := 3) (own := [("sign", 2)]) (g := gName 2) (tt := tYes) (by rfl) sc_lb.nd rfl rfl (swD_true rfl rfl rfl (by decide +kernel)) (pi_str (pe_gS (by rfl) C_SIGNS)) (blkOk_by (own := [("sign", 2)]) (N := ["many", "moves", "sign", "leads", "move", "letter", "start", "end"]) (sc := defScope s_leads_by) (by decide +kernel)) (fun _ _ _ _ _ => pg_name (i := 2) sc_lb.nd rfl (.inl rfl)) (fun _ _ _ _ _ => pts_nil) (fun _ _ _ _ _ => (pv 2)) (fun _ _ _ _ _ => pe_dnewK)) (pss_cons (ps_for PassesOwn.never rfl (pi_list (pv 1)) (pg_name (i := 4) sc_lb.nd rfl (.inl rfl)) (pss_cons (ps_if (pt_not (pt_val (pe_call G_Im (hr.mono (by decide)) (by rfl) g_Im k_Im b_Im .nil pass0 (pa_cons (pv 4) (pa_cons (pv 0) pa_nil))))) (pss_one (ps_never)) pss_nil) (pss_cons (ps_asg (pv 4) (pg_tup rfl (pgs_cons (pg_name (i := 5) sc_lb.nd rfl (.inl rfl)) (pgs_cons (pg_name (i := 6) sc_lb.nd rfl (.inl rfl)) (pgs_cons (pg_name (i := 7) sc_lb.nd rfl (.inl rfl)) pgs_nil))))) (pss_cons (ps_if (PW.pt (pw_or (pt_cmp (pc_din (hu_of hr) (pv 6) (pe_dget (hu_of hr) (pv 3) (pv 5) (fun _ _ => rfl)))) (pw_or1 (pt_cmp (pc_din (hu_of hr) (pv 7) (pe_dget (hu_of hr) (pv 3) (pe_m0 PySem.F.slot_str_upper PySem.F.type_str_upper mt_upN (pv 5)) (fun _ _ => rfl))))))) (pss_one (ps_never)) pss_nil) (pss_cons (ps_dput (hu_of hr) (pe_dget (hu_of hr) (pv 3) (pv 5) (fun _ _ => rfl)) (pv 6) (pv 7) rfl) (pss_one (ps_dput (hu_of hr) (pe_dget (hu_of hr) (pv 3) (pe_m0 PySem.F.slot_str_upper PySem.F.type_str_upper mt_upN (pv 5)) (fun _ _ => rfl)) (pv 7) (pv 6) rfl))))))) (pss_one (ps_ret (pv 3))))), ?_⟩
    walk_at "go"
    refine w_dcS (fun p i H1 => ∃ d, LdIn H H1 p d (sgs.take i) fun _ => []) (fun p H1 hp nw => ⟨fun _ => 0, hp, fun c hc => absurd hc (by simp), nw.same, nw.nn, fun c hc => absurd hc (by simp), fun c hc => absurd hc (by simp), fun c hc => absurd hc (by simp)⟩) ?_ ?_
    · rintro p i c H1 hc ⟨d, hI⟩
      have hc' : sgs[i]? = some c := by rw [← hc]; exact congrArg (·[i]?) tl_signs.symm
      have hnd : c ∉ sgs.take i := fun z => by
        have := take_snoc hc' ▸ (sgs_nd.sublist (List.take_sublist (i + 1) sgs))
        rw [List.nodup_append] at this
        exact this.2.2 c z c (List.mem_singleton.mpr rfl) rfl
      walk_at "go"
      refine w_dnewK (fun q H2 hq nq => ?_)
      refine w_kItDS (nq.at hI.hd) (by rw [leV, List.length_map, List.length_take]; exact Nat.lt_of_le_of_lt (Nat.min_le_right _ _) (by decide)) (fun H3 h3 o3 => ?_)
      have hin : ∀ e ∈ sgs.take (i + 1), e = c ∨ (e ≠ c ∧ e ∈ sgs.take i) := fun e he => by
        by_cases z : e = c
        · exact .inl z
        · rw [take_snoc hc', List.mem_append] at he
          exact .inr ⟨z, he.resolve_right fun y => z (List.mem_singleton.mp y)⟩
      refine ⟨fun e => if e = c then q else d e, ?_, fun e he => ?_, (hI.sm.nw nq).off o3 hI.nl, hI.nl, fun e he => ?_, fun e he => ?_, fun e he f hf z => ?_⟩
      · unfold leV at h3 ⊢
        rw [h3, putK_new _ (val_sgs_none hnd), take_snoc hc', List.map_append]
        refine congrArg some (congrArg HO.dK ?_)
        refine congr (congrArg _ (List.map_congr_left fun e he => ?_)) ?_
        · show _ = (Sum.inr (one e), V.ref (if e = c then q else d e))
          rw [if_neg (show ¬ e = c from fun z => hnd (z ▸ he))]
        · show _ = [((Sum.inr (one c) : Key), V.ref (if c = c then q else d c))]
          rw [if_pos rfl]
      · rcases hin e he with rfl | ⟨z, hz⟩
        · rw [if_pos rfl]
          exact o3.at (Nw.ne nq hI.hd).symm hq
        · rw [if_neg z]
          exact o3.at (hI.ne e hz) (nq.at (hI.hc e hz))
      · rcases hin e he with rfl | ⟨z, hz⟩
        · rw [if_pos rfl]
          exact hI.sm.free nq.nn
        · rw [if_neg z]
          exact hI.nd e hz
      · rcases hin e he with rfl | ⟨z, hz⟩
        · rw [if_pos rfl]
          exact (Nw.ne nq hI.hd).symm
        · rw [if_neg z]
          exact hI.ne e hz
      · rcases hin e he with rfl | ⟨ze, hze⟩
        · rcases hin f hf with rfl | ⟨zf, hzf⟩
          · rfl
          · rw [if_pos rfl, if_neg zf] at z
            exact absurd z.symm (Nw.ne nq (hI.hc f hzf))
        · rcases hin f hf with rfl | ⟨zf, hzf⟩
          · rw [if_neg ze, if_pos rfl] at z
            exact absurd z (Nw.ne nq (hI.hc e hze))
          · rw [if_neg ze, if_neg zf] at z
            exact hI.inj e hze f hzf z
    · rintro ld H1 ⟨d, hI⟩
      have hI : LdIn H H1 ld d sgs fun _ => [] := by
        have e : sgs.take (tl (Str.ofString "aAbBcCdDeEfFgGhH")).length = sgs := by
          rw [show tl (Str.ofString "aAbBcCdDeEfFgGhH") = sgs from tl_signs]
          exact List.take_length
        rw [e] at hI
        exact hI
      have ha1 := hI.sm _ _ ha
      walk_at "go"
      refine w_list (xs := us) (fun i σ H2 => ∃ (y2 y4 y5 y6 y7 : Option V), σ = [some (.int n), some (.ref a), y2, some (.ref ld), y4, y5, y6, y7] ∧ LdIn H H2 ld d sgs (LM (ms.take i)))
        ⟨none, none, none, none, none, rfl, hI.cong fun c _ => by rw [List.take_zero]; rfl⟩ (fun i σ H2 _ ⟨_, _, _, _, _, _, h⟩ => h.sm _ _ ha) ?_ ?_
      · rintro i v σ H2 hv ⟨y2, y4, y5, y6, y7, rfl, hJ⟩
        obtain ⟨m, hmi, t, rfl, ht⟩ := paired_get hm hv
        have ht2 := hJ.sm _ _ ht
        have hok : WOk n (ms.take i ++ [m]) := by rw [← take_snoc hmi]; exact ok.take _
        have hr' := hok.rg m (List.mem_append_right _ (List.mem_singleton.mpr rfl))
        have hsm := small_sgs ⟨hr'.1, hr'.2.1⟩
        have hgr := great_sgs ⟨hr'.1, hr'.2.1⟩
        have e1 := new_start hok
        have e2 := new_end hok
        have hne : m.1 - 32 ≠ m.1 := by omega
        have len0 : ∀ c, (kvI (LM (ms.take i) c)).length < sizeLine := fun c => by
          rw [kvI_len]
          exact lineLt_of (Nat.le_trans (LM_len _ _) (Nat.le_trans (by rw [List.length_take]; exact Nat.min_le_right _ _) hlen))
        walk_at "go"
        refine ⟨t, m, n, rfl, ht2, hr'.1, hr'.2.1, hr'.2.2.1, hr'.2.2.2.1, hr'.2.2.2.2.1, hr'.2.2.2.2.2, ?_⟩
        walk_at "go"
        refine w_kDGetS hJ.hd (val_sgs hsm) ?_
        have hd1 := hJ.hc _ hsm
        have hd2 := hJ.hc _ hgr
        walk_at "go"
        rw [val_kvI, e1]
        refine w_orF ?_
        walk_at "go"
        refine w_up1 ⟨hr'.1, hr'.2.1⟩ ?_
        refine w_kDGetS hJ.hd (val_sgs hgr) ?_
        walk_at "go"
        rw [val_kvI, e2]
        refine w_ifF ?_
        walk_at "go"
        refine w_kDGetS hJ.hd (val_sgs hsm) ?_
        walk_at "go"
        refine w_kDPutI hd1 (len0 _) (fun H3 h3 o3 => ?_)
        have hJ3 := hJ.put hsm e1 h3 o3
        walk_at "go"
        refine w_up1 ⟨hr'.1, hr'.2.1⟩ ?_
        refine w_kDGetS hJ3.hd (val_sgs hgr) ?_
        walk_at "go"
        have hd3 := hJ3.hc _ hgr
        rw [if_neg hne] at hd3
        refine w_kDPutI hd3 (len0 _) (fun H4 h4 o4 => ?_)
        have hJ4 := hJ3.put hgr (by rw [if_neg hne]; exact e2) (by rw [if_neg hne]; exact h4) o4
        walk_at "go"
        refine ⟨_, _, _, _, _, rfl, hJ4.cong fun c _ => ?_⟩
        rw [take_snoc hmi, LM_snoc]
        by_cases z1 : c = m.1 - 32
        · subst z1
          rw [if_pos rfl, if_neg hne, mvOn_great hr'.1]
          rfl
        · rw [if_neg z1]
          by_cases z2 : c = m.1
          · subst z2
            rw [if_pos rfl, mvOn_self]
            rfl
          · rw [if_neg z2, mvOn_other z2 z1 hr'.1, Option.toList, List.append_nil]
      · rintro σ H2 ⟨y2, y4, y5, y6, y7, rfl, hJ⟩
        walk_at "go"
        refine q ld d H2 hJ.nl hJ.nd hJ.sm ⟨hJ.hd, fun c hc => ?_⟩
        have e : ms.take us.length = ms := by rw [Paired.length hm, List.take_length]
        have := hJ.hc c hc
        rw [e] at this
        exact this
end
end Sf
namespace Sf
open PySem PySem.Spec PyProof.Rows L2 TL
section
variable {P : Program} {w : World} {K : PySem.W.Frag} {mg : Str → Option Value} {base : Heap} {C : Addr}
/-! ### World.__init__ -/
def spWI (C : Addr) : Sp := fun vs H Q _ => ∃ (p dx a : Addr) (n : Int) (us : List V) (ms : List Mv), vs = [.ref p, .int n, .ref a] ∧ H p = some (.ins C dx []) ∧ H a = some (.lst us) ∧ MvsAt H us ms ∧ WOk n ms ∧ ms.length ≤ 100000 ∧ 1 ≤ n ∧ n ≤ 1000 ∧
  ∀ H' G : Hp, WAt C G p n (LM ms) → Same G H' → (∀ b o, G b = some o → b = p ∨ H b = none) → (∀ b o, H b = some o → b ≠ p → H' b = some o) → Q .non H'
theorem sc_wi : FnScope ["self", "many", "moves"] ["self", "many", "moves"] (defScope s_World___init__) := ⟨rfl, rfl, rfl, by decide +kernel, rfl, by decide +kernel, by decide +kernel⟩
theorem has_wi (F : MAt K C "__init__" "World.__init__" s_World___init__ ["self", "many", "moves"]) (B : Blt mg) (T : WC K mg C) (h_Up : HasUp P w K mg base) (h_Lb : HasLb P w K mg base) {t1 : Tok} (C_MOST_PLACES : mg "MOST_PLACES" = some (.int 1000 t1)) : HasM P w K mg base C 4 "__init__" ["self", "many", "moves"] (spWI C) := F.has fun F => by
  obtain ⟨f_Up, fd_Up, g_Up, k_Up, b_Up, G_Up⟩ := h_Up
  obtain ⟨f_Lb, fd_Lb, g_Lb, k_Lb, b_Lb, G_Lb⟩ := h_Lb
  refine F.ok sc_wi (fun vs H Q E h => ?_) (fun cdv A outer s H vs Q E hr h => ?_)
  · obtain ⟨p, dx, a, n, us, ms, rfl, _⟩ := h
    rfl
  · obtain ⟨p, dx, a, n, us, ms, rfl, hp, ha, hm, ok, hlen, n1, n2, q⟩ := h
    refine ⟨_, (pss_cons (ps_if (PW.pt (pw_or (pt_not (pt_val (pe_call G_Up (hr.mono (by decide)) (by rfl) g_Up k_Up b_Up .nil pass0 (pa_cons (pv 1) (pa_cons (pe_gI (by rfl) C_MOST_PLACES) pa_nil))))) (pw_or1 (pt_cmpR op_eq (pv 1) pe_int (nomark _))))) (pss_one (ps_never)) pss_nil) (pss_cons (ps_fld (pv 0) (pe_listRg rfl (by rfl) B.list (prg_1 (by rfl) B.range (pv 1))) rfl) (pss_one (ps_fld (pv 0) (pe_call G_Lb (hr.mono (by decide)) (by rfl) g_Lb k_Lb b_Lb .nil pass0 (pa_cons (pv 1) (pa_cons (pv 2) pa_nil))) rfl)))), ?_⟩
    walk_at "go"
    refine ⟨_, _, rfl, trivial, ?_⟩
    rw [upB_true (by omega) n2]
    walk_at "go"
    refine w_if2 (fun z => absurd z (by omega)) fun _ => ?_
    walk_at "go"
    refine w_kRgL (.of_le (by decide) (by omega) (by decide) (by omega)) (fun pl H1 hpl npl => ?_)
    walk_at "go"
    refine w_kSFld (npl.at hp) T.cl T.nP (by decide) (fun H2 hp2 o2 => ?_)
    have nep : a ≠ p := ne_of ha hp (by intro z; cases z)
    have hpl2 : H2 pl = some (.lst (rgV 0 n)) := o2.at (Nw.ne npl hp).symm hpl
    have t2 : Tps H H2 := fun b xs h => o2.at (ne_of h hp (by intro z; cases z)) (npl.at h)
    walk_at "go"
    refine ⟨n, a, us, ms, rfl, o2.at nep (npl.at ha), hm.tps t2, ok, hlen, fun ld d H3 nld nd s3 hL => ?_⟩
    walk_at "go"
    refine w_kSFld (s3.at hp2) T.cl T.nL (by rw [show (putF "places" (V.ref pl) [] : List (Str × V)).length = 1 from rfl]; decide) (fun H4 hp4 o4 => ?_)
    walk_at "go"
    have hpl3 := s3.at hpl2
    have npp : pl ≠ p := (Nw.ne npl hp).symm
    have nlp : ld ≠ p := fun z => by rw [z, hp2] at nld; cases nld
    have ndp : ∀ c ∈ sgs, d c ≠ p := fun c hc z => by have := nd c hc; rw [z, hp2] at this; cases this
    have hnone : ∀ b, b ≠ p → H2 b = none → H b = none := fun b hb h => by
      cases e : H b with
      | none => rfl
      | some o => rw [o2.at hb (npl.at e)] at h; cases h
    refine q H4 (fun b => if b = p ∨ b = pl ∨ b = ld ∨ ∃ c ∈ sgs, b = d c then H4 b else none) ⟨dx, pl, ld, d, ?_, ?_, ?_, fun c hc => ?_⟩ (fun b o e => ?_) (fun b o e => ?_) (fun b o e hb => ?_)
    · show (if _ then _ else _) = _
      rw [if_pos (.inl rfl)]
      exact hp4
    · show (if _ then _ else _) = _
      rw [if_pos (.inr (.inl rfl))]
      exact o4.at npp hpl3
    · show (if _ then _ else _) = _
      rw [if_pos (.inr (.inr (.inl rfl)))]
      exact o4.at nlp hL.hd
    · show (if _ then _ else _) = _
      rw [if_pos (.inr (.inr (.inr ⟨c, hc, rfl⟩)))]
      exact o4.at (ndp c hc) (hL.hc c hc)
    · have e : (if _ then _ else _) = _ := e
      split at e
      · exact e
      · cases e
    · have e : (if _ then _ else _) = _ := e
      split at e
      · rename_i h
        rcases h with h | h | h | ⟨c, hc, h⟩
        · exact .inl h
        · exact .inr (by rw [h]; exact npl.nn)
        · exact .inr (hnone b (by rw [h]; exact nlp) (by rw [h]; exact nld))
        · exact .inr (hnone b (by rw [h]; exact ndp c hc) (by rw [h]; exact nd c hc))
      · cases e
    · exact o4.at hb (s3.at (o2.at hb (npl.at e)))
/-- a new world: what stands of it, and what stood -/
theorem w_world {H : Hp} {Q : VK} {a : Addr} {n : Int} {us : List V} {ms : List Mv} {E : XK} (ha : H a = some (.lst us)) (hm : MvsAt H us ms) (ok : WOk n ms) (hlen : ms.length ≤ 100000) (n1 : 1 ≤ n) (n2 : n ≤ 1000)
    (k : ∀ (p : Addr) (H' G : Hp), WAt C G p n (LM ms) → Same G H' → (∀ b o, G b = some o → H b = none) → Same H H' → Q (.ref p) H') : kMake C (spWI C) [] E Q [.int n, .ref a] H := fun x dx nx ndx hne => by
  have sm : Same H (upd (upd H dx (.own x)) x (.ins C dx [])) := (same_upd ndx).trans (same_upd (by rw [upd_ne hne.symm]; exact nx))
  refine ⟨x, dx, a, n, us, ms, rfl, upd_same, sm.at ha, hm.tps (.of sm), ok, hlen, n1, n2, fun H' G hW sG hG hf => ⟨rfl, k x H' G hW sG (fun b o e => ?_) fun b o e => hf b o (sm _ _ e) (ne_of_none e nx)⟩⟩
  rcases hG b o e with h | h
  · rw [h]
    exact nx
  · exact sm.free h
end
end Sf
namespace Sf
open PySem PySem.Spec PyProof.Rows L2 TL
section
variable {P : Program} {w : World} {K : PySem.W.Frag} {mg : Str → Option Value} {base : Heap} {C : Addr}
/-! ### World.led -/
def spLed (C : Addr) : Sp := fun vs H Q _ => ∃ (p : Addr) (n x : Int) (L : Nat → List (Int × Int)) (z : Str), vs = [.ref p, .str z, .int x] ∧ WAt C H p n L ∧ Wd z ∧ Q (oV (ledM (stp L) (tl z) x)) H
theorem sc_led : FnScope ["self", "word", "place", "here", "sign"] ["self", "word", "place"] (defScope s_World_led) := ⟨rfl, rfl, rfl, by decide +kernel, rfl, by decide +kernel, by decide +kernel⟩
theorem has_led (F : MAt K C "led" "World.led" s_World_led ["self", "word", "place"]) (T : WC K mg C) : HasM P w K mg base C 1 "led" ["self", "word", "place"] (spLed C) := F.has fun F => by
  refine F.ok sc_led (fun vs H Q E h => ?_) (fun cdv A outer s H vs Q E hr h => ?_)
  · obtain ⟨p, n, x, L, z, rfl, _⟩ := h
    rfl
  · obtain ⟨p, n, x, L, z, rfl, ⟨dx, pl, ld, d, hp, hpl, hL⟩, hz, q⟩ := h
    refine ⟨_, (pss_cons (ps_set (i := 3) sc_led.nd rfl (.inl rfl) (pv 2)) (pss_cons (ps_for PassesOwn.never rfl (pi_str (pv 1)) (pg_name (i := 4) sc_led.nd rfl (.inl rfl)) (pss_cons (ps_set (i := 3) sc_led.nd rfl (.inl rfl) (pe_dget1 (hu_of hr) (pe_dget (hu_of hr) (pe_fld (pv 0) rfl) (pv 4) (fun _ _ => rfl)) (pv 3) ⟨rfl, rfl, rfl, rfl⟩)) (pss_one (ps_if (pt_cmpR op_isNn (pv 3) pe_non (nomark _)) (pss_one (ps_ret pe_non)) pss_nil)))) (pss_one (ps_ret (pv 3))))), ?_⟩
    have hld := hL.hd
    walk_at "go"
    refine w_str (fun i σ H2 => ∃ (y4 : Option V) (y : Int), σ = [some (.ref p), some (.str z), some (.int x), some (.int y), y4] ∧ H2 = H ∧ ledM (stp L) ((tl z).take i) x = some y) ⟨none, x, rfl, rfl, rfl⟩ ?_ ?_
    · rintro i c σ H2 hc ⟨y4, y, rfl, rfl, e⟩
      have hs : c ∈ sgs := sgs_iff.mpr (hz c (List.mem_of_getElem? hc))
      have hdc := hL.hc c hs
      have e1 := ledM_snoc (st := stp L) (x := x) hc
      rw [e] at e1
      walk_at "go"
      refine w_kFld hp T.cl T.nL (wf_leads _ _) ?_
      walk_at "go"
      refine w_kDGetS hld (val_sgs hs) ?_
      walk_at "go"
      rw [getD_kvI]
      cases e2 : lk (L c) y with
      | none =>
        walk_at "go"
        have e3 : ledM (stp L) ((tl z).take (i + 1)) x = none := by rw [e1]; exact e2
        rw [ledM_none e3] at q
        exact q
      | some y' =>
        walk_at "go"
        exact ⟨_, y', rfl, rfl, by rw [e1]; exact e2⟩
    · rintro σ H2 ⟨y4, y, rfl, rfl, e⟩
      walk_at "go"
      rw [List.take_length] at e
      rw [e] at q
      exact q
def plc (n : Int) : List Int := (List.range n.toNat).map fun i => ((i : Nat) : Int)
theorem rgV_plc (n : Int) : rgV 0 n = (plc n).map V.int := by
  unfold rgV plc
  rw [List.map_map, Int.sub_zero]
  exact List.map_congr_left fun i _ => by show V.int (0 + (i : Int)) = V.int (i : Int); rw [Int.zero_add]
theorem oV_inj {a b : Option Int} (h : oV a = oV b) : a = b := by
  cases a <;> cases b <;> first | rfl | cases h | skip
  rfl
theorem scal_oV (a b : Option Int) : scal (oV a) (oV b) = true := by
  cases a <;> cases b <;> rfl
end
end Sf
namespace Sf
open PySem PySem.Spec PyProof.Rows L2 TL
section
variable {P : Program} {w : World} {K : PySem.W.Frag} {mg : Str → Option Value} {base : Heap} {C : Addr}
/-! ### _law_world: some world -/
def spLw : Sp := fun vs H Q _ => ∃ (b l : Addr) (u : Int) (z : Str), vs = [.ref b, .int u, .str z] ∧ Bag H b l ∧ 1 ≤ u ∧ u ≤ 1000 ∧ (∀ c ∈ tl z, 97 ≤ c ∧ c ≤ 104) ∧ (tl z).Nodup ∧ (tl z).length ≤ 8 ∧
  ∀ (t f : Addr) (n : Int) (us : List V) (ms : List Mv) (H' : Hp), H' t = some (.tup [.int n, .ref f]) → H' f = some (.lst us) → MvsAt H' us ms → WOk n ms → 1 ≤ n → n ≤ u → ms.length ≤ 8000 → (∀ m ∈ ms, m.1 ∈ tl z) → Bag H' b l → Fx b H H' → H f = none → f ≠ b → f ≠ l → Q (.ref t) H'
abbrev HasLw (P : Program) (w : World) (K : PySem.W.Frag) (mg : Str → Option Value) (base : Heap) : Prop := Has P w K mg base 2 "_law_world" ["_law_bag", "_law_upto", "_law_letters"] spLw
theorem sc_lw : FnScope ["_law_bag", "_law_upto", "_law_letters", "_law_many", "_law_found", "_law_letter", "_law_starts", "_law_ends", "_law_turn", "_law_start"] ["_law_bag", "_law_upto", "_law_letters"] (defScope s__law_world) := ⟨rfl, rfl, rfl, by decide +kernel, rfl, by decide +kernel, by decide +kernel⟩
theorem plc_mem {n x : Int} : x ∈ plc n ↔ 0 ≤ x ∧ x < n := by
  unfold plc
  rw [List.mem_map]
  constructor
  · rintro ⟨i, hi, rfl⟩
    have := List.mem_range.mp hi
    omega
  · rintro ⟨h0, h1⟩
    exact ⟨x.toNat, List.mem_range.mpr (by omega), by omega⟩
theorem plc_nodup (n : Int) : (plc n).Nodup := by
  unfold plc
  refine List.Pairwise.map _ (fun a b h => ?_) List.nodup_range
  omega
theorem plc_len {n : Int} : (plc n).length = n.toNat := by
  unfold plc
  rw [List.length_map, List.length_range]
theorem plc_at {n : Int} {j : Nat} (h : j < n.toNat) : (plc n)[j]? = some (0 + (j : Int)) := by
  unfold plc
  rw [List.getElem?_map, List.getElem?_range h, Int.zero_add]
  rfl
theorem abc_mem {d : Int} : ∀ c ∈ tl (cutS (Str.ofString "abc") none (some d)), 97 ≤ c ∧ c ≤ 104 := fun c hc => by
  rw [tl_cut] at hc
  have := List.mem_of_mem_drop (List.mem_of_mem_take hc)
  rw [show tl (Str.ofString "abc") = [97, 98, 99] by decide +kernel] at this
  simp only [List.mem_cons, List.not_mem_nil, or_false] at this
  omega
theorem abc_nd {d : Int} : (tl (cutS (Str.ofString "abc") none (some d))).Nodup := by
  rw [tl_cut]
  refine List.Nodup.sublist ((List.take_sublist _ _).trans (List.drop_sublist _ _)) ?_
  rw [show tl (Str.ofString "abc") = [97, 98, 99] by decide +kernel]
  decide
theorem abc_len {d : Int} : (tl (cutS (Str.ofString "abc") none (some d))).length ≤ 8 := by
  rw [tl_cut, List.length_take, List.length_drop, show tl (Str.ofString "abc") = [97, 98, 99] by decide +kernel]
  exact Nat.le_trans (Nat.min_le_right _ _) (Nat.le_trans (Nat.sub_le _ _) (by decide))
/-- what is left to draw from -/
structure Left (n : Int) (S : List Int) (j : Nat) : Prop where
  nd : S.Nodup
  rg : ∀ x ∈ S, 0 ≤ x ∧ x < n
  ln : S.length + j = n.toNat
theorem Left.pop {n x : Int} {S R : List Int} {j : Nat} (h : Left n S j) (p : S.Perm (x :: R)) : Left n R (j + 1) ∧ x ∉ R ∧ x ∈ S ∧ (∀ y ∈ R, y ∈ S) := by
  have nd := p.nodup_iff.mp h.nd
  rw [List.nodup_cons] at nd
  have hl := p.length_eq
  rw [List.length_cons] at hl
  have := h.ln
  exact ⟨⟨nd.2, fun y hy => h.rg y (p.mem_iff.mpr (List.mem_cons_of_mem _ hy)), by omega⟩, nd.1, p.mem_iff.mpr List.mem_cons_self, fun y hy => p.mem_iff.mpr (List.mem_cons_of_mem _ hy)⟩
theorem WOk.snoc {n : Int} {ms : List Mv} {m : Mv} (h : WOk n ms) (hr : 97 ≤ m.1 ∧ m.1 ≤ 104 ∧ 0 ≤ m.2.1 ∧ m.2.1 < n ∧ 0 ≤ m.2.2 ∧ m.2.2 < n) (hp : ∀ k ∈ ms, k.1 = m.1 → k.2.1 ≠ m.2.1 ∧ k.2.2 ≠ m.2.2) : WOk n (ms ++ [m]) := by
  refine ⟨fun k hk => ?_, List.pairwise_append.mpr ⟨h.pw, List.pairwise_singleton _ _, fun k hk m' hm' => ?_⟩⟩
  · rcases List.mem_append.mp hk with hk | hk
    · exact h.rg k hk
    · rw [List.mem_singleton.mp hk]
      exact hr
  · rw [List.mem_singleton.mp hm']
    exact hp k hk
theorem paired_snoc {α β : Type} {R : α → β → Prop} {a : α} {b : β} (h : R a b) : ∀ {as : List α} {bs : List β}, Paired R as bs → Paired R (as ++ [a]) (bs ++ [b])
  | _, _, .nil => .cons h .nil
  | _, _, .cons r t => .cons r (paired_snoc h t)
theorem has_lw (F : FnAt K mg "_law_world" s__law_world ["_law_bag", "_law_upto", "_law_letters"]) (B : Blt mg) (h_Pu : HasPull P w K mg base) : HasLw P w K mg base := F.has fun F => by
  obtain ⟨f_Pu, fd_Pu, g_Pu, k_Pu, b_Pu, G_Pu⟩ := h_Pu
  refine F.ok sc_lw (fun vs H Q E h => ?_) (fun cdv A outer s H vs Q E hr h => ?_)
  · obtain ⟨b, l, u, z, rfl, _⟩ := h
    rfl
  · obtain ⟨b, l, u, z, rfl, hB, u0, u1, hz, hnd, hz8, q⟩ := h
    refine ⟨_, (pss_cons (ps_set (i := 3) sc_lw.nd rfl (.inl rfl) (pe_op op_add pe_int (pe_call G_Pu (hr.mono (by decide)) (by rfl) g_Pu k_Pu b_Pu .nil pass0 (pa_cons (pv 0) (pa_cons (pv 1) pa_nil))))) (pss_cons (ps_set (i := 4) sc_lw.nd rfl (.inl rfl) (pe_lst pa_nil)) (pss_cons (ps_for PassesOwn.never rfl (pi_str (pv 2)) (pg_name (i := 5) sc_lw.nd rfl (.inl rfl)) (pss_cons (ps_set (i := 6) sc_lw.nd rfl (.inl rfl) (pe_listRg rfl (by rfl) B.list (prg_1 (by rfl) B.range (pv 3)))) (pss_cons (ps_set (i := 7) sc_lw.nd rfl (.inl rfl) (pe_listRg rfl (by rfl) B.list (prg_1 (by rfl) B.range (pv 3)))) (pss_one (ps_for PassesOwn.never rfl (pi_range1 rfl B.range (pa_cons (pe_call G_Pu (hr.mono (by decide)) (by rfl) g_Pu k_Pu b_Pu .nil pass0 (pa_cons (pv 0) (pa_cons (pe_op op_add (pv 3) pe_int) pa_nil))) pa_nil)) (pg_name (i := 8) sc_lw.nd rfl (.inl rfl)) (pss_cons (ps_set (i := 9) sc_lw.nd rfl (.inl rfl) (pe_bm PySem.F.plainAttrs_list PySem.F.slot_list_pop PySem.F.type_list_pop mt_popAt (pv 6) (pa_cons (pe_call G_Pu (hr.mono (by decide)) (by rfl) g_Pu k_Pu b_Pu .nil pass0 (pa_cons (pv 0) (pa_cons (pe_callB call_lenQ (by rfl) B.len PySem.boot_len (pa_cons (pv 6) pa_nil)) pa_nil))) pa_nil))) (pss_one (ps_expr (pe_bm PySem.F.plainAttrs_list PySem.F.slot_list_append PySem.F.type_list_append mt_append (pv 4) (pa_cons (pe_tup (pa_cons (pv 5) (pa_cons (pv 9) (pa_cons (pe_bm PySem.F.plainAttrs_list PySem.F.slot_list_pop PySem.F.type_list_pop mt_popAt (pv 7) (pa_cons (pe_call G_Pu (hr.mono (by decide)) (by rfl) g_Pu k_Pu b_Pu .nil pass0 (pa_cons (pv 0) (pa_cons (pe_callB call_lenQ (by rfl) B.len PySem.boot_len (pa_cons (pv 7) pa_nil)) pa_nil))) pa_nil)) pa_nil)))) pa_nil)))))))))) (pss_one (ps_ret (pe_tup (pa_cons (pv 3) (pa_cons (pv 4) pa_nil)))))))), ?_⟩
    walk_at "go"
    refine ⟨b, l, u, rfl, hB, by omega, by omega, fun d H1 d0 d1 B1 f1 => ?_⟩
    walk_at "go"
    refine w_newL (by decide) (fun f H2 hf nf => ?_)
    have B2 := B1.nw nf
    have nfb := B1.ne nf.nn
    have nfl := B1.neL nf.nn
    have nfH : H f = none := by
      cases e : H f with
      | none => rfl
      | some o => have := nf.nn; rw [f1 _ _ e nfb] at this; cases this
    obtain ⟨n, en⟩ : ∃ n, n = 1 + d := ⟨_, rfl⟩
    rw [← en]
    walk_at "go"
    refine w_str (fun i σ H3 => ∃ (y5 y6 y7 y8 y9 : Option V) (us : List V) (ms : List Mv), σ = [some (.ref b), some (.int u), some (.str z), some (.int n), some (.ref f), y5, y6, y7, y8, y9] ∧ H3 f = some (.lst us) ∧ MvsAt H3 us ms ∧ WOk n ms ∧ Bag H3 b l ∧ Fx b H H3 ∧ (∀ m ∈ ms, m.1 ∈ (tl z).take i) ∧ ms.length ≤ i * n.toNat)
      ⟨none, none, none, none, none, [], [], rfl, hf, .nil, ⟨fun m hm => absurd hm (by simp), .nil⟩, B2, f1.nw nf, fun m hm => absurd hm (by simp), Nat.zero_le _⟩ ?_ ?_
    · rintro i c σ H3 hc ⟨y5, y6, y7, y8, y9, us, ms, rfl, hf3, hm3, ok3, B3, f3, hin3, hl3⟩
      have hi8 : i < 8 := Nat.lt_of_lt_of_le (List.getElem?_eq_some_iff.mp hc).1 hz8
      have hc97 := hz c (List.mem_of_getElem? hc)
      have hnotin : ∀ m ∈ ms, m.1 ≠ c := fun m hm e => by
        have h1 := hin3 m hm
        rw [e] at h1
        have h2 := take_snoc hc ▸ (hnd.sublist (List.take_sublist (i + 1) (tl z)))
        rw [List.nodup_append] at h2
        exact h2.2.2 c h1 c (List.mem_singleton.mpr rfl) rfl
      walk_at "go"
      refine w_kRgL (.of_le (by decide) (by omega) (by decide) (by omega)) (fun s1 H4 hs4 ns4 => ?_)
      walk_at "go"
      refine w_kRgL (.of_le (by decide) (by omega) (by decide) (by omega)) (fun e1 H5 he5 ne5 => ?_)
      have B4 := B3.nw ns4
      have B5 := B4.nw ne5
      have sb := B3.ne ns4.nn
      have sl := B3.neL ns4.nn
      have eb := B4.ne ne5.nn
      have el := B4.neL ne5.nn
      have sf : f ≠ s1 := ns4.ne hf3
      have ef : f ≠ e1 := ne5.ne (ns4.at hf3)
      have se : s1 ≠ e1 := ne5.ne hs4
      have sH : H s1 = none := by
        cases e : H s1 with
        | none => rfl
        | some o => have := ns4.nn; rw [f3 _ _ e sb] at this; cases this
      have eH : H e1 = none := by
        cases e : H e1 with
        | none => rfl
        | some o => have := ne5.nn; rw [ns4.at (f3 _ _ e eb)] at this; cases this
      walk_at "go"
      refine ⟨b, l, n + 1, rfl, B5, by omega, by omega, fun k H6 k0 k1 B6 f6 => ?_⟩
      walk_at "go"
      refine w_kRng1 (by omega) (by omega) ?_
      refine w_range (fun j σ H7 => ∃ (y8 y9 : Option V) (us' : List V) (ms' : List Mv) (S R : List Int), σ = [some (.ref b), some (.int u), some (.str z), some (.int n), some (.ref f), some (.str (one c)), some (.ref s1), some (.ref e1), y8, y9] ∧ H7 f = some (.lst us') ∧ MvsAt H7 us' ms' ∧ WOk n ms' ∧ Bag H7 b l ∧ Fx b H H7 ∧ (∀ m ∈ ms', m.1 ∈ (tl z).take (i + 1)) ∧ ms'.length ≤ i * n.toNat + j ∧
          H7 s1 = some (.lst (S.map V.int)) ∧ H7 e1 = some (.lst (R.map V.int)) ∧ Left n S j ∧ Left n R j ∧ ∀ m ∈ ms', m.1 = c → m.2.1 ∉ S ∧ m.2.2 ∉ R)
        ⟨_, _, us, ms, plc n, plc n, rfl, f6.at nfb (ne5.at (ns4.at hf3)), (hm3.tps (.of (ns4.same.trans ne5.same))).tps (.fx B5 f6), ok3, B6, ((f3.nw ns4).nw ne5).trans f6, fun m hm => by rw [take_snoc hc]; exact List.mem_append_left _ (hin3 m hm), hl3, by rw [← rgV_plc]; exact f6.at sb (ne5.at hs4), by rw [← rgV_plc]; exact f6.at eb he5, ⟨plc_nodup n, fun x hx => plc_mem.mp hx, plc_len⟩, ⟨plc_nodup n, fun x hx => plc_mem.mp hx, plc_len⟩, fun m hm e => absurd e (hnotin m hm)⟩ ?_ ?_
      · rintro j σ H7 hj ⟨y8, y9, us', ms', S, R, rfl, hf7, hm7, ok7, B7, f7, hin7, hl7, hs7, he7, LS, LR, hd7⟩
        have lS := LS.ln
        have lR := LR.ln
        walk_at "go"
        refine ⟨b, l, _, rfl, B7, by rw [List.length_map]; omega, by rw [List.length_map]; omega, fun d H8 d0 d1 B8 f8 => ?_⟩
        rw [List.length_map] at d1
        walk_at "go"
        refine w_popI (f8.at sb hs7) d0 d1 (by omega) (fun x S' H9 pS hs9 o9 => ?_)
        obtain ⟨LS', xS', xS, sS⟩ := LS.pop pS
        have B9 := B8.off sb sl o9
        have he9 : H9 e1 = some (.lst (R.map V.int)) := o9.at se.symm (f8.at eb he7)
        have hf9 : H9 f = some (.lst us') := o9.at sf (f8.at nfb hf7)
        have t9 : Tps H7 H9 := (Tps.fx B7 f8).off (f8.at sb hs7) o9
        walk_at "go"
        refine ⟨b, l, _, rfl, B9, by rw [List.length_map]; omega, by rw [List.length_map]; omega, fun d' H10 d0' d1' B10 f10 => ?_⟩
        rw [List.length_map] at d1'
        walk_at "go"
        refine w_popI (f10.at eb he9) d0' d1' (by omega) (fun y R' H11 pR he11 o11 => ?_)
        obtain ⟨LR', yR', yR, sR⟩ := LR.pop pR
        have B11 := B10.off eb el o11
        have hf11 : H11 f = some (.lst us') := o11.at ef (f10.at nfb hf9)
        have hs11 : H11 s1 = some (.lst (S'.map V.int)) := o11.at se (f10.at sb hs9)
        have t11 : Tps H7 H11 := t9.trans ((Tps.fx B9 f10).off (f10.at eb he9) o11)
        walk_at "go"
        refine w_newT (by walk_at "sz") (fun t H12 ht12 nt12 => ?_)
        have t12 : Tps H7 H12 := t11.trans (.of nt12.same)
        have hlu : us'.length = ms'.length := Paired.length hm7
        have hjn : i * n.toNat + j ≤ 8000 := Nat.le_trans (Nat.add_le_add (Nat.mul_le_mul (show i ≤ 7 by omega) (show n.toNat ≤ 1000 by omega)) (show j ≤ 1000 by omega)) (by decide)
        walk_at "go"
        refine w_append (nt12.at hf11) (lineLt_of (by omega)) (fun H13 hf13 o13 => ?_)
        have nft : f ≠ t := nt12.ne hf11
        walk_at "go"
        refine ⟨_, _, us' ++ [.ref t], ms' ++ [(c, x, y)], S', R', rfl, hf13, paired_snoc ⟨t, rfl, o13.at nft.symm ht12⟩ (hm7.tps (t12.off (nt12.at hf11) o13)), ok7.snoc ?_ ?_, (B11.nw nt12).off nfb nfl o13, ?_, ?_, ?_, o13.at sf.symm (nt12.at hs11), o13.at ef.symm (nt12.at he11), LS', LR', ?_⟩
        · exact ⟨hc97.1, hc97.2, (LS.rg x xS).1, (LS.rg x xS).2, (LR.rg y yR).1, (LR.rg y yR).2⟩
        · intro k hk e
          have := hd7 k hk e
          exact ⟨fun z => this.1 (z ▸ xS), fun z => this.2 (z ▸ yR)⟩
        · exact ((((f7.trans f8).off o9 sH).trans f10).off o11 eH |>.nw nt12).off o13 nfH
        · intro m hm
          rcases List.mem_append.mp hm with hm | hm
          · exact hin7 m hm
          · rw [List.mem_singleton.mp hm, take_snoc hc]
            exact List.mem_append_right _ (List.mem_singleton.mpr rfl)
        · rw [List.length_append]
          show ms'.length + 1 ≤ _
          omega
        · intro m hm e
          rcases List.mem_append.mp hm with hm | hm
          · have := hd7 m hm e
            exact ⟨fun z => this.1 (sS _ z), fun z => this.2 (sR _ z)⟩
          · rw [List.mem_singleton.mp hm]
            exact ⟨xS', yR'⟩
      · rintro σ H7 ⟨y8, y9, us', ms', S, R, rfl, hf7, hm7, ok7, B7, f7, hin7, hl7, hs7, he7, LS, LR, hd7⟩
        refine ⟨_, _, _, _, _, us', ms', rfl, hf7, hm7, ok7, B7, f7, hin7, ?_⟩
        have h1 : (i + 1) * n.toNat = i * n.toNat + n.toNat := Nat.succ_mul ..
        omega
    · rintro σ H3 ⟨y5, y6, y7, y8, y9, us, ms, rfl, hf3, hm3, ok3, B3, f3, hin3, hl3⟩
      walk_at "go"
      refine w_newT (by walk_at "sz") (fun t H4 ht4 nt4 => ?_)
      refine q t f n us ms H4 ht4 (nt4.at hf3) (hm3.tps (.of nt4.same)) ok3 (by omega) (by omega) ?_ (fun m hm => ?_) (B3.nw nt4) (f3.nw nt4) nfH nfb nfl
      · exact Nat.le_trans hl3 (Nat.le_trans (Nat.mul_le_mul hz8 (show n.toNat ≤ 1000 by omega)) (by decide))
      · exact List.mem_of_mem_take (hin3 m hm)
end
end Sf
namespace Sf
open PySem PySem.Spec PyProof.Rows L2 TL
/-! ### moves that are none -/
def isMv (n : Int) (z : Str) (s e : Int) : Bool := decide (0 ≤ s) && decide (s ≤ n - 1) && (decide (0 ≤ e) && decide (e ≤ n - 1)) && (match tl z with
  | [c] => decide (97 ≤ c ∧ c ≤ 104)
  | _ => false)
/-- what may not stand behind the moves ms -/
def Bad (n : Int) (ms : List Mv) (z : Str) (s e : Int) : Prop := isMv n z s e = false ∨ ∃ c, z = one c ∧ ∃ m ∈ ms, m.1 = c ∧ (m.2.1 = s ∨ m.2.2 = e)
/-- a list of moves, of which that at j is the first that may not be -/
structure BadAt (H : Hp) (n : Int) (us : List V) (j : Nat) : Prop where
  ex : ∃ (ms : List Mv) (t : Addr) (z : Str) (s e : Int), MvsAt H (us.take j) ms ∧ WOk n ms ∧ ms.length ≤ 100000 ∧ us[j]? = some (.ref t) ∧ H t = some (.tup [.str z, .int s, .int e]) ∧ z.length ≤ 1000 ∧ Bad n ms z s e
theorem BadAt.tps {H H' : Hp} {n : Int} {us : List V} {j : Nat} (h : BadAt H n us j) (s : Tps H H') : BadAt H' n us j := by
  obtain ⟨ms, t, z, a, b, h1, h2, h3, h4, h5, h6⟩ := h.ex
  exact ⟨ms, t, z, a, b, h1.tps s, h2, h3, h4, s _ _ h5, h6⟩
section
variable {P : Program} {w : World} {K : PySem.W.Frag} {mg : Str → Option Value} {base : Heap} {C : Addr}
def spImG : Sp := fun vs H Q _ => ∃ (t : Addr) (z : Str) (s e n : Int), vs = [.ref t, .int n] ∧ H t = some (.tup [.str z, .int s, .int e]) ∧ z.length ≤ 1000 ∧ Q (.bl (isMv n z s e)) H
theorem upB_int {i m : Int} : upB (.int i) m = (decide (0 ≤ i) && decide (i ≤ m)) := rfl
theorem has_imG (F : FnAt K mg "is_move" s_is_move ["move", "many"]) (B : Blt mg) (h_Up : HasUp P w K mg base) {t1 : Tok} (C_LETTERS : mg "LETTERS" = some (.str (Str.ofString "abcdefgh") t1)) : Has P w K mg base 2 "is_move" ["move", "many"] spImG := F.has fun F => by
  obtain ⟨f_Up, fd_Up, g_Up, k_Up, b_Up, G_Up⟩ := h_Up
  refine F.ok sc_im (fun vs H Q E h => ?_) (fun cdv A outer s H vs Q E hr h => ?_)
  · obtain ⟨t, z, a, b, n, rfl, _⟩ := h
    rfl
  · obtain ⟨t, z, a, b, n, rfl, ht, hz, q⟩ := h
    refine ⟨_, (pss_cons (ps_if (PW.pt (pw_or (pt_cmpR op_ne (pe_callB call_lenQ (by rfl) B.len PySem.boot_len (pa_cons (pv 0) pa_nil)) pe_int (nomark _)) (pw_or (pt_not (pt_val (pe_call G_Up (hr.mono (by decide)) (by rfl) g_Up k_Up b_Up .nil pass0 (pa_cons (pe_ix ix_tup (pv 0) pe_int (fun _ _ => rfl)) (pa_cons (pe_op op_sub (pv 1) pe_int) pa_nil))))) (pw_or1 (pt_not (pt_val (pe_call G_Up (hr.mono (by decide)) (by rfl) g_Up k_Up b_Up .nil pass0 (pa_cons (pe_ix ix_tup (pv 0) pe_int (fun _ _ => rfl)) (pa_cons (pe_op op_sub (pv 1) pe_int) pa_nil))))))))) (pss_one (ps_ret pe_bl)) pss_nil) (pss_one (ps_ret (pe_and (pe_callB call_isi (by rfl) B.isinstance (by decide +kernel) (pa_cons (pe_ix ix_tup (pv 0) pe_int (fun _ _ => rfl)) (pa_cons (pe_bltn (v := .ty "str") (by rfl) B.str (by decide +kernel) rfl) pa_nil))) (pe_and (pe_cmpR op_eq (pe_callB call_lenS (by rfl) B.len PySem.boot_len (pa_cons (pe_ix ix_tup (pv 0) pe_int (fun _ _ => rfl)) pa_nil)) pe_int (nomark _)) (pe_one (pe_cmpR op_inSg (pe_ix ix_tup (pv 0) pe_int (fun _ _ => rfl)) (pe_gS (by rfl) C_LETTERS) rfl))))))), ?_⟩
    unfold isMv at q
    walk_at "go"
    refine w_orN2 (fun z => absurd rfl z) fun _ => ?_
    walk_at "go"
    refine ⟨_, _, rfl, trivial, ?_⟩
    rw [upB_int]
    cases e1 : (decide (0 ≤ a) && decide (a ≤ n - 1)) with
    | false =>
      rw [e1] at q
      walk_at "go"
      exact q
    | true =>
      rw [e1] at q
      walk_at "go"
      refine ⟨_, _, rfl, trivial, ?_⟩
      rw [upB_int]
      cases e2 : (decide (0 ≤ b) && decide (b ≤ n - 1)) with
      | false =>
        rw [e2] at q
        walk_at "go"
        exact q
      | true =>
        rw [e2] at q
        walk_at "go"
        refine w_lenS (line_of (by omega)) ?_
        walk_at "go"
        have hl : z.length = (tl z).length := len_tl z
        refine w_andV2 (fun h1 => ?_) (fun h1 => ?_)
        · obtain ⟨c, hc⟩ : ∃ c, tl z = [c] := List.length_eq_one_iff.mp (by omega)
          have ez : z = one c := ext_tl hc
          subst ez
          walk_at "go"
          have q : Q (.bl (decide (97 ≤ c ∧ c ≤ 104))) H := q
          rw [show decide (c ∈ (Str.ofString "abcdefgh").cps.toList) = decide (97 ≤ c ∧ c ≤ 104) from decide_eq_decide.mpr in_small]
          exact q
        · have e3 : (match tl z with | [c] => decide (97 ≤ c ∧ c ≤ 104) | _ => false) = false := by
            cases e4 : tl z with
            | nil => rfl
            | cons c r =>
              cases r with
              | nil => rw [e4] at hl; exact absurd (by rw [hl]; rfl) h1
              | cons d r => rfl
          rw [e3] at q
          exact q
/-! ### leads_by, where it refuses -/
variable {CB fB : Addr} {fdB : FuncData}
def spLbX (CB : Addr) : Sp := fun vs H Q E => ∃ (n : Int) (a : Addr) (us : List V) (j : Nat), vs = [.int n, .ref a] ∧ H a = some (.lst us) ∧ BadAt H n us j ∧
  ∀ (d : Addr) (H' : Hp), H d = none → H' d = some (.xd [(("word" : Str), .str (Str.ofString "badworld"))]) → Same H H' → E (.ref CB) (some d) H'
theorem isMv_of {n : Int} {c : Nat} {s e : Int} (h : isMv n (one c) s e = true) : 97 ≤ c ∧ c ≤ 104 ∧ 0 ≤ s ∧ s < n ∧ 0 ≤ e ∧ e < n := by
  unfold isMv at h
  rw [show tl (one c) = [c] from rfl] at h
  simp only [Bool.and_eq_true, decide_eq_true_eq] at h
  omega
theorem isMv_one {n : Int} {z : Str} {s e : Int} (h : isMv n z s e = true) : ∃ c, z = one c := by
  unfold isMv at h
  cases e4 : tl z with
  | nil => rw [e4] at h; simp at h
  | cons c r =>
    cases r with
    | nil => exact ⟨c, ext_tl e4⟩
    | cons d r => rw [e4] at h; simp at h
theorem isMv_ok {n : Int} {m : Mv} (h : 97 ≤ m.1 ∧ m.1 ≤ 104 ∧ 0 ≤ m.2.1 ∧ m.2.1 < n ∧ 0 ≤ m.2.2 ∧ m.2.2 < n) : isMv n (one m.1) m.2.1 m.2.2 = true := by
  unfold isMv
  rw [show tl (one m.1) = [m.1] from rfl]
  simp only [Bool.and_eq_true, decide_eq_true_eq]
  omega
theorem lk_some {l : List (Int × Int)} {x : Int} (h : ∃ p ∈ l, p.1 = x) : (lk l x).isSome = true := by
  cases e : lk l x with
  | some y => rfl
  | none =>
    unfold lk at e
    rw [Option.map_eq_none_iff, List.find?_eq_none] at e
    obtain ⟨p, hp, hx⟩ := h
    exact absurd (decide_eq_true hx) (e p hp)
theorem has_lbX (F : FnAt K mg "leads_by" s_leads_by ["many", "moves"]) (B : Blt mg) (h_Im : Has P w K mg base 2 "is_move" ["move", "many"] spImG) {t1 : Tok} (C_SIGNS : mg "SIGNS" = some (.str (Str.ofString "aAbBcCdDeEfFgGhH") t1))
    (T_BadWorld : EC K mg "BadWorld" CB fB) (G_BadWorld : FnOk P w K mg base CX0 2 fB fdB ["self"] (spEx K (Str.ofString "badworld"))) (b_BadWorld : Binds K fdB ["self"] []) : ∃ (f : Addr) (fd : FuncData), mg "leads_by" = some (.ref f) ∧ PySem.W.keepIn K (.ref f) = true ∧ Binds K fd ["many", "moves"] [] ∧ FnOk P w K mg base (L2.CX P w) 4 f fd ["many", "moves"] (spLbX CB) := by
  obtain ⟨f, fd, g, F, bb⟩ := F
  refine ⟨f, fd, g, F.kp, bb, ?_⟩
  obtain ⟨f_Im, fd_Im, g_Im, k_Im, b_Im, G_Im⟩ := h_Im
  refine F.okX sc_lb (fun vs H Q E h => ?_) (fun cdv A outer s H vs Q E hr h => ?_)
  · obtain ⟨n, a, us, j, rfl, _⟩ := h
    rfl
  · obtain ⟨n, a, us, j, rfl, ha, hbad, q⟩ := h
    obtain ⟨ms, t0, z0, s0, e0, hm, ok, hlen, hu0, ht0, hz0, hb0⟩ := hbad.ex
    refine ⟨_, (pss_cons (ps_setDc (i := 3) (own := [("sign", 2)]) (g := gName 2) (tt := tYes) (by rfl) sc_lb.nd rfl rfl (swD_true rfl rfl rfl (by decide +kernel)) (pi_str (pe_gS (by rfl) C_SIGNS)) (blkOk_by (own := [("sign", 2)]) (N := ["many", "moves", "sign", "leads", "move", "letter", "start", "end"]) (sc := defScope s_leads_by) (by decide +kernel)) (fun _ _ _ _ _ => pg_name (i := 2) sc_lb.nd rfl (.inl rfl)) (fun _ _ _ _ _ => pts_nil) (fun _ _ _ _ _ => (pv 2)) (fun _ _ _ _ _ => pe_dnewK)) (pss_cons (ps_for (passes_of rfl) rfl (pi_list (pv 1)) (pg_name (i := 4) sc_lb.nd rfl (.inl rfl)) (pss_cons (ps_if (pt_not (pt_val (pe_call G_Im (hr.mono (by decide)) (by rfl) g_Im k_Im b_Im .nil pass0 (pa_cons (pv 4) (pa_cons (pv 0) pa_nil))))) (pss_one (ps_raise rfl (takes_of rfl rfl rfl rfl) (pmk_oex0 T_BadWorld.ox T_BadWorld.iC T_BadWorld.tI G_BadWorld (hr.mono (by decide)) b_BadWorld pass0 (by rfl) T_BadWorld.gC))) pss_nil) (pss_cons (ps_asg (pv 4) (pg_tup rfl (pgs_cons (pg_name (i := 5) sc_lb.nd rfl (.inl rfl)) (pgs_cons (pg_name (i := 6) sc_lb.nd rfl (.inl rfl)) (pgs_cons (pg_name (i := 7) sc_lb.nd rfl (.inl rfl)) pgs_nil))))) (pss_cons (ps_if (PW.pt (pw_or (pt_cmp (pc_din (hu_of hr) (pv 6) (pe_dget (hu_of hr) (pv 3) (pv 5) (fun _ _ => rfl)))) (pw_or1 (pt_cmp (pc_din (hu_of hr) (pv 7) (pe_dget (hu_of hr) (pv 3) (pe_m0 PySem.F.slot_str_upper PySem.F.type_str_upper mt_upN (pv 5)) (fun _ _ => rfl))))))) (pss_one (ps_raise rfl (takes_of rfl rfl rfl rfl) (pmk_oex0 T_BadWorld.ox T_BadWorld.iC T_BadWorld.tI G_BadWorld (hr.mono (by decide)) b_BadWorld pass0 (by rfl) T_BadWorld.gC))) pss_nil) (pss_cons (ps_dput (hu_of hr) (pe_dget (hu_of hr) (pv 3) (pv 5) (fun _ _ => rfl)) (pv 6) (pv 7) rfl) (pss_one (ps_dput (hu_of hr) (pe_dget (hu_of hr) (pv 3) (pe_m0 PySem.F.slot_str_upper PySem.F.type_str_upper mt_upN (pv 5)) (fun _ _ => rfl)) (pv 7) (pv 6) rfl))))))) (pss_one (ps_ret (pv 3))))), ?_⟩
    walk_at "go"
    refine w_dcS (fun p i H1 => ∃ d, LdIn H H1 p d (sgs.take i) fun _ => []) (fun p H1 hp nw => ⟨fun _ => 0, hp, fun c hc => absurd hc (by simp), nw.same, nw.nn, fun c hc => absurd hc (by simp), fun c hc => absurd hc (by simp), fun c hc => absurd hc (by simp)⟩) ?_ ?_
    · rintro p i c H1 hc ⟨d, hI⟩
      have hc' : sgs[i]? = some c := by rw [← hc]; exact congrArg (·[i]?) tl_signs.symm
      have hnd : c ∉ sgs.take i := fun z => by
        have := take_snoc hc' ▸ (sgs_nd.sublist (List.take_sublist (i + 1) sgs))
        rw [List.nodup_append] at this
        exact this.2.2 c z c (List.mem_singleton.mpr rfl) rfl
      walk_at "go"
      refine w_dnewK (fun q H2 hq nq => ?_)
      refine w_kItDS (nq.at hI.hd) (by rw [leV, List.length_map, List.length_take]; exact Nat.lt_of_le_of_lt (Nat.min_le_right _ _) (by decide)) (fun H3 h3 o3 => ?_)
      have hin : ∀ e ∈ sgs.take (i + 1), e = c ∨ (e ≠ c ∧ e ∈ sgs.take i) := fun e he => by
        by_cases z : e = c
        · exact .inl z
        · rw [take_snoc hc', List.mem_append] at he
          exact .inr ⟨z, he.resolve_right fun y => z (List.mem_singleton.mp y)⟩
      refine ⟨fun e => if e = c then q else d e, ?_, fun e he => ?_, (hI.sm.nw nq).off o3 hI.nl, hI.nl, fun e he => ?_, fun e he => ?_, fun e he f hf z => ?_⟩
      · unfold leV at h3 ⊢
        rw [h3, putK_new _ (val_sgs_none hnd), take_snoc hc', List.map_append]
        refine congrArg some (congrArg HO.dK ?_)
        refine congr (congrArg _ (List.map_congr_left fun e he => ?_)) ?_
        · show _ = (Sum.inr (one e), V.ref (if e = c then q else d e))
          rw [if_neg (show ¬ e = c from fun z => hnd (z ▸ he))]
        · show _ = [((Sum.inr (one c) : Key), V.ref (if c = c then q else d c))]
          rw [if_pos rfl]
      · rcases hin e he with rfl | ⟨z, hz⟩
        · rw [if_pos rfl]
          exact o3.at (Nw.ne nq hI.hd).symm hq
        · rw [if_neg z]
          exact o3.at (hI.ne e hz) (nq.at (hI.hc e hz))
      · rcases hin e he with rfl | ⟨z, hz⟩
        · rw [if_pos rfl]
          exact hI.sm.free nq.nn
        · rw [if_neg z]
          exact hI.nd e hz
      · rcases hin e he with rfl | ⟨z, hz⟩
        · rw [if_pos rfl]
          exact (Nw.ne nq hI.hd).symm
        · rw [if_neg z]
          exact hI.ne e hz
      · rcases hin e he with rfl | ⟨ze, hze⟩
        · rcases hin f hf with rfl | ⟨zf, hzf⟩
          · rfl
          · rw [if_pos rfl, if_neg zf] at z
            exact absurd z.symm (Nw.ne nq (hI.hc f hzf))
        · rcases hin f hf with rfl | ⟨zf, hzf⟩
          · rw [if_neg ze, if_pos rfl] at z
            exact absurd z (Nw.ne nq (hI.hc e hze))
          · rw [if_neg ze, if_neg zf] at z
            exact hI.inj e hze f hzf z
    · rintro ld H1 ⟨d, hI⟩
      have hI : LdIn H H1 ld d sgs fun _ => [] := by
        have e : sgs.take (tl (Str.ofString "aAbBcCdDeEfFgGhH")).length = sgs := by
          rw [show tl (Str.ofString "aAbBcCdDeEfFgGhH") = sgs from tl_signs]
          exact List.take_length
        rw [e] at hI
        exact hI
      have ha1 := hI.sm _ _ ha
      walk_at "go"
      have hj : j < us.length := (List.getElem?_eq_some_iff.mp hu0).1
      have hjm : ms.length = j := by
        have := Paired.length hm
        rw [List.length_take] at this
        omega
      refine w_list (xs := us) (fun i σ H2 => i ≤ j ∧ ∃ (y2 y4 y5 y6 y7 : Option V), σ = [some (.int n), some (.ref a), y2, some (.ref ld), y4, y5, y6, y7] ∧ LdIn H H2 ld d sgs (LM (ms.take i)))
        ⟨Nat.zero_le _, none, none, none, none, none, rfl, hI.cong fun c _ => by rw [List.take_zero]; rfl⟩ (fun i σ H2 _ ⟨_, _, _, _, _, _, _, h⟩ => h.sm _ _ ha) ?_ (fun σ H2 ⟨h, _⟩ => absurd h (by omega))
      rintro i v σ H2 hv ⟨hij, y2, y4, y5, y6, y7, rfl, hJ⟩
      have len0 : ∀ c, (kvI (LM (ms.take i) c)).length < sizeLine := fun c => by
        rw [kvI_len]
        exact lineLt_of (Nat.le_trans (LM_len _ _) (Nat.le_trans (by rw [List.length_take]; exact Nat.min_le_right _ _) hlen))
      by_cases hlt : i < j
      · obtain ⟨m, hmi, t, rfl, ht⟩ := paired_get hm (show (us.take j)[i]? = some v by rw [List.getElem?_take, if_pos hlt]; exact hv)
        have ht2 := hJ.sm _ _ ht
        have hok : WOk n (ms.take i ++ [m]) := by rw [← take_snoc hmi]; exact ok.take _
        have hr' := hok.rg m (List.mem_append_right _ (List.mem_singleton.mpr rfl))
        have hsm := small_sgs ⟨hr'.1, hr'.2.1⟩
        have hgr := great_sgs ⟨hr'.1, hr'.2.1⟩
        have e1 := new_start hok
        have e2 := new_end hok
        have hne : m.1 - 32 ≠ m.1 := by omega
        walk_at "go"
        refine ⟨t, _, _, _, n, rfl, ht2, by rw [len_one]; decide, ?_⟩
        rw [isMv_ok hr']
        walk_at "go"
        refine w_kDGetS hJ.hd (val_sgs hsm) ?_
        have hd1 := hJ.hc _ hsm
        have hd2 := hJ.hc _ hgr
        walk_at "go"
        rw [val_kvI, e1]
        refine w_orF ?_
        walk_at "go"
        refine w_up1 ⟨hr'.1, hr'.2.1⟩ ?_
        refine w_kDGetS hJ.hd (val_sgs hgr) ?_
        walk_at "go"
        rw [val_kvI, e2]
        refine w_ifF ?_
        walk_at "go"
        refine w_kDGetS hJ.hd (val_sgs hsm) ?_
        walk_at "go"
        refine w_kDPutI hd1 (len0 _) (fun H3 h3 o3 => ?_)
        have hJ3 := hJ.put hsm e1 h3 o3
        walk_at "go"
        refine w_up1 ⟨hr'.1, hr'.2.1⟩ ?_
        refine w_kDGetS hJ3.hd (val_sgs hgr) ?_
        walk_at "go"
        have hd3 := hJ3.hc _ hgr
        rw [if_neg hne] at hd3
        refine w_kDPutI hd3 (len0 _) (fun H4 h4 o4 => ?_)
        have hJ4 := hJ3.put hgr (by rw [if_neg hne]; exact e2) (by rw [if_neg hne]; exact h4) o4
        walk_at "go"
        refine ⟨hlt, _, _, _, _, _, rfl, hJ4.cong fun c _ => ?_⟩
        rw [take_snoc hmi, LM_snoc]
        by_cases z1 : c = m.1 - 32
        · subst z1
          rw [if_pos rfl, if_neg hne, mvOn_great hr'.1]
          rfl
        · rw [if_neg z1]
          by_cases z2 : c = m.1
          · subst z2
            rw [if_pos rfl, mvOn_self]
            rfl
          · rw [if_neg z2, mvOn_other z2 z1 hr'.1, Option.toList, List.append_nil]
      · have hij' : i = j := by omega
        subst hij'
        rw [hu0] at hv
        cases hv
        have ht2 := hJ.sm _ _ ht0
        rw [← hjm, List.take_length] at hJ
        have fin : ∀ (σ : L2.St) (H' : Hp), Same H H' → tMkO CB (spEx K (Str.ofString "badworld")) [] tNil σ H' (fun cls d H'' => E cls d H'') := fun σ H' s' => w_mkO T_BadWorld fun d H'' nd hd s'' => q d H'' (s'.free nd) hd (s'.trans s'')
        walk_at "go"
        refine ⟨t0, _, _, _, n, rfl, ht2, hz0, ?_⟩
        cases e3 : isMv n z0 s0 e0 with
        | false =>
          walk_at "go"
          exact fin _ _ hJ.sm
        | true =>
          obtain ⟨c, rfl⟩ := isMv_one e3
          have hr' := isMv_of e3
          obtain ⟨m, hmm, hmc, hse⟩ : ∃ m ∈ ms, m.1 = c ∧ (m.2.1 = s0 ∨ m.2.2 = e0) := by
            rcases hb0 with h | ⟨c', hc', h⟩
            · rw [e3] at h; cases h
            · rw [one_inj hc']; exact h
          have hsm := small_sgs ⟨hr'.1, hr'.2.1⟩
          have hgr := great_sgs ⟨hr'.1, hr'.2.1⟩
          have hd1 := hJ.hc _ hsm
          have hd2 := hJ.hc _ hgr
          walk_at "go"
          refine w_kDGetS hJ.hd (val_sgs hsm) ?_
          walk_at "go"
          rw [val_kvI, Option.isSome_map]
          refine w_orB (fun _ => ?_) (fun h1 => ?_)
          · walk_at "go"
            exact fin _ _ hJ.sm
          · walk_at "go"
            refine w_up1 ⟨hr'.1, hr'.2.1⟩ ?_
            refine w_kDGetS hJ.hd (val_sgs hgr) ?_
            walk_at "go"
            rw [val_kvI, Option.isSome_map]
            have h2 : (lk (LM ms (c - 32)) e0).isSome = true := by
              rcases hse with h | h
              · rw [lk_some ⟨(m.2.1, m.2.2), LM_mem.mpr ⟨m, hmm, .inl ⟨hmc, rfl, rfl⟩⟩, h⟩] at h1
                cases h1
              · exact lk_some ⟨(m.2.2, m.2.1), LM_mem.mpr ⟨m, hmm, .inr ⟨by omega, by omega, rfl, rfl⟩⟩, h⟩
            rw [h2]
            walk_at "go"
            exact fin _ _ hJ.sm
end
end Sf
namespace Sf
open PySem PySem.Spec PyProof.Rows L2 TL
section
variable {P : Program} {w : World} {K : PySem.W.Frag} {mg : Str → Option Value} {base : Heap} {C CB fB : Addr} {fdB : FuncData}
/-! ### World.__init__, where it refuses -/
def xdW (z : Str) : HO := .xd [(("word" : Str), .str z)]
def spWIX (C CB : Addr) : Sp := fun vs H Q E => ∃ (p dx a : Addr) (n : Int) (us : List V), vs = [.ref p, .int n, .ref a] ∧ H p = some (.ins C dx []) ∧ H a = some (.lst us) ∧ ((n ≤ 0 ∨ 1000 < n) ∨ (1 ≤ n ∧ n ≤ 1000 ∧ ∃ j, BadAt H n us j)) ∧
  ∀ (d : Addr) (H' : Hp), H' d = some (xdW (Str.ofString "badworld")) → (∀ b o, H b = some o → b ≠ p → H' b = some o) → E (.ref CB) (some d) H'
theorem upB_false {i m : Int} (h : i < 0 ∨ m < i) : upB (.int i) m = false := by
  show (decide (0 ≤ i) && decide (i ≤ m)) = false
  rcases h with h | h
  · rw [decide_eq_false (show ¬ 0 ≤ i by omega)]; rfl
  · rw [decide_eq_false (show ¬ i ≤ m by omega), Bool.and_false]
theorem has_wiX (F : MAt K C "__init__" "World.__init__" s_World___init__ ["self", "many", "moves"]) (B : Blt mg) (T : WC K mg C) (h_Up : HasUp P w K mg base)
    (h_Lb : ∃ (f : Addr) (fd : FuncData), mg "leads_by" = some (.ref f) ∧ PySem.W.keepIn K (.ref f) = true ∧ Binds K fd ["many", "moves"] [] ∧ FnOk P w K mg base (L2.CX P w) 4 f fd ["many", "moves"] (spLbX CB)) {t1 : Tok} (C_MOST_PLACES : mg "MOST_PLACES" = some (.int 1000 t1))
    (T_BadWorld : EC K mg "BadWorld" CB fB) (G_BadWorld : FnOk P w K mg base CX0 2 fB fdB ["self"] (spEx K (Str.ofString "badworld"))) (b_BadWorld : Binds K fdB ["self"] []) :
    ∃ (f : Addr) (fd : FuncData), Meth K C "__init__" f ∧ Binds K fd ["self", "many", "moves"] [] ∧ FnOk P w K mg base (L2.CX P w) 5 f fd ["self", "many", "moves"] (spWIX C CB) := by
  obtain ⟨f, fd, g, F, bb⟩ := F
  refine ⟨f, fd, g, bb, ?_⟩
  obtain ⟨f_Up, fd_Up, g_Up, k_Up, b_Up, G_Up⟩ := h_Up
  obtain ⟨f_Lb, fd_Lb, g_Lb, k_Lb, b_Lb, G_Lb⟩ := h_Lb
  refine F.okX sc_wi (fun vs H Q E h => ?_) (fun cdv A outer s H vs Q E hr h => ?_)
  · obtain ⟨p, dx, a, n, us, rfl, _⟩ := h
    rfl
  · obtain ⟨p, dx, a, n, us, rfl, hp, ha, hbad, q⟩ := h
    refine ⟨_, (pss_cons (ps_if (PW.pt (pw_or (pt_not (pt_val (pe_call G_Up (hr.mono (by decide)) (by rfl) g_Up k_Up b_Up .nil pass0 (pa_cons (pv 1) (pa_cons (pe_gI (by rfl) C_MOST_PLACES) pa_nil))))) (pw_or1 (pt_cmpR op_eq (pv 1) pe_int (nomark _))))) (pss_one (ps_raise rfl (takes_of rfl rfl rfl rfl) (pmk_oex0 T_BadWorld.ox T_BadWorld.iC T_BadWorld.tI G_BadWorld (hr.mono (by decide)) b_BadWorld pass0 (by rfl) T_BadWorld.gC))) pss_nil) (pss_cons (ps_fld (pv 0) (pe_listRg rfl (by rfl) B.list (prg_1 (by rfl) B.range (pv 1))) rfl) (pss_one (ps_fld (pv 0) (pe_call G_Lb (hr.mono (by decide)) (by rfl) g_Lb k_Lb b_Lb .nil (passes_call (takes_of rfl rfl rfl rfl) (fun _ _ _ _ h => h)) (pa_cons (pv 1) (pa_cons (pv 2) pa_nil))) rfl)))), ?_⟩
    have fin : ∀ (σ : L2.St), tMkO CB (spEx K (Str.ofString "badworld")) [] tNil σ H (fun cls d H'' => E cls d H'') := fun σ => w_mkO T_BadWorld fun d H'' nd hd s'' => q d H'' hd fun b o e _ => s'' _ _ e
    walk_at "go"
    refine ⟨_, _, rfl, trivial, ?_⟩
    rcases hbad with h | ⟨n1, n2, j, hbad⟩
    · by_cases hn : n = 0
      · subst hn
        rw [upB_true (by decide) (by decide)]
        walk_at "go"
        refine w_if2 (fun _ => ?_) fun z => absurd rfl z
        exact fin _
      · rw [upB_false (by omega)]
        walk_at "go"
        exact fin _
    · rw [upB_true (by omega) n2]
      walk_at "go"
      refine w_if2 (fun z => absurd z (by omega)) fun _ => ?_
      walk_at "go"
      refine w_kRgL (.of_le (by decide) (by omega) (by decide) (by omega)) (fun pl H1 hpl npl => ?_)
      walk_at "go"
      refine w_kSFld (npl.at hp) T.cl T.nP (by decide) (fun H2 hp2 o2 => ?_)
      have nep : a ≠ p := ne_of ha hp (by intro z; cases z)
      have t2 : Tps H H2 := fun b xs h => o2.at (ne_of h hp (by intro z; cases z)) (npl.at h)
      walk_at "go"
      refine ⟨n, a, us, j, rfl, o2.at nep (npl.at ha), hbad.tps t2, fun d H3 nd hd s3 => ?_⟩
      exact q d H3 hd fun b o e hb => s3.at (o2.at hb (npl.at e))
/-! ### _law_told_world, where the world is refused -/
def spTw : Sp := fun vs H Q _ => ∃ (n : Int) (a : Addr) (us : List V), vs = [.int n, .ref a] ∧ H a = some (.lst us) ∧ ((n ≤ 0 ∨ 1000 < n) ∨ (1 ≤ n ∧ n ≤ 1000 ∧ ∃ j, BadAt H n us j)) ∧ ∀ H', Same H H' → Q (.str (Str.ofString "badworld")) H'
theorem sc_tw : FnScope ["_law_many", "_law_moves", "e"] ["_law_many", "_law_moves"] (defScope s__law_told_world) := ⟨rfl, rfl, rfl, by decide +kernel, rfl, by decide +kernel, by decide +kernel⟩
theorem has_tw (F : FnAt K mg "_law_told_world" s__law_told_world ["_law_many", "_law_moves"]) (T_World : WC K mg C) (mk : PySem.W.makesIn K C = true) (kc : PySem.W.keepIn K (.ref C) = true)
    (h_WIX : ∃ (f : Addr) (fd : FuncData), Meth K C "__init__" f ∧ Binds K fd ["self", "many", "moves"] [] ∧ FnOk P w K mg base (L2.CX P w) 5 f fd ["self", "many", "moves"] (spWIX C CB)) (T_BadWorld : EC K mg "BadWorld" CB fB) : Has P w K mg base 7 "_law_told_world" ["_law_many", "_law_moves"] spTw := F.has fun F => by
  obtain ⟨f_WIX, fd_WIX, m_WIX, b_WIX, G_WIX⟩ := h_WIX
  have M_WIX : Mk K C f_WIX := ⟨mk, m_WIX.at_, m_WIX.fn, kc⟩
  refine F.ok sc_tw (fun vs H Q E h => ?_) (fun cdv A outer s H vs Q E hr h => ?_)
  · obtain ⟨n, a, us, rfl, _⟩ := h
    rfl
  · obtain ⟨n, a, us, rfl, ha, hbad, q⟩ := h
    refine ⟨_, pss_one (ps_try_as (i := 2) rfl rfl sc_tw.nd rfl rfl ⟨rfl, by decide, .inl T_BadWorld.gC⟩ takes0
      (fun W pn xe tk _ => pss_one (ps_ret (pe_make M_WIX G_WIX (hr.mono (by decide)) (by rfl) T_World.mgC b_WIX .nil (passes_len 3 rfl tk) (pa_cons (pv 0) (pa_cons (pv 1) pa_nil)))))
      (fun a oe cls d pn hz hf => pss_one (ps_ret (pe_xf (C := CB) T_BadWorld.xf T_BadWorld.nw hz hf (pv 2))))), ?_⟩
    show tRet _ _ _ _
    walk_at "go"
    intro x dx nx ndx hne
    have sm : Same H (upd (upd H dx (.own x)) x (.ins C dx [])) := (same_upd ndx).trans (same_upd (by rw [upd_ne hne.symm]; exact nx))
    refine ⟨x, dx, a, n, us, rfl, upd_same, sm.at ha, ?_, fun d H' hd hf => ?_⟩
    · rcases hbad with h | ⟨n1, n2, j, h⟩
      · exact .inl h
      · exact .inr ⟨n1, n2, j, h.tps (.of sm)⟩
    · intro σ hσ
      have hσ : σ.length = 3 := hσ
      match σ, hσ with
      | [s0, s1, s2], _ =>
        refine ⟨true, T_BadWorld.te, fun _ a na => ?_, fun z => nomatch z⟩
        exact ⟨_, rfl, rfl, rfl, d, _, _, rfl, hd, rfl, q _ fun b o e => hf b o (sm _ _ e) (ne_of_none e nx)⟩
end
end Sf
namespace Sf
open PySem PySem.Spec PyProof.Rows L2 TL
/-- a tuple that is known to have no dict -/
def TF (H : Hp) (p : Addr) (xs : List V) : Prop := ∃ o : Obj, H p = some (.frz o (.tup xs)) ∧ o.cls = .type "tuple" ∧ o.dict = none
theorem TF.sq {K : PySem.W.Frag} {H : Hp} {p : Addr} {xs : List V} (h : TF H p xs) : SqT K H p xs := let ⟨o, h, _⟩ := h; .inl (.inr ⟨o, h⟩)
theorem TF.same {H H' : Hp} {p : Addr} {xs : List V} (h : TF H p xs) (s : Same H H') : TF H' p xs := let ⟨o, h, c⟩ := h; ⟨o, s.at h, c⟩
theorem TF.fx {H H' : Hp} {p b : Addr} {xs : List V} (h : TF H p xs) (hb : p ≠ b) (s : Fx b H H') : TF H' p xs := let ⟨o, h, c⟩ := h; ⟨o, s.at hb h, c⟩
/-! ### tuple(list), known -/
def rTupF (K : PySem.W.Frag) : List V → Hp → VK → Prop := fun xs H Q => ∃ p ys, xs = [.ref p] ∧ SqL K H p ys ∧ ∀ l H1, Nw l H H1 → TF H1 l ys → Q (.ref l) H1
theorem call_tupF0 {X : Cx} : CallR X (.type "tuple") (rTupF X.K) := by
  intro pins s σ H xs us Q I r h
  obtain ⟨p, ys, rfl, hq, q⟩ := h
  obtain ⟨u, rfl, rx⟩ := vals1 r
  cases rx
  obtain ⟨its, r', pl, hz⟩ := I.list hq
  have hlen := r'.length
  refine call_tuple_list pl.isList (fun h' kp => ?_) (by simp only [List.size_toArray] <;> omega)
  have I1 : Inv X pins σ H { s with heap := h' } := I.kept (t' := s.toks) kp
  have I2 : Inv X pins σ (upd H h'.objs.size (.frz { cls := .type "tuple", data := .seq its.toArray } (.tup ys))) { s with heap := h'.push { cls := .type "tuple", data := .seq its.toArray } } :=
    I1.laid (t' := s.toks) (fun b o e => Heap.get?_push_of_some _ e) (Nat.le_refl _) (show ObjOk X.prog X.w _ _ _ (.frz _ (.tup ys)) from ⟨Heap.get?_push_size _ rfl, hz, its, r', IsTup.new _ _⟩)
  exact ⟨.ref h'.objs.size, _, I2, rfl, q _ _ (.mk' (I1.hok.fresh (Nat.le_refl _))) ⟨_, upd_same, rfl, rfl⟩⟩
def rTupE (K : PySem.W.Frag) : List V → Hp → VK → Prop := fun xs H Q => rTupOf K xs H Q ∨ rTupF K xs H Q
theorem call_tupF {X : Cx} : CallR X (.type "tuple") (rTupE X.K) := call_tupO.or call_tupF0
section
variable {X : Cx} {σ : L2.St} {H : Hp} {Q : VK} {K : PySem.W.Frag}
/-! ### t.count(x), t a tuple of data -/
def rTCount (K : PySem.W.Frag) : V → List V → Hp → VK → Prop := fun x xs H Q => ∃ (p : Addr) (vs : List V) (ds : List PyData) (y : V) (d : PyData), x = .ref p ∧ xs = [y] ∧ SqT K H p vs ∧ DpAll K H vs ds ∧ Dp K H y d ∧ PyData.plainAll ds = true ∧ d.plain = true ∧ PyData.depthAll ds ≤ 60 ∧
  Q (.int ((ds.countP fun e => PyData.eqv e d : Nat) : Int)) H
theorem mt_tcount (hu : X.A.units + 64 < cLine) : MtR X "tuple.count" (rTCount X.K) := by
  intro pins s σ H x xs v us Q I rx rxs h
  obtain ⟨p, vs, ds, y, d, rfl, rfl, hs, hds, hd, pl, pd, dp, q⟩ := h
  cases rx
  cases rxs with
  | cons ry rt =>
    rename_i uy ut
    cases rt
    obtain ⟨its, rv, ht, hz⟩ := I.tuple hs
    obtain ⟨as, r1⟩ := Dp.readsAll I ds _ its hds rv
    obtain ⟨bs, r2⟩ := Dp.reads I d y uy hd ry
    refine SeqAt.count_tuple_data (vs := its.toArray) (xs := ds) (as := as) (bs := bs) ht (by simpa using r1) r2 pl pd ?_ ⟨.int _, H, I.tok _, ⟨_, rfl⟩, q⟩
    have := Nat.min_le_left (PyData.depthAll ds) d.depth
    omega
def tBT (r : V → List V → Hp → VK → Prop) (to : TE) (t : TA) : TE := fun σ H Q => to σ H fun x H1 => (∃ p xs, x = .ref p ∧ TF H1 p xs) ∧ t σ H1 fun xs H2 => r x xs H2 Q
def kBT (r : V → List V → Hp → VK → Prop) (t : TA) (σ : L2.St) (Q : VK) : VK := fun x H1 => (∃ p xs, x = .ref p ∧ TF H1 p xs) ∧ t σ H1 fun xs H2 => r x xs H2 Q
theorem w_bt {r : V → List V → Hp → VK → Prop} {to : TE} {t : TA} (q : to σ H (kBT r t σ Q)) : tBT r to t σ H Q := q
theorem w_kbt {p : Addr} {xs : List V} {r : V → List V → Hp → VK → Prop} {t : TA} (h : TF H p xs) (q : t σ H fun xs H2 => r (.ref p) xs H2 Q) : kBT r t σ Q (.ref p) H := ⟨⟨p, xs, rfl, h⟩, q⟩
variable {o e : Expr} {es : List Expr} {to : TE} {t : TA} {name : Str} {apos cpos : Pos} {id : String} {r : V → List V → Hp → VK → Prop}
theorem pe_bt (slot : Slot "tuple" name id) (hty : typeOf (.builtin id) = pure (.type "method_descriptor")) (hm : MtR X id r) (ho : PE X o to) (ha : PA X (e :: es) t)
    (hbase : attributeBase o name X.env (eval o X.env) = eval o X.env := by rfl)
    (hfew : ((backTo cpos (starEach (e :: es) X.env)).all (fun x => !x.1) && (backToKw cpos (keywordEach [] X.env)).all (fun x => x.1.isSome)
      && decide ((e :: es).length + ([] : List Keyword).length + (if ([] : List Keyword).isEmpty then 0 else 1) < 30)) = true := by rfl)
    (hline : (apos.endLine == cpos.line) = true := by rfl) (hs : starEach (e :: es) X.env = (false, eval e X.env) :: starEach es X.env := by rfl) (hplain : (backTo cpos (starEach es X.env)).any (·.1) = false := by rfl) :
    PE X (.Call (.Attribute o name apos) (e :: es) [] cpos) (tBT r to t) := by
  refine ⟨fun pins s σ H Q I h => ?_⟩
  refine wpAny_Call_method_late hbase hfew hline rfl (thn (ho.run pins s σ H _ I h) fun v s1 ⟨x, H1, I1, r1, ty, q1⟩ => ?_)
  obtain ⟨p, xs, rfl, ob, hp, hc, hd⟩ := ty
  cases r1
  have hg : s1.heap.get? p = some ob := (show ObjOk X.prog X.w H1 s1.heap p (.frz ob (.tup xs)) from I1.hok p _ hp).1
  refine ⟨"tuple", id, PySem.F.plainAttrs_tuple, slot, hty, ⟨ob, hg, hc⟩, fun a e => by cases e; exact ⟨ob, hg, hd⟩, ?_⟩
  have hA := ha.run cpos pins s1 σ H1 _ I1 q1
  rw [hs] at hA ⊢
  refine Calls.callWith_builtin (by show (false || (backTo cpos (starEach es X.env)).any (·.1)) = false; rw [hplain] <;> rfl) (Calls.evalArgs_plain ?_)
  exact thn hA fun us s2 ⟨vs, H2, I2, r2, q2⟩ => hm pins s2 σ H2 (.ref p) vs (.ref p) us Q I2 rfl r2 q2
/-- what is read of a known tuple -/
theorem w_ixF {p : Addr} {xs : List V} {i : Int} {v : V} (h : TF H p xs) (e : atI xs i = some v) (q : Q v H) : rIxT K (.ref p) (.int i) H Q := ⟨p, xs, i, v, rfl, rfl, h.sq, e, q⟩
theorem w_lenF {p : Addr} {ys : List V} (h : TF H p ys) (q : Q (.int ys.length) H) : rLenSeq K [.ref p] H Q := ⟨p, ys, rfl, .inr h.sq, q⟩
theorem w_kTupIF {a : Addr} {xs : List V} {R : It → Hp → Prop} (h : TF H a xs) (q : R (Itt K a) H) : kTupI K R (.ref a) H := ⟨a, rfl, ⟨xs, h.sq⟩, q⟩
/-- a comprehension over a tuple -/
theorem w_lcTF {a : Addr} {xs : List V} {g : TG} {tt : TT} {te : TE} {vs : List Nat} (Pv : Addr → Nat → Hp → Prop) (h0 : ∀ p H1, H1 p = some (.lst []) → Nw p H H1 → Pv p 0 H1)
    (hl : ∀ p i H, i ≤ xs.length → Pv p i H → TF H a xs) (hs : ∀ p i x H, xs[i]? = some x → Pv p i H → g x (wipe σ vs) H (kEach tt te vs σ p (Pv p (i + 1)))) (hd : ∀ p H, Pv p xs.length H → Q (.ref p) H) : kLc g tt te vs σ Q (Itt K a) H := by
  refine w_lcG (n := xs.length) Pv h0 (fun p i H hi h => ⟨xs, xs[i], (hl p i H (Nat.le_of_lt hi) h).sq, List.getElem?_eq_getElem hi⟩) (fun p H h => ⟨xs, (hl p _ H (Nat.le_refl _) h).sq, Nat.le_refl _⟩) ?_ hd
  rintro p i x H H' hi h ⟨rfl, hx⟩
  exact hs p i x H' (hx xs (hl p i H' (Nat.le_of_lt hi) h).sq) h
end
theorem ix_tupK {X : Cx} {K : PySem.W.Frag} (h : X.K = K) : IxR X (rIxT K) := h ▸ ix_tup
/-! ### a motion as data -/
def dO : Option Int → PyData
  | none => .none
  | some i => .int i
theorem dp_oV {K : PySem.W.Frag} {H : Hp} : ∀ o : Option Int, Dp K H (oV o) (dO o)
  | none => .non
  | some i => .int i
theorem dp_mot {K : PySem.W.Frag} {H : Hp} : ∀ l : List (Option Int), DpAll K H (l.map oV) (l.map dO)
  | [] => .nil
  | o :: l => .cons (dp_oV o) (dp_mot l)
theorem plain_mot : ∀ l : List (Option Int), PyData.plainAll (l.map dO) = true
  | [] => rfl
  | none :: l => by rw [List.map_cons, dO, PyData.plainAll, plain_mot l]; rfl
  | some i :: l => by rw [List.map_cons, dO, PyData.plainAll, plain_mot l]; rfl
theorem depth_mot (l : List (Option Int)) : PyData.depthAll (l.map dO) ≤ 60 := depth_all fun o _ => by cases o <;> (unfold dO; rw [PyData.depth]; omega)
theorem eqv_dO (o : Option Int) (i : Int) : PyData.eqv (dO o) (.int i) = decide (o = some i) := by
  cases o with
  | none => simp [dO, PyData.eqv]
  | some j =>
    by_cases h : j = i
    · subst h; simp [dO, PyData.eqv]
    · have : ¬ (some j = some i) := fun z => h (Option.some.inj z)
      rw [decide_eq_false this]
      simp [dO, PyData.eqv, h]
theorem w_tcount {H : Hp} {Q : VK} {K : PySem.W.Frag} {p : Addr} {l : List (Option Int)} {i : Int} (h : TF H p (l.map oV)) (q : Q (.int ((l.countP fun o => decide (o = some i) : Nat) : Int)) H) : rTCount K (.ref p) [.int i] H Q := by
  refine ⟨p, _, l.map dO, .int i, .int i, rfl, rfl, h.sq, dp_mot l, .int i, plain_mot l, rfl, depth_mot l, ?_⟩
  rw [List.countP_map, show ((fun e => PyData.eqv e (.int i)) ∘ dO) = fun o => decide (o = some i) from funext fun o => eqv_dO o i]
  exact q
end Sf
namespace Sf
open PySem PySem.Spec PyProof.Rows L2 TL
section
variable {P : Program} {w : World} {K : PySem.W.Frag} {mg : Str → Option Value} {base : Heap} {C : Addr}
/-- the motion of a word -/
def motV (L : Nat → List (Int × Int)) (n : Int) (z : Str) : List V := (plc n).map fun x => oV (ledM (stp L) (tl z) x)
theorem flat_oV (o : Option Int) : flat4 (oV o) = true := by cases o <;> rfl
theorem eqv_map {H : Hp} {t t' : Addr} {l : List V} (h : H t = some (.tup l)) (h' : H t' = some (.tup l)) (hf : ∀ x ∈ l, flat4 x = true) (hl : l.length ≤ 100000) {n : Nat} : Eqv H (n + 1) (.ref t) (.ref t') := by
  refine .inr ⟨t, t', l, l, rfl, rfl, .inr ⟨h, h'⟩, rfl, hl, fun j x y hx hy => ?_⟩
  rw [hx] at hy
  cases hy
  exact .flat (hf x (List.mem_of_getElem? hx))
theorem eqv_mot {H : Hp} {t t' : Addr} {L : Nat → List (Int × Int)} {n : Int} {z : Str} (h : H t = some (.tup (motV L n z))) (h' : H t' = some (.tup (motV L n z))) (hn : n ≤ 1000) {k : Nat} : Eqv H (k + 1) (.ref t) (.ref t') := by
  refine eqv_map h h' (fun x hx => ?_) ?_
  · obtain ⟨y, _, rfl⟩ := List.mem_map.mp hx
    exact flat_oV _
  · unfold motV
    rw [List.length_map, plc_len]
    omega
/-! ### World.motion -/
def spMo (C : Addr) : Sp := fun vs H Q _ => ∃ (p : Addr) (n : Int) (L : Nat → List (Int × Int)) (z : Str), vs = [.ref p, .str z] ∧ WAt C H p n L ∧ Wd z ∧ z.length ≤ 60 ∧ n ≤ 1000 ∧
  ((∀ (t : Addr) (H' : Hp), H t = none → Same H H' → H' t = some (.tup (motV L n z)) → Q (.ref t) H') ∨ (∀ (t : Addr) (H' : Hp), H t = none → Same H H' → TF H' t (motV L n z) → Q (.ref t) H'))
theorem sc_mo : FnScope ["self", "word", "place"] ["self", "word"] (defScope s_World_motion) := ⟨rfl, rfl, rfl, by decide +kernel, rfl, by decide +kernel, by decide +kernel⟩
theorem has_mo (F : MAt K C "motion" "World.motion" s_World_motion ["self", "word"]) (B : Blt mg) (T_World : WC K mg C) (h_Ne : HasNeed P w K mg base) (h_Led : HasM P w K mg base C 1 "led" ["self", "word", "place"] (spLed C)) : HasM P w K mg base C 3 "motion" ["self", "word"] (spMo C) := F.has fun F => by
  obtain ⟨f_Ne, fd_Ne, g_Ne, k_Ne, b_Ne, G_Ne⟩ := h_Ne
  obtain ⟨f_Led, fd_Led, m_Led, b_Led, G_Led⟩ := h_Led
  refine F.ok sc_mo (fun vs H Q E h => ?_) (fun cdv A outer s H vs Q E hr h => ?_)
  · obtain ⟨p, n, L, z, rfl, _⟩ := h
    rfl
  · obtain ⟨p, n, L, z, rfl, hW, hz, hzl, hn, q⟩ := h
    refine ⟨_, (pss_cons (ps_expr (pe_call G_Ne (hr.mono (by decide)) (by rfl) g_Ne k_Ne b_Ne .nil pass0 (pa_cons (pv 1) pa_nil))) (pss_one (ps_ret (pe_callTy call_tupF (by rfl) B.tuple (by decide +kernel) (pa_cons (pe_lc (own := [("place", 2)]) (g := gName 2) (tt := tYes) (by rfl) sc_mo.nd (pi_list (pe_fld (pv 0) rfl)) (blkOk_by (own := [("place", 2)]) (N := ["self", "word", "place"]) (sc := defScope s_World_motion) (by decide +kernel)) (fun _ _ _ _ _ => pg_name (i := 2) sc_mo.nd rfl (.inl rfl)) (fun _ _ _ _ _ => pts_nil) (fun _ _ _ _ _ => (pe_meth (pv 0) T_World.cl m_Led G_Led (hr.mono (by decide)) b_Led .nil pass0 (pa_cons (pv 1) (pa_cons (pv 2) pa_nil))))) pa_nil))))), ?_⟩
    have hW0 := hW
    obtain ⟨dx, pl, ld, d, hp, hpl, hL⟩ := hW0
    rw [rgV_plc] at hpl
    walk_at "go"
    refine ⟨z, rfl, hz, hzl, fun H1 s1 => ?_⟩
    have hp1 := s1.at hp
    have hpl1 := s1.at hpl
    walk_at "go"
    refine w_kFld hp1 T_World.cl T_World.nP (wf_places _ _) ?_
    walk_at "go"
    refine w_lcL (xs := (plc n).map V.int) (fun r i H2 => Same H1 H2 ∧ H1 r = none ∧ H2 r = some (.lst (((plc n).take i).map fun x => oV (ledM (stp L) (tl z) x)))) (fun r H2 hr nr => ⟨nr.same, nr.nn, hr⟩) (fun r i H2 _ h => h.1.at hpl1) ?_ ?_
    · rintro r i v H2 hv ⟨s2, nr, hr2⟩
      obtain ⟨x, hx, rfl⟩ : ∃ x, (plc n)[i]? = some x ∧ V.int x = v := by
        rw [List.getElem?_map, Option.map_eq_some_iff] at hv
        exact hv
      walk_at "go"
      refine w_kMeth (s2.at hp1) (wf_no _ _ (by decide +kernel) (by decide +kernel)) ?_
      walk_at "go"
      refine ⟨p, n, x, L, z, rfl, (hW.same s1).same s2, hz, ?_⟩
      refine w_kIt hr2 ?_ (fun H3 h3 o3 => ⟨s2.off o3 nr, nr, ?_⟩)
      · rw [List.length_map, List.length_take, plc_len]
        exact lineLt_of (by omega)
      · rw [h3, take_snoc hx, List.map_append]
        rfl
    · rintro r H2 ⟨s2, nr, hr2⟩
      rw [List.length_map, List.take_length] at hr2
      walk_at "go"
      rcases q with q | q
      · refine .inl (w_tupL hr2 (fun t H3 ht3 nt3 => ?_))
        exact q t H3 ((s1.trans s2).free nt3.nn) ((s1.trans s2).nw nt3) ht3
      · refine .inr ⟨r, _, rfl, SqL.of hr2, fun t H3 nt3 ht3 => ?_⟩
        exact q t H3 ((s1.trans s2).free nt3.nn) ((s1.trans s2).nw nt3) ht3
end
end Sf
namespace Sf
open PySem PySem.Spec PyProof.Rows L2 TL
/-! ### sorted of data, and of a dict's keys by key=, a def that keeps its promise -/
section
variable {X : Cx} {pins : List (Addr × Obj)} {σ : L2.St} {H : Hp} {s : Shared}
theorem each_vals {β : Type} {vof : β → V} : ∀ {us : List Value} {bs : List β}, PySem.W.EachIs (fun u b => RelV (vof b) u) us bs → Vals (bs.map vof) us
  | _, _, .nil => .nil
  | _, _, .cons h t => .cons h (each_vals t)
theorem vals_each {β : Type} {vof : β → V} : ∀ {us : List Value} {bs : List β}, Vals (bs.map vof) us → PySem.W.EachIs (fun u b => RelV (vof b) u) us bs
  | [], [], _ => .nil
  | u :: us, b :: bs, h => by
    rw [List.map_cons] at h
    cases h with
    | cons h1 h2 => exact .cons h1 (vals_each h2)
  | [], b :: bs, h => by
    rw [List.map_cons] at h
    cases h
  | u :: us, [], h => by
    rw [List.map_nil] at h
    cases h
/-- sorted(l) of data -/
theorem call_sortedData {β : Type} (vof : β → V) (enc : β → PyData) (hu : X.A.units + 64 < cLine) : CallR X (.builtin "sorted") (fun xs H Q => ∃ (a : Addr) (bs : List β), xs = [.ref a] ∧ SqL X.K H a (bs.map vof) ∧ (∀ b ∈ bs, Dp X.K H (vof b) (enc b)) ∧
    PySem.W.AllAlike (bs.map enc) ∧ PySem.W.Sortable (bs.map enc) ∧ (∀ b ∈ bs, (enc b).depth ≤ 60) ∧ ∀ p, H p = none → Q (.ref p) (upd H p (.lst ((bs.mergeSort (PySem.W.dataLe false enc)).map vof)))) := by
  intro pins s σ H xs us Q I r h
  obtain ⟨a, bs, rfl, hs, hdp, hal, hso, hdep, q⟩ := h
  rw [Vals.ref1 r]
  obtain ⟨its, rv, hl, hz⟩ := I.list hs
  have hz' := hz
  rw [List.length_map] at hz'
  have e := vals_each rv
  have er : PySem.W.EachIs (fun v b => ∃ as, Reads s.heap v (enc b) as) its bs := (PySem.W.each_mem e).mono fun v b hb => Dp.reads I (enc b) (vof b) v (hdp b hb.2) hb.1
  refine PySem.W.sorted_data hl.isList e er hal hso hz' (fun b hb => by have := hdep b hb; omega) fun out ho eo => ?_
  obtain ⟨ep, he'⟩ := PyProof.Rows.sortedAll_at s.heap its out.toArray
  have rv' := each_vals eo
  have hlen : ((bs.mergeSort (PySem.W.dataLe false enc)).map vof).length ≤ sizeLine := by
    rw [List.length_map, List.length_mergeSort]
    exact hz'
  exact ⟨.ref _, upd H (s.heap.objs.size + 1) (.lst ((bs.mergeSort (PySem.W.dataLe false enc)).map vof)), I.laid (t' := s.toks) (fun _ _ => PyProof.Rows.sortedAll_old) (Nat.le_succ _) ⟨hlen, out, ep, rv', he'⟩, rfl, q _ (I.hok.fresh (Nat.le_succ _))⟩
/-! what was new when the call began -/
structure Newly (X : Cx) (pins : List (Addr × Obj)) (b : Addr) : Prop where
  s0 : X.s_0.heap.objs.size ≤ b
  loc : b ≠ X.env.locals
  cl : ∀ x c, X.env.cells.lookup x = some c → c ≠ b
  fs : b ∉ X.fs
  pn : ∀ p ∈ X.pn ++ pins, p.1 ≠ b
theorem newly_of {b : Addr} (I : Inv X pins σ H s) (h : s.heap.objs.size ≤ b) : Newly X pins b :=
  ⟨Nat.le_trans I.sz h, fun e => absurd (Nat.lt_of_lt_of_le I.lt h) (by rw [e]; exact Nat.lt_irrefl _), fun x c e z => by
    obtain ⟨v, o, ho, _⟩ := I.cell x c e
    rw [z] at ho
    exact absurd (Nat.lt_of_lt_of_le (Heap.lt_size ho) h) (Nat.lt_irrefl _), I.nofs h, fun p hp z => by
    have ho := (I.pin p hp).1
    rw [z] at ho
    exact absurd (Nat.lt_of_lt_of_le (Heap.lt_size ho) h) (Nat.lt_irrefl _)⟩
theorem pin_more {b : Addr} {o : Obj} (I : Inv X pins σ H s) (N : Newly X pins b) (hb : s.heap.get? b = some o) (hn : H b = none) (hc : ∀ v, o.data ≠ .cell v) : Inv X ((b, o) :: pins) σ H s := I.pins_of fun p hp => by
  rcases List.mem_cons.mp hp with rfl | hp
  · exact ⟨hb, hn, N.loc, N.fs, hc⟩
  · exact I.pin p (List.mem_append_right _ hp)
theorem pin_less {p : Addr × Obj} (I : Inv X (p :: pins) σ H s) : Inv X pins σ H s := I.pins_of fun q hq => I.pin q (List.mem_append_right _ (List.mem_cons_of_mem _ hq))
theorem turn_one {b : Addr} {h' : Heap} {t' : Nat} (I : Inv X pins σ H s) (N : Newly X pins b) (hn : H b = none) (k : ∀ c o, c ≠ b → s.heap.get? c = some o → h'.get? c = some o) : Inv X pins σ H { s with heap := h', toks := t' } :=
  I.turned k hn N.loc (.inr N.s0) N.cl N.pn
/-- two records of ours have changed, the one at a is tracked from now on -/
theorem take_in {a b : Addr} {o : HO} {h' : Heap} {t' : Nat} (I : Inv X pins σ H s) (Na : Newly X pins a) (Nb : Newly X pins b) (na : H a = none) (nb : H b = none) (k : ∀ c o, c ≠ a → c ≠ b → s.heap.get? c = some o → h'.get? c = some o)
    (new : ObjOk X.prog X.w (upd H a o) h' a o) : Inv X pins σ (upd H a o) { s with heap := h', toks := t' } := by
  have nea : ∀ c u, H c = some u → c ≠ a := fun c u e => ne_of_none e na
  have neb : ∀ c u, H c = some u → c ≠ b := fun c u e => ne_of_none e nb
  have out : ∀ c, c ∉ [a, b] → c ≠ a ∧ c ≠ b := fun c hc => ⟨fun z => hc (by simp [z]), fun z => hc (by simp [z])⟩
  refine I.step (g' := s.gens) (d' := s.drawn) (ch := [a, b]) (fun c hc => ?_) (fun c o _ _ hc e _ => k c o (out c hc).1 (out c hc).2 e) (fun c o _ _ hc e _ => ⟨o.slots, k c o (out c hc).1 (out c hc).2 e⟩) (fun c _ hc _ n => by rw [upd_ne (out c hc).1]; exact n)
    (fun c o hc e => ⟨o, k c o (out c hc).1 (out c hc).2 e⟩) (fun c _ e => by rw [upd_ne (nea c _ e)]; exact e) (fun c _ _ e => by rw [upd_ne (nea c _ e)]; exact e) (fun c ps e => ⟨#[], by rw [upd_ne (nea c _ e), e]; simp⟩) (fun m hm => ?_) (fun c u e => ?_) I.bare
  · rcases List.mem_cons.mp hc with rfl | hc
    · exact ⟨.inr Na.s0, Na.loc, Na.cl, Na.pn⟩
    · obtain rfl := List.mem_singleton.mp hc
      exact ⟨.inr Nb.s0, Nb.loc, Nb.cl, Nb.pn⟩
  · obtain ⟨o, es, ep, ho, r⟩ := hm
    exact ⟨o, es, ep, k _ o (Ne.symm Na.loc) (Ne.symm Nb.loc) ho, r⟩
  · by_cases hca : c = a
    · subst hca
      rw [upd_same] at e
      cases e
      exact new
    · rw [upd_ne hca] at e
      refine (I.hok c u e).stay (fun d v hd q => ?_) (fun d q => by rw [upd_ne (nea d _ q)]; exact q) fun d xs q => by rw [upd_ne (nea d _ q)]; exact q
      rcases hd with z | z
      · rw [z] at q ⊢
        exact k c v hca (neb c u e) q
      · exact k d v (nea d _ z) (neb d _ z) q
end
section
variable {X : Cx} {pins : List (Addr × Obj)} {σ : L2.St} {H : Hp} {s : Shared} {k : Nat} {f : Addr} {fd : FuncData} {ps : List Str} {sp : Sp}
theorem seq_cell {T : String} {xs : Array Value} {n : Nat} : ∀ v, (seqObj T xs n).data ≠ .cell v := fun v z => by cases z
/-- a key that stays -/
def KeyAt (K : PySem.W.Frag) (H : Hp) (v : V) (d : PyData) : Prop := ∀ H', Same H H' → Dp K H' v d
theorem keys_go {a kS : Addr} {e1 : Nat} {vs : List Value} {xs : List Str} {A : Around} {E : Value → Shared → Prop} {R : PySem.Fin → Shared → Prop} (κ : Str → PyData) (F : FnOk X.prog X.w X.K X.mg X.base CX0 k f fd ps sp) (hb : Binds X.K fd ps []) (hr : Room k A)
    (hA : ∀ {pins : List (Addr × Obj)} {H : Hp} {s : Shared}, Inv X pins σ H s → Env0 X.prog X.w X.K X.mg X.base A X.stack s H) (I : Inv X pins σ H s) (Na : Newly X pins a) (Nk : Newly X pins kS) (hak : a ≠ kS)
    (ok : s.heap.get? kS = some (seqObj "list" #[] 0)) (oa : s.heap.get? a = some (seqObj "list" #[] e1)) (na : H a = none) (nk : H kS = none)
    (hv : PySem.W.EachIs (fun u x => RelV (V.str x) u) vs xs) (hZ : vs.length ≤ sizeLine) (hal : PySem.W.AllAlike (xs.map κ)) (hso : PySem.W.Sortable (xs.map κ)) (hu : ∀ x ∈ xs, A.units + (κ x).depth < cLine)
    (hsp : ∀ x ∈ xs, ∀ (H1 : Hp) (Q : VK), (∀ v H2, Same H1 H2 → KeyAt X.K H2 v (κ x) → Q v H2) → sp [.str x] H1 Q E0)
    (h : ∀ (s' : Shared) (H' : Hp), Same H H' → H' a = some (.lst ((xs.mergeSort (PySem.W.dataLe false κ)).map V.str)) → Inv X pins σ H' s' → R (.done (.ret .none)) s') :
    wpAny (model X.prog X.w) A (ksk_rest a (.ref f) false vs.toArray e1 (.ref kS)) R E s := by
  have hlen : xs.length = vs.length := hv.length.symm
  unfold ksk_rest
  refine wpAny_bind (wpAny_rule ?_)
  first
    | rw [List.forIn_toArray]
    | (rw [← Array.forIn_toList]; simp only [List.toList_toArray])
  refine wpAny_bind (ksk_fold (fun i s1 => ∃ (H1 : Hp) (ks : List V) (kA : Array Value) (e : Nat), Inv X ((kS, seqObj "list" kA e) :: (a, seqObj "list" #[] e1) :: pins) σ H1 s1 ∧ Same H H1 ∧ Vals ks kA.toList ∧ ks.length = i ∧ ∀ (j : Nat) (v : V) (x : Str), ks[j]? = some v → xs[j]? = some x → KeyAt X.K H1 v (κ x)) vs 0 s
    ⟨H, [], #[], 0, ?start, Same.refl _, .nil, rfl, fun j v x z => by simp at z⟩ ?turn ?fin)
  case start =>
    have I1 := pin_more I Na oa na seq_cell
    exact pin_more I1 ⟨Nk.s0, Nk.loc, Nk.cl, Nk.fs, fun p hp => by
      rcases List.mem_append.mp hp with z | z
      · exact Nk.pn p (List.mem_append_left _ z)
      · rcases List.mem_cons.mp z with rfl | z
        · exact hak
        · exact Nk.pn p (List.mem_append_right _ z)⟩ ok nk seq_cell
  case turn =>
    rintro j u s1 hj ⟨H1, ks, kA, e, I1, s01, rk, hk, kx⟩
    simp only [Nat.zero_add] at hk ⊢
    have hjl : j < vs.length := (List.getElem?_eq_some_iff.mp hj).1
    obtain ⟨x, hx⟩ : ∃ x, xs[j]? = some x := ⟨_, List.getElem?_eq_getElem (by omega)⟩
    have hz : (u, x) ∈ vs.zip xs := List.mem_of_getElem? (i := j) (by rw [List.getElem?_zip_eq_some]; exact ⟨hj, hx⟩)
    have ru : RelV (V.str x) u := hv.zip _ hz
    have hxm : x ∈ xs := List.mem_of_getElem? hx
    refine wpAny_bind (wpAny_attempt (wpAny_mono (run_fnA (Er := fun _ _ => False) (vs := [V.str x]) F hr (hA I1) hb I1 (.cons ru .nil) (hsp x hxm H1 (fun v H2 => Same H1 H2 ∧ KeyAt X.K H2 v (κ x)) fun v H2 g1 g2 => ⟨g1, g2⟩)) (fun v2 s2 he => ?_) fun _ _ hF => hF.elim))
    obtain ⟨v, H2, I2, rv, s12, kv⟩ := he
    try dsimp only
    obtain ⟨ok2, nk2, _⟩ := I2.pin _ (List.mem_append_right _ (List.mem_cons_self ..))
    have hka : kA.size = j := by
      rw [← Array.length_toList, ← rk.length]
      exact hk
    obtain ⟨c2, hc2⟩ : ∃ c2, (s2.heap.update kS (Obj.mapSeq (·.push v2))).get? kS = some (seqObj "list" (kA.push v2) c2) := ⟨_, get?_update_seq ok2 (·.push v2)⟩
    have sb := Heap.SameBut.update s2.heap kS (Obj.mapSeq (·.push v2))
    refine wpAny_bind (listUpdate_at ok2 rfl ?_ (by rw [hka]; omega) (by rw [Array.size_push, hka]; omega))
    have I3 := pin_less I2
    have Nk3 : Newly X ((a, seqObj "list" #[] e1) :: pins) kS := ⟨Nk.s0, Nk.loc, Nk.cl, Nk.fs, fun p hp => by
      rcases List.mem_append.mp hp with z | z
      · exact Nk.pn p (List.mem_append_left _ z)
      · rcases List.mem_cons.mp z with rfl | z
        · exact hak
        · exact Nk.pn p (List.mem_append_right _ z)⟩
    have I4 : Inv X ((a, seqObj "list" #[] e1) :: pins) σ H2 { s2 with heap := s2.heap.update kS (Obj.mapSeq (·.push v2)), toks := s2.toks } := turn_one I3 Nk3 nk2 fun c o hc e => (sb.2 c hc).trans e
    refine wpAny_pure ⟨rfl, H2, ks ++ [v], kA.push v2, c2, pin_more I4 Nk3 hc2 nk2 seq_cell, s01.trans s12, ?_, by rw [List.length_append, hk]; rfl, fun i w y hw hy => ?_⟩
    · rw [Array.toList_push]
      exact rk.append (.cons rv .nil)
    · by_cases hij : i < j
      · rw [List.getElem?_append_left (by omega)] at hw
        exact fun H3 s3 => kx i w y hw hy H3 (s12.trans s3)
      · rw [List.getElem?_append_right (by omega)] at hw
        have h0 : i - ks.length = 0 := by
          have := (List.getElem?_eq_some_iff.mp hw).1
          rw [List.length_singleton] at this
          omega
        have hi : i = j := by omega
        rw [h0] at hw
        subst hi
        rw [hx] at hy
        cases hy
        have e9 : v = w := Option.some.inj hw
        rw [← e9]
        exact kv
  case fin =>
    rintro s1 ⟨H1, ks, kA, e, I1, s01, rk, hk, kx⟩
    rw [Nat.zero_add] at hk
    obtain ⟨ok1, nk1, _⟩ := I1.pin _ (List.mem_append_right _ (List.mem_cons_self ..))
    obtain ⟨oa1, na1, _⟩ := I1.pin _ (List.mem_append_right _ (List.mem_cons_of_mem _ (List.mem_cons_self ..)))
    have hsz : kA.size = vs.length := by
      rw [← Array.length_toList, ← rk.length]
      exact hk
    have hks : PySem.W.EachIs (fun u d => ∃ as, Reads s1.heap u d as) kA.toList (xs.map κ) := by
      have all : ∀ (ks : List V) (us : List Value) (zs : List Str), Vals ks us → ks.length = zs.length → (∀ (j : Nat) (v : V) (x : Str), ks[j]? = some v → zs[j]? = some x → KeyAt X.K H1 v (κ x)) → PySem.W.EachIs (fun u d => ∃ as, Reads s1.heap u d as) us (zs.map κ) := by
        intro ks us zs r
        induction r generalizing zs with
        | nil =>
          intro hl _
          cases zs with
          | nil => exact .nil
          | cons z zs => cases hl
        | cons r1 r2 ih =>
          intro hl hk
          cases zs with
          | nil => cases hl
          | cons z zs =>
            rw [List.map_cons]
            exact .cons (Dp.reads I1 _ _ _ (hk 0 _ z rfl rfl H1 (Same.refl _)) r1) (ih zs (by simpa using hl) fun j v x h1 h2 => hk (j + 1) v x (by simpa using h1) (by simpa using h2))
      exact all ks _ xs rk (by omega) kx
    have hud : ∀ d ∈ xs.map κ, A.units + d.depth < cLine := fun d hd => by
      obtain ⟨x, hx, rfl⟩ := List.mem_map.mp hd
      exact hu x hx
    try dsimp only
    refine wpAny_bind (listItems_at ok1 rfl ?_)
    refine PySem.W.keyH_end (κ := PySem.W.dataKind s1.heap (xs.map κ)) (h₁ := s1.heap.hide kS) (fun c o hc e => Heap.of_hide e) (Heap.hide_self _ _) ok1 oa1 (Ne.symm hak) (PySem.W.SortsAt.data hks hal hso hud) hsz hZ fun h3 tk3 c3 kp n3 => ?_
    have I2 := pin_less (pin_less I1)
    have eo := PySem.W.keyedOut_each (rev := false) κ ⟨s1.heap, kA.toList, hal, rfl, hks⟩ hv
    have hl3 : ((xs.mergeSort (PySem.W.dataLe false κ)).map V.str).length ≤ sizeLine := by
      rw [List.length_map, List.length_mergeSort, hlen]
      exact hZ
    refine h _ _ (fun b o hb => ?_) upd_same (take_in (t' := tk3) (o := .lst ((xs.mergeSort (PySem.W.dataLe false κ)).map V.str)) I2 Na Nk na1 nk1 (fun c o h1 h2 e => kp c o h1 (by rw [Heap.hide_ne _ h2]; exact e)) ⟨hl3, _, c3, each_vals (vof := V.str) eo, n3⟩)
    rw [upd_ne (ne_of_none hb na)]
    exact s01 b o hb
/-- sorted(d, key=f) of a dict whose keys are texts -/
theorem call_sortedDK (hcalm : X.calm = true) (κ : Str → PyData) (F : FnOk X.prog X.w X.K X.mg X.base CX0 k f fd ps sp) (hb : Binds X.K fd ps []) (hr : Room (k + 2) X.A) : CallRK X (.builtin "sorted") [Str.ofString "key"] (fun vs zs H Q => ∃ (a : Addr) (kvs : List (Key × V)) (xs : List Str), vs = [.ref a] ∧ zs = [.ref f] ∧ Rd H a (.dK kvs) ∧ kvs.map (·.1) = xs.map Sum.inr ∧
    PySem.W.AllAlike (xs.map κ) ∧ PySem.W.Sortable (xs.map κ) ∧ (∀ x ∈ xs, (κ x).depth ≤ 60) ∧ (∀ x ∈ xs, ∀ (H1 : Hp) (Q : VK), (∀ v H2, Same H1 H2 → KeyAt X.K H2 v (κ x) → Q v H2) → sp [.str x] H1 Q E0) ∧
    ∀ p H', H p = none → Same H H' → H' p = some (.lst ((xs.mergeSort (PySem.W.dataLe false κ)).map V.str)) → Q (.ref p) H') := by
  intro pins s σ H vs zs us ws Q I r rz q
  obtain ⟨a, kvs, xs, rfl, rfl, hd, hks, hal, hso, hdep, hsp, q⟩ := q
  obtain rfl := Vals.ref1 r
  obtain ⟨w1, rfl, e1⟩ := vals1 rz
  cases e1
  obtain ⟨z, lo, ds, rel, dd⟩ := dk_rd I.hok hd
  obtain ⟨ep, hat⟩ := dd.dictAt
  have hkeys : ds.map (·.1) = xs.map Sum.inr := rel.keys.symm.trans hks
  have hl : ds.length = xs.length := by
    have e := congrArg List.length hkeys
    rw [List.length_map, List.length_map] at e
    exact e
  have hz : ds.length ≤ sizeLine := by rw [← rel.length]; exact z
  show wpAny _ _ (call (.builtin "sorted") [.ref a] [(Str.ofString "key", .ref f)]) _ _ _
  refine call_function_entry_kw kind_sorted plain_sorted entry_sorted (ksk_s1 _ _) ?_
  unfold Builtin.«sorted»
  refine wpAny_bind (m := checkCount "sorted" 1 1 _) (wpAny_pure ?_)
  refine wpAny_bind (PySem.W.kdu_collect (A := X.A.in1) (PySem.W.kdl_dict (knd := mixKind X.prog X.w) (kvs := ds) (ep := ep) lo) (I.ok.hd hcalm) hat hz fun h1 tk acc hk1 hacc => ?_)
  have hsz : acc.toList.length = xs.length := by rw [Array.length_toList, hacc.1, hl]
  have hS : PySem.W.EachIs (fun u x => RelV (V.str x) u) acc.toList xs := by
    have hS : StrsAre acc.toList xs := strs_at hsz fun j v e => by
      obtain ⟨k, x, e1, e2⟩ := hacc.2 j v (by rw [← Array.getElem?_toList]; exact e)
      have e3 : (ds.map (·.1))[j]? = some k := by rw [List.getElem?_map, e1]; all_goals rfl
      rw [hkeys, List.getElem?_map] at e3
      cases e4 : xs[j]? with
      | none => rw [e4] at e3; cases e3
      | some y =>
        rw [e4] at e3
        have e5 : Sum.inr y = k := Option.some.inj e3
        subst e5
        obtain ⟨t, ev⟩ := Value.isStrOf_shape (x := y) (v := v) e2
        exact ⟨y, t, rfl, ev⟩
    exact vals_each (vof := V.str) (vals_of_strs hS)
  have I1 : Inv X pins σ H { s with heap := h1, toks := tk } := I.kept hk1
  refine wpAny_bind (wpAny_newList ?_ (by rw [hsz, ← hl]; exact hz))
  have hoL : (h1.push (seqObj "list" acc.toList.toArray 0)).get? h1.objs.size = some (seqObj "list" acc.toList.toArray 0) := Heap.get?_push_size _ rfl
  show wpAny _ _ _ _ _ { s with heap := h1.push (seqObj "list" acc.toList.toArray 0), toks := tk }
  refine wpAny_bind (wpAny_holding (wpAny_call_entry_kw slot_list_sort ⟨_, hoL, rfl⟩ entry_list_sort ?_ (ksk_l1 _ _)))
  rw [ksk_t1]
  have hZ : acc.toList.length ≤ sizeLine := by rw [hsz, ← hl]; exact hz
  have I2 : Inv X pins σ H { s with heap := h1.push (seqObj "list" acc.toList.toArray 0), toks := tk } := I1.kept fun b u e => Heap.get?_push_of_some _ e
  generalize hA' : h1.objs.size = aL at hoL
  have Na : Newly X pins aL := newly_of I1 (by rw [← hA']; exact Nat.le_refl _)
  have na : H aL = none := I1.hok.fresh (by rw [← hA']; exact Nat.le_refl _)
  generalize hh2 : h1.push (seqObj "list" acc.toList.toArray 0) = h2 at hoL I2
  obtain ⟨e1, ho1⟩ : ∃ e1, (h2.update aL (Obj.mapSeq fun _ => (#[] : Array Value))).get? aL = some (seqObj "list" #[] e1) := ⟨_, get?_update_seq hoL fun _ => #[]⟩
  unfold ksk_tree
  refine wpAny_bind (listItems_at hoL rfl ?_)
  refine wpAny_bind (listUpdate_at hoL rfl ?_ (by rw [List.size_toArray]; exact hZ) (Nat.zero_le _))
  refine wpAny_bind (seqEpoch_at ho1 rfl ?_)
  refine wpAny_bind (wpAny_newTuple ?_ (by show acc.toList.length ≤ _; exact hZ))
  refine wpAny_bind (wpAny_newList ?_ (Nat.zero_le _))
  refine wpAny_holding ?_
  have sb := Heap.SameBut.update h2 aL (Obj.mapSeq fun _ => (#[] : Array Value))
  have I3 : Inv X pins σ H { s with heap := h2.update aL (Obj.mapSeq fun _ => (#[] : Array Value)), toks := tk } := turn_one (s := { s with heap := h2, toks := tk }) I2 Na na fun c o hc e => (sb.2 c hc).trans e
  have I4 : Inv X pins σ H { s with heap := (h2.update aL (Obj.mapSeq fun _ => (#[] : Array Value))).push (seqObj "tuple" acc.toList.toArray 0), toks := tk } := I3.kept fun b u e => Heap.get?_push_of_some _ e
  have I5 : Inv X pins σ H { s with heap := ((h2.update aL (Obj.mapSeq fun _ => (#[] : Array Value))).push (seqObj "tuple" acc.toList.toArray 0)).push (seqObj "list" #[] 0), toks := tk } := I4.kept fun b u e => Heap.get?_push_of_some _ e
  have Nk := newly_of I4 (Nat.le_refl _)
  have nk := I4.hok.fresh (Nat.le_refl _)
  have oa5 := Heap.get?_push_of_some (seqObj "list" #[] 0) (Heap.get?_push_of_some (seqObj "tuple" acc.toList.toArray 0) ho1)
  refine keys_go κ F hb hr.in1.in1 (fun J => J.env0.in1.in1) I5 Na Nk ?_ (Heap.get?_push_size _ rfl) oa5 na nk hS hZ hal hso (fun x hx => ?_) hsp fun s9 H9 s09 h9 I9 => ⟨_, rfl, wpAny_pure ⟨_, rfl, .ref aL, H9, I9, rfl, q aL H9 na s09 h9⟩⟩
  · intro e
    have hlt := Heap.lt_size (Heap.get?_push_of_some (seqObj "tuple" acc.toList.toArray 0) ho1)
    rw [← e] at hlt
    exact Nat.lt_irrefl _ hlt
  · have := hr.un
    have := hdep x hx
    show X.A.units + 1 + 1 + _ < _
    omega
end
end Sf
namespace Sf
open PySem PySem.Spec PyProof.Rows L2 TL
/-! ### moves in their order -/
def dMv (m : Mv) : PyData := .tuple [.str (one m.1), .int m.2.1, .int m.2.2]
def sortM (ms : List Mv) : List Mv := ms.mergeSort (PySem.W.dataLe false dMv)
open PySem.W in
theorem toks_inj {a b : Mv} (h : keyToks (dMv a) = keyToks (dMv b)) : a = b := by
  obtain ⟨c, s, e⟩ := a
  obtain ⟨c', s', e'⟩ := b
  unfold dMv at h
  simp only [keyToks, keyToksAll, List.cons_append, List.nil_append] at h
  simp [one] at h
  obtain ⟨rfl, rfl, rfl⟩ := h
  rfl
theorem mle_trans (a b c : Mv) : PySem.W.dataLe false dMv a b = true → PySem.W.dataLe false dMv b c = true → PySem.W.dataLe false dMv a c = true := (PySem.W.sortLe_total _ _ _).trans a b c
theorem mle_total (a b : Mv) : (PySem.W.dataLe false dMv a b || PySem.W.dataLe false dMv b a) = true := by
  rw [Bool.or_eq_true]
  exact (PySem.W.sortLe_total _ _ _).total a b
theorem mle_anti {a b : Mv} (h1 : PySem.W.dataLe false dMv a b = true) (h2 : PySem.W.dataLe false dMv b a = true) : a = b := by
  unfold PySem.W.dataLe PySem.W.sortLe at h1 h2
  simp only [cond_false, Bool.not_eq_true'] at h1 h2
  exact toks_inj ((PyProof.Rows.listOrd PyProof.Rows.itemOrd).total _ _ h2 h1)
theorem sortM_perm {l m : List Mv} (h : l.Perm m) : sortM l = sortM m := by
  refine List.Perm.eq_of_pairwise (le := fun a b => PySem.W.dataLe false dMv a b = true) (fun a b _ _ h1 h2 => mle_anti h1 h2) (List.pairwise_mergeSort mle_trans mle_total _) (List.pairwise_mergeSort mle_trans mle_total _) ?_
  exact ((List.mergeSort_perm _ _).trans h).trans (List.mergeSort_perm _ _).symm
theorem sortM_len (l : List Mv) : (sortM l).length = l.length := List.length_mergeSort _
theorem sortM_mem {l : List Mv} {m : Mv} : m ∈ sortM l ↔ m ∈ l := List.mem_mergeSort
theorem sortM_is {l : List Mv} : (sortM l).Perm l := List.mergeSort_perm _ _
/-- pairs of a value and its move, sorted -/
theorem sort_pairs (bs : List (V × Mv)) : (bs.mergeSort (PySem.W.dataLe false fun b => dMv b.2)).map (·.2) = sortM (bs.map (·.2)) := List.map_mergeSort fun a _ b _ => rfl
theorem mv_alike (a b : Mv) : PySem.W.alike (dMv a) (dMv b) = true := by
  unfold dMv
  simp [PySem.W.alike, PySem.W.alikeAll]
theorem mv_depth (a : Mv) : (dMv a).depth ≤ 60 := by
  unfold dMv
  simp only [PyData.depth, PyData.depthAll]
  decide
theorem mv_dp {K : PySem.W.Frag} {H : Hp} {v : V} {m : Mv} : MvAt H v m → Dp K H v (dMv m)
  | ⟨_, e, h⟩ => by
    rw [e]
    exact .tup (SqT.of h) (.cons (.str _) (.cons (.int _) (.cons (.int _) .nil)))
theorem zip_paired {α β : Type} {R : α → β → Prop} : ∀ {as : List α} {bs : List β}, Paired R as bs → ∃ l : List (α × β), l.map (·.1) = as ∧ l.map (·.2) = bs ∧ ∀ p ∈ l, R p.1 p.2
  | _, _, .nil => ⟨[], rfl, rfl, fun _ z => by cases z⟩
  | a :: _, b :: _, .cons r t => by
    obtain ⟨l, h1, h2, h3⟩ := zip_paired t
    refine ⟨(a, b) :: l, by rw [List.map_cons, h1], by rw [List.map_cons, h2], fun p hp => ?_⟩
    rcases List.mem_cons.mp hp with rfl | hp
    · exact r
    · exact h3 p hp
theorem paired_zip {α β : Type} {R : α → β → Prop} : ∀ {l : List (α × β)}, (∀ p ∈ l, R p.1 p.2) → Paired R (l.map (·.1)) (l.map (·.2))
  | [], _ => .nil
  | p :: l, h => .cons (h p List.mem_cons_self) (paired_zip fun q hq => h q (List.mem_cons_of_mem _ hq))
/-- sorted(moves) -/
def rSortM (K : PySem.W.Frag) : List V → Hp → VK → Prop := fun xs H Q => ∃ (a' : Addr) (bs : List (V × Mv)), xs = [.ref a'] ∧ SqL K H a' (bs.map (fun b => b.1)) ∧ (∀ b ∈ bs, Dp K H b.1 (dMv b.2)) ∧
    PySem.W.AllAlike (bs.map fun b => dMv b.2) ∧ PySem.W.Sortable (bs.map fun b => dMv b.2) ∧ (∀ b ∈ bs, (dMv b.2).depth ≤ 60) ∧ ∀ p, H p = none → Q (.ref p) (upd H p (.lst ((bs.mergeSort (PySem.W.dataLe false fun b => dMv b.2)).map (fun b => b.1))))
theorem call_sortM {X : Cx} (hu : X.A.units + 64 < cLine) : CallR X (.builtin "sorted") (rSortM X.K) := call_sortedData (β := V × Mv) (fun b => b.1) (fun b => dMv b.2) hu
theorem w_sortM {K : PySem.W.Frag} {H : Hp} {Q : VK} {a : Addr} {us : List V} {ms : List Mv} (ha : H a = some (.lst us)) (hm : MvsAt H us ms) (k : ∀ (p : Addr) (H' : Hp) (us' : List V), H' p = some (.lst us') → MvsAt H us' (sortM ms) → Nw p H H' → Q (.ref p) H') :
    rSortM K [.ref a] H Q := by
  obtain ⟨bs, h1, h2, h3⟩ := zip_paired hm
  refine ⟨a, bs, rfl, by rw [h1]; exact SqL.of ha, fun b hb => mv_dp (h3 b hb), ?_, ?_, fun b _ => mv_depth _, fun p np => ?_⟩
  · intro x hx y hy
    obtain ⟨b, _, rfl⟩ := List.mem_map.mp hx
    obtain ⟨c, _, rfl⟩ := List.mem_map.mp hy
    exact mv_alike _ _
  · refine .inl fun x hx => ?_
    obtain ⟨b, _, rfl⟩ := List.mem_map.mp hx
    exact ⟨_, _, rfl⟩
  · refine k p _ _ upd_same ?_ (.mk' np)
    rw [← h2, ← sort_pairs]
    exact paired_zip fun b hb => h3 b (List.mem_mergeSort.mp hb)
end Sf
namespace Sf
open PySem PySem.Spec PyProof.Rows L2 TL
/-! ### an expression under several locks -/
def frzs (H : Hp) (S : List Addr) (od : Addr → Obj) : Hp := fun a => if a ∈ S then (H a).map (fun u => .frz (od a) u) else H a
def unfz (H H' : Hp) (S : List Addr) : Hp := fun a => if a ∈ S then H a else H' a
def tLocks (t : TE) : TE := fun σ H Q => ∃ S : List Addr, S.Nodup ∧ (∀ a ∈ S, ∃ u, H a = some u ∧ Mut (some u)) ∧ ∀ od, t σ (frzs H S od) fun v H' => (∀ a ∈ S, H' a = frzs H S od a) ∧ Q v (unfz H H' S)
theorem frzs_in {H : Hp} {S : List Addr} {od : Addr → Obj} {a : Addr} {u : HO} (h : a ∈ S) (e : H a = some u) : frzs H S od a = some (.frz (od a) u) := by
  unfold frzs
  rw [if_pos h, e]
  rfl
theorem frzs_out {H : Hp} {S : List Addr} {od : Addr → Obj} {a : Addr} (h : a ∉ S) : frzs H S od a = H a := by
  unfold frzs
  rw [if_neg h]
section
variable {X : Cx} {pins : List (Addr × Obj)} {σ : L2.St} {s : Shared}
theorem lock_all : ∀ (S : List Addr) (H : Hp), Inv X pins σ H s → S.Nodup → (∀ a ∈ S, ∃ u, H a = some u ∧ Mut (some u)) → ∃ od, Inv X pins σ (frzs H S od) s
  | [], H, I, _, _ => ⟨fun _ => default, by
    have e : frzs H [] (fun _ => default) = H := funext fun a => frzs_out (by simp)
    rw [e]
    exact I⟩
  | d :: S, H, I, nd, hm => by
    obtain ⟨u, hu, mu⟩ := hm d List.mem_cons_self
    obtain ⟨o1, I1⟩ := I.lock hu mu
    have nd' := List.nodup_cons.mp nd
    have ne : ∀ a ∈ S, a ≠ d := fun a ha z => nd'.1 (z ▸ ha)
    obtain ⟨od, I2⟩ := lock_all S _ I1 nd'.2 fun a ha => by
      obtain ⟨v, hv, mv⟩ := hm a (List.mem_cons_of_mem _ ha)
      exact ⟨v, by rw [upd_ne (ne a ha)]; exact hv, mv⟩
    refine ⟨fun a => if a = d then o1 else od a, ?_⟩
    have e : frzs H (d :: S) (fun a => if a = d then o1 else od a) = frzs (upd H d (.frz o1 u)) S od := funext fun a => by
      by_cases h1 : a = d
      · subst h1
        rw [frzs_in List.mem_cons_self hu, frzs_out nd'.1, upd_same, if_pos rfl]
      · by_cases h2 : a ∈ S
        · obtain ⟨v, hv, _⟩ := hm a (List.mem_cons_of_mem _ h2)
          rw [frzs_in (List.mem_cons_of_mem _ h2) hv, frzs_in h2 (by rw [upd_ne h1]; exact hv), if_neg h1]
        · rw [frzs_out (by simp [h1, h2]), frzs_out h2, upd_ne h1]
    rw [e]
    exact I2
theorem unlock_all {H : Hp} : ∀ (S : List Addr) (H' : Hp), Inv X pins σ H' s → S.Nodup → (∀ a ∈ S, ∃ od u, H' a = some (.frz od u) ∧ H a = some u ∧ ∀ o' u', X.H_0 a ≠ some (.frz o' u')) → Inv X pins σ (unfz H H' S) s
  | [], H', I, _, _ => by
    have e : unfz H H' [] = H' := funext fun a => if_neg (by simp)
    rw [e]
    exact I
  | d :: S, H', I, nd, hm => by
    obtain ⟨od, u, h1, h2, h3⟩ := hm d List.mem_cons_self
    have nd' := List.nodup_cons.mp nd
    have ne : ∀ a ∈ S, a ≠ d := fun a ha z => nd'.1 (z ▸ ha)
    have I2 := unlock_all S (upd H' d u) (I.unlock h1 h3) nd'.2 fun a ha => by
      obtain ⟨o, v, k1, k2, k3⟩ := hm a (List.mem_cons_of_mem _ ha)
      exact ⟨o, v, by rw [upd_ne (ne a ha)]; exact k1, k2, k3⟩
    have e : unfz H H' (d :: S) = unfz H (upd H' d u) S := funext fun a => by
      unfold unfz
      by_cases k1 : a = d
      · subst k1
        rw [if_pos List.mem_cons_self, if_neg nd'.1, upd_same, h2]
      · by_cases k2 : a ∈ S
        · rw [if_pos (List.mem_cons_of_mem _ k2), if_pos k2]
        · rw [if_neg (by simp [k1, k2]), if_neg k2, upd_ne k1]
    rw [e]
    exact I2
theorem pe_locks {e : Expr} {t : TE} (h : PE X e t) : PE X e (tLocks t) := by
  refine ⟨fun pins s σ H Q I hw => ?_⟩
  obtain ⟨S, nd, hm, hw⟩ := hw
  obtain ⟨od, I1⟩ := lock_all S H I nd hm
  refine thn (h.run pins s σ _ _ I1 (hw od)) fun v s1 ⟨x, H1, I2, r, e2, q⟩ => ?_
  refine ⟨x, _, unlock_all S H1 I2 nd (fun a ha => ?_), r, q⟩
  obtain ⟨u, hu, mu⟩ := hm a ha
  exact ⟨od a, u, by rw [e2 a ha, frzs_in ha hu], hu, I.nofrz hu mu⟩
end
/-! ### a comprehension of two -/
section
variable {σ : L2.St} {H : Hp} {Q : VK} {K : PySem.W.Frag}
def kIn2 (g1 : TG) (tt1 : TT) (te : TE) (vs1 : List Nat) (σ2 : L2.St) (D : Addr) (N : Hp → Prop) : It → Hp → Prop := fun J1 H4 => ∃ W1 : Nat → Nat → Hp → Prop, (∃ m, W1 0 m H4) ∧ ∀ j k H, W1 j k H →
      (J1.stop j H ∧ N H) ∨ (J1.go j H ∧ ∃ Nx1 : Hp → Prop, (∀ H', Nx1 H' → ∃ k', k' < k ∧ W1 (j + 1) k' H') ∧ ∀ x H', J1.yld j H x H' → g1 x (wipe σ2 vs1) H' (kEach tt1 te vs1 σ2 D Nx1))
def kTst2 (wi1 : TI) (g1 : TG) (tt1 : TT) (te : TE) (vs1 : List Nat) (σ2 : L2.St) (D : Addr) (N : Hp → Prop) : Bool → Hp → Prop := fun b H3 => if b = true then wi1 σ2 H3 (kIn2 g1 tt1 te vs1 σ2 D N) else N H3
def kEach2 (tt : TT) (wi1 : TI) (g1 : TG) (tt1 : TT) (te : TE) (vs vs1 : List Nat) (σ : L2.St) (D : Addr) (N : Hp → Prop) : L2.St → Hp → Prop := fun σ2 H2 => wipe σ2 vs = wipe σ vs ∧ tt σ2 H2 (kTst2 wi1 g1 tt1 te vs1 σ2 D N)
def kLc2 (g : TG) (tt : TT) (wi1 : TI) (g1 : TG) (tt1 : TT) (te : TE) (vs vs1 : List Nat) (σ : L2.St) (Q : VK) : It → Hp → Prop := fun J H1 => ∀ D, H1 D = none → ∃ W : Nat → Nat → Hp → Prop, (∃ m, W 0 m (upd H1 D (.lst []))) ∧ ∀ i m H, W i m H →
  (J.stop i H ∧ Q (.ref D) H) ∨ (J.go i H ∧ ∃ Nx : Hp → Prop, (∀ H', Nx H' → ∃ m', m' < m ∧ W (i + 1) m' H') ∧ ∀ x H', J.yld i H x H' → g x (wipe σ vs) H' (kEach2 tt wi1 g1 tt1 te vs vs1 σ D Nx))
theorem w_lc2 {wi wi1 : TI} {g g1 : TG} {tt tt1 : TT} {te : TE} {vs vs1 : List Nat} (q : wi σ H (kLc2 g tt wi1 g1 tt1 te vs vs1 σ Q)) : tLc2 wi g tt wi1 g1 tt1 te vs vs1 σ H Q := q
theorem w_tst2T {wi1 : TI} {g1 : TG} {tt1 : TT} {te : TE} {vs1 : List Nat} {D : Addr} {N : Hp → Prop} (q : wi1 σ H (kIn2 g1 tt1 te vs1 σ D N)) : kTst2 wi1 g1 tt1 te vs1 σ D N true H := iteT q
theorem w_each2 {tt : TT} {wi1 : TI} {g1 : TG} {tt1 : TT} {te : TE} {vs vs1 : List Nat} {σ2 : L2.St} {D : Addr} {N : Hp → Prop} (e : wipe σ2 vs = wipe σ vs) (q : tt σ2 H (kTst2 wi1 g1 tt1 te vs1 σ2 D N)) : kEach2 tt wi1 g1 tt1 te vs vs1 σ D N σ2 H := ⟨e, q⟩
theorem w_lc2S {x : Str} {wi1 : TI} {g g1 : TG} {tt tt1 : TT} {te : TE} {vs vs1 : List Nat} (Pv : Addr → Nat → Hp → Prop) (h0 : ∀ p H1, H1 p = some (.lst []) → Nw p H H1 → Pv p 0 H1)
    (hs : ∀ p i c H, (tl x)[i]? = some c → Pv p i H → g (.str (one c)) (wipe σ vs) H (kEach2 tt wi1 g1 tt1 te vs vs1 σ p (Pv p (i + 1)))) (hd : ∀ p H, Pv p (tl x).length H → Q (.ref p) H) : kLc2 g tt wi1 g1 tt1 te vs vs1 σ Q (Its x) H := fun p np => by
  have hz : x.cps.size = (tl x).length := len_tl x
  refine ⟨fun i m H => m = x.cps.size - i ∧ i ≤ x.cps.size ∧ Pv p i H, ⟨x.cps.size, rfl, Nat.zero_le _, h0 p _ upd_same (.mk' np)⟩, ?_⟩
  rintro i m H ⟨rfl, hi, h⟩
  by_cases hlt : i < x.cps.size
  · refine .inr ⟨hlt, Pv p (i + 1), fun H' p' => ⟨x.cps.size - (i + 1), by omega, rfl, hlt, p'⟩, ?_⟩
    rintro v H' ⟨rfl, c, hc, rfl⟩
    exact hs p i c H' (getElem?_of_cps hc) h
  · have e : i = x.cps.size := by omega
    subst e
    exact .inl ⟨Nat.le_refl _, hd p H (by rw [← hz]; exact h)⟩
theorem w_items {td : TE} {R : It → Hp → Prop} (q : td σ H fun x H1 => ∃ d o kvs, x = .ref d ∧ H1 d = some (.frz o (.dK kvs)) ∧ R (Iti d o kvs) H1) : iItems td σ H R := q
theorem w_in2I {d : Addr} {o : Obj} {kvs : List (Key × V)} {g1 : TG} {tt1 : TT} {te : TE} {vs1 : List Nat} {D : Addr} {N : Hp → Prop} (Pv : Nat → Hp → Prop) (h0 : Pv 0 H) (hl : ∀ j H, Pv j H → H d = some (.frz o (.dK kvs)))
    (hs : ∀ j T k v H H', kvs[j]? = some (k, v) → Pv j H → H' T = some (.tup [kV k, v]) → Nw T H H' → g1 (.ref T) (wipe σ vs1) H' (kEach tt1 te vs1 σ D (Pv (j + 1)))) (hd : ∀ H, Pv kvs.length H → N H) : kIn2 g1 tt1 te vs1 σ D N (Iti d o kvs) H := by
  refine ⟨fun i m H => m = kvs.length - i ∧ i ≤ kvs.length ∧ Pv i H, ⟨kvs.length, rfl, Nat.zero_le _, h0⟩, ?_⟩
  rintro i m H ⟨rfl, hi, h⟩
  by_cases hlt : i < kvs.length
  · refine .inr ⟨⟨hl i H h, hlt⟩, Pv (i + 1), fun H' p' => ⟨kvs.length - (i + 1), by omega, rfl, hlt, p'⟩, ?_⟩
    rintro x H' ⟨T, k, v, hk, rfl, nT, rfl⟩
    exact hs i T k v H _ hk h upd_same (.mk' nT)
  · have e : i = kvs.length := by omega
    subst e
    exact .inl ⟨⟨hl _ H h, Nat.le_refl _⟩, hd H h⟩
end
end Sf
namespace Sf
open PySem PySem.Spec PyProof.Rows L2 TL
/-! ### World.moves -/
def smls : List Nat := [97, 98, 99, 100, 101, 102, 103, 104]
theorem smls_tl : tl (Str.ofString "abcdefgh") = smls := by decide +kernel
theorem smls_sgs : ∀ c ∈ smls, c ∈ sgs := by decide
theorem smls_iff {c : Nat} : c ∈ smls ↔ 97 ≤ c ∧ c ≤ 104 := by
  unfold smls
  simp only [List.mem_cons, List.not_mem_nil, or_false]
  omega
theorem smls_nd : smls.Nodup := by decide
def mvC (L : Nat → List (Int × Int)) (c : Nat) : List Mv := (L c).map fun p => (c, p.1, p.2)
def mvsOf (L : Nat → List (Int × Int)) : List Mv := smls.flatMap (mvC L)
theorem filter_parts : ∀ (cs : List Nat) (ms : List Mv), cs.Nodup → (∀ m ∈ ms, m.1 ∈ cs) → (cs.flatMap fun c => ms.filter fun m => decide (m.1 = c)).Perm ms
  | [], ms, _, h => by
    cases ms with
    | nil => exact .refl _
    | cons m ms => exact absurd (h m List.mem_cons_self) (by simp)
  | c :: cs, ms, nd, h => by
    have nd' := List.nodup_cons.mp nd
    have ih := filter_parts cs (ms.filter fun m => !decide (m.1 = c)) nd'.2 fun m hm => by
      rw [List.mem_filter] at hm
      rcases List.mem_cons.mp (h m hm.1) with e | e
      · rw [e] at hm
        simp at hm
      · exact e
    have e : (cs.flatMap fun d => (ms.filter fun m => !decide (m.1 = c)).filter fun m => decide (m.1 = d)) = cs.flatMap fun d => ms.filter fun m => decide (m.1 = d) := by
      rw [List.flatMap_def, List.flatMap_def]
      congr 1
      refine List.map_congr_left fun d hd => ?_
      rw [List.filter_filter]
      refine List.filter_congr fun m _ => ?_
      by_cases hm : m.1 = d
      · have : ¬ m.1 = c := fun z => nd'.1 (by rw [← z, hm]; exact hd)
        simp [hm]
        rw [hm] at this
        exact this
      · simp [hm]
    rw [List.flatMap_cons, ← e]
    exact (ih.append_left _).trans (List.filter_append_perm _ _)
theorem mvC_LM {n : Int} {ms : List Mv} (ok : WOk n ms) {c : Nat} (hc : c ∈ smls) : mvC (LM ms) c = ms.filter fun m => decide (m.1 = c) := by
  unfold mvC LM
  have : ∀ l : List Mv, (∀ m ∈ l, 97 ≤ m.1 ∧ m.1 ≤ 104) → (l.filterMap (mvOn c)).map (fun p => ((c, p.1, p.2) : Mv)) = l.filter fun m => decide (m.1 = c) := by
    intro l
    induction l with
    | nil => intro _; rfl
    | cons m l ih =>
      intro h
      have ih := ih fun k hk => h k (List.mem_cons_of_mem _ hk)
      have hm := h m List.mem_cons_self
      have hc' := smls_iff.mp hc
      rw [List.filterMap_cons, List.filter_cons]
      unfold mvOn
      by_cases e : m.1 = c
      · rw [if_pos e, if_pos (decide_eq_true e), ← ih]
        obtain ⟨a, b, d⟩ := m
        have e : a = c := e
        subst e
        rfl
      · rw [if_neg e, if_neg (show ¬ m.1 = c + 32 by omega), if_neg (by simpa using e), ← ih]
        rfl
  exact this ms fun m hm => by
    have := ok.rg m hm
    omega
theorem mvsOf_LM {n : Int} {ms : List Mv} (ok : WOk n ms) : (mvsOf (LM ms)).Perm ms := by
  have e : mvsOf (LM ms) = smls.flatMap fun c => ms.filter fun m => decide (m.1 = c) := by
    unfold mvsOf
    rw [List.flatMap_def, List.flatMap_def]
    congr 1
    exact List.map_congr_left fun c hc => mvC_LM ok hc
  rw [e]
  exact filter_parts smls ms smls_nd fun m hm => smls_iff.mpr (by have := ok.rg m hm; omega)
theorem nodup_of : ∀ l : List Addr, ∃ S : List Addr, S.Nodup ∧ ∀ a, a ∈ S ↔ a ∈ l
  | [] => ⟨[], .nil, fun _ => .rfl⟩
  | x :: l => by
    obtain ⟨S, nd, h⟩ := nodup_of l
    by_cases hx : x ∈ S
    · refine ⟨S, nd, fun a => ?_⟩
      rw [h, List.mem_cons]
      constructor
      · exact .inr
      · rintro (rfl | z)
        · exact (h a).mp hx
        · exact z
    · exact ⟨x :: S, List.nodup_cons.mpr ⟨hx, nd⟩, fun a => by rw [List.mem_cons, List.mem_cons, h]⟩
section
variable {P : Program} {w : World} {K : PySem.W.Frag} {mg : Str → Option Value} {base : Heap} {C : Addr}
def spMvs (C : Addr) : Sp := fun vs H Q _ => ∃ (p : Addr) (n : Int) (L : Nat → List (Int × Int)), vs = [.ref p] ∧ WAt C H p n L ∧ (∀ c ∈ smls, (L c).length ≤ 10000) ∧
  ∀ (r : Addr) (H' : Hp) (us : List V), H r = none → Same H H' → H' r = some (.lst us) → MvsAt H' us (sortM (mvsOf L)) → Q (.ref r) H'
theorem ld_ne {H : Hp} {ld : Addr} {d : Nat → Addr} {L : Nat → List (Int × Int)} (h : LdAt H ld d L) {c : Nat} (hc : c ∈ sgs) : ld ≠ d c := fun z => by
  have h1 := h.hd
  have h2 := h.hc c hc
  rw [z, h2] at h1
  have h3 := HO.dK.inj (Option.some.inj h1)
  unfold leV sgs at h3
  unfold kvI at h3
  cases e : L c with
  | nil => rw [e] at h3; cases h3
  | cons p r =>
    rw [e, List.map_cons, List.map_cons] at h3
    have h4 := (List.cons.inj h3).1
    have h5 : (Sum.inl p.1 : Key) = Sum.inr (one 97) := congrArg Prod.fst h4
    cases h5
theorem val_leV {d : Nat → Addr} : ∀ {l : List Nat} {c : Nat}, c ∈ l → valV (leV d l) (Sum.inr (one c)) = some (.ref (d c))
  | x :: l, c, h => by
    unfold leV
    rw [List.map_cons]
    by_cases e : x = c
    · subst e
      rw [valV_pos rfl]
    · rw [valV_neg (fun z => e (one_inj (Sum.inr.inj z)))]
      rcases List.mem_cons.mp h with z | z
      · exact absurd z.symm e
      · exact val_leV z
theorem sc_mv : FnScope ["self", "letter", "start", "end"] ["self"] (defScope s_World_moves) := ⟨rfl, rfl, rfl, by decide +kernel, rfl, by decide +kernel, by decide +kernel⟩
theorem has_mvs (F : MAt K C "moves" "World.moves" s_World_moves ["self"]) (B : Blt mg) (T_World : WC K mg C) {t1 : Tok} (C_LETTERS : mg "LETTERS" = some (.str (Str.ofString "abcdefgh") t1)) : HasM P w K mg base C 1 "moves" ["self"] (spMvs C) := F.has fun F => by
  refine F.ok sc_mv (fun vs H Q E h => ?_) (fun cdv A outer s H vs Q E hr h => ?_)
  · obtain ⟨p, n, L, rfl, _⟩ := h
    rfl
  · obtain ⟨p, n, L, rfl, hW, hsz, q⟩ := h
    refine ⟨_, (pss_one (ps_ret (pe_callB (call_sortM hr.units) (by rfl) B.sorted (by decide +kernel) (pa_cons (pe_locks (pe_lc2 (own := [("letter", 1), ("start", 2), ("end", 3)]) (vs1 := [2, 3]) (g := gName 1) (tt := tYes) (g1 := gTup K 2 (gCons (gName 2) (gCons (gName 3) gNil))) (tt1 := tYes) (wi1 := iItems (tDGet (tFld K (tVar 0) "leads") (tVar 1))) (by rfl) sc_mv.nd (pi_str (pe_gS (by rfl) C_LETTERS)) (blkOk_by (own := [("letter", 1), ("start", 2), ("end", 3)]) (N := ["self", "letter", "start", "end"]) (sc := defScope s_World_moves) (by decide +kernel)) (by decide) (fun _ _ _ _ _ => pg_name (i := 1) sc_mv.nd rfl (.inl rfl)) (fun _ _ _ _ _ => pts_nil) (fun _ _ _ _ _ => by exact (pi_items (pe_dget (hu_of hr) (pe_fld (pv 0) rfl) (pv 1) (fun _ _ => rfl)))) (fun _ _ _ _ _ => pg_tup rfl (pgs_cons (pg_name (i := 2) sc_mv.nd rfl (.inl rfl)) (pgs_cons (pg_name (i := 3) sc_mv.nd rfl (.inl rfl)) pgs_nil))) (fun _ _ _ _ _ => pts_nil) (fun _ _ _ _ _ => (pe_tup (pa_cons (pv 1) (pa_cons (pv 2) (pa_cons (pv 3) pa_nil))))))) pa_nil)))), ?_⟩
    obtain ⟨dx, pl, ld, d, hp, hpl, hL⟩ := hW
    obtain ⟨S, nd, hS⟩ := nodup_of (smls.map d)
    have inS : ∀ c ∈ smls, d c ∈ S := fun c hc => (hS _).mpr (List.mem_map.mpr ⟨c, hc, rfl⟩)
    have atS : ∀ a ∈ S, ∃ c ∈ smls, a = d c ∧ H a = some (.dK (kvI (L c))) := fun a ha => by
      obtain ⟨c, hc, rfl⟩ := List.mem_map.mp ((hS a).mp ha)
      exact ⟨c, hc, rfl, hL.hc c (smls_sgs c hc)⟩
    have npS : p ∉ S := fun z => by
      obtain ⟨c, _, _, e⟩ := atS p z
      rw [hp] at e
      cases e
    have nlS : ld ∉ S := fun z => by
      obtain ⟨c, hc, e, _⟩ := atS ld z
      exact ld_ne hL (smls_sgs c hc) e
    walk_at "go"
    refine ⟨S, nd, fun a ha => ?_, fun od => ?_⟩
    · obtain ⟨c, _, _, e⟩ := atS a ha
      exact ⟨_, e, trivial⟩
    have hpF : frzs H S od p = some (.ins C dx (wf pl ld)) := by rw [frzs_out npS]; exact hp
    have hlF : frzs H S od ld = some (.dK (leV d sgs)) := by rw [frzs_out nlS]; exact hL.hd
    have hdF : ∀ c ∈ smls, frzs H S od (d c) = some (.frz (od (d c)) (.dK (kvI (L c)))) := fun c hc => frzs_in (inS c hc) (hL.hc c (smls_sgs c hc))
    refine w_lc2 ?_
    walk_at "go"
    refine w_lc2S (fun r i H2 => ∃ us, Same (frzs H S od) H2 ∧ frzs H S od r = none ∧ H2 r = some (.lst us) ∧ MvsAt H2 us ((smls.take i).flatMap (mvC L)) ∧ us.length ≤ 10000 * i ∧ i ≤ 8) (fun r H2 hr nr => ⟨[], nr.same, nr.nn, hr, .nil, Nat.zero_le _, by decide⟩) ?_ ?_
    · rintro r i c H2 hc ⟨us, s2, nr, hr2, hm2, hu2, hi8⟩
      rw [smls_tl] at hc
      have hcs : c ∈ smls := List.mem_of_getElem? hc
      have hi7 : i < 8 := (List.getElem?_eq_some_iff.mp hc).1
      walk_at "go"
      refine w_each2 rfl ?_
      walk_at "go"
      refine w_tst2T (w_items ?_)
      walk_at "go"
      refine w_kFld (s2.at hpF) T_World.cl T_World.nL (wf_leads _ _) ?_
      walk_at "go"
      refine w_kDGetS (s2.at hlF) (val_leV (smls_sgs c hcs)) ?_
      refine ⟨d c, od (d c), _, rfl, s2.at (hdF c hcs), ?_⟩
      refine w_in2I (fun j H3 => ∃ us', Same (frzs H S od) H3 ∧ H3 r = some (.lst us') ∧ MvsAt H3 us' ((smls.take i).flatMap (mvC L) ++ (mvC L c).take j) ∧ us'.length ≤ 10000 * i + j) ⟨us, s2, hr2, by rw [List.take_zero, List.append_nil]; exact hm2, hu2⟩ (fun j H3 ⟨_, s3, _⟩ => s3.at (hdF c hcs)) ?_ ?_
      · rintro j T k v H3 H4 hk ⟨us', s3, hr3, hm3, hu3⟩ hT nT
        unfold kvI at hk
        rw [List.getElem?_map, Option.map_eq_some_iff] at hk
        obtain ⟨⟨x, y⟩, hxy, e⟩ := hk
        cases e
        have hjl : j < (L c).length := (List.getElem?_eq_some_iff.mp hxy).1
        have hLc := hsz c hcs
        walk_at "go"
        refine w_newT (by walk_at "sz") (fun t H5 ht nt => ?_)
        refine w_kIt (nt.at (nT.at hr3)) (lineLt_of (by omega)) (fun H6 h6 o6 => ?_)
        have s5 : Same (frzs H S od) H5 := (s3.nw nT).nw nt
        have tr : t ≠ r := (nt.ne (nT.at hr3)).symm
        refine ⟨_, s5.off o6 nr, h6, ?_, by rw [List.length_append]; show us'.length + 1 ≤ _; omega⟩
        have e1 : (mvC L c).take (j + 1) = (mvC L c).take j ++ [(c, x, y)] := by
          refine take_snoc ?_
          unfold mvC
          rw [List.getElem?_map, hxy]
          rfl
        rw [e1, ← List.append_assoc]
        refine paired_snoc ⟨t, rfl, o6.at tr ht⟩ ?_
        exact ((hm3.tps (.of nT.same)).tps (.of nt.same)).tps (Tps.refl.off (nt.at (nT.at hr3)) o6)
      · rintro H3 ⟨us', s3, hr3, hm3, hu3⟩
        rw [kvI_len] at hm3 hu3
        have hLc := hsz c hcs
        refine ⟨us', s3, nr, hr3, ?_, by omega, hi7⟩
        have e1 : (mvC L c).take (L c).length = mvC L c := by
          refine List.take_of_length_le ?_
          unfold mvC
          rw [List.length_map]
          exact Nat.le_refl _
        rw [e1] at hm3
        rw [take_snoc hc, List.flatMap_append]
        simpa using hm3
    · rintro r H2 ⟨us, s2, nr, hr2, hm2, hu2, hi8⟩
      have hfull : smls.take (tl (Str.ofString "abcdefgh")).length = smls := by decide +kernel
      rw [hfull] at hm2
      refine ⟨fun a ha => ?_, ?_⟩
      · obtain ⟨c, _, _, e⟩ := atS a ha
        rw [frzs_in ha e]
        exact s2 _ _ (frzs_in ha e)
      have sU : Same H (unfz H H2 S) := fun a o e => by
        unfold unfz
        by_cases h : a ∈ S
        · rw [if_pos h]
          exact e
        · rw [if_neg h]
          exact s2 _ _ (by rw [frzs_out h]; exact e)
      have nrS : r ∉ S := fun z => by
        obtain ⟨c, _, _, e⟩ := atS r z
        rw [frzs_in z e] at nr
        cases nr
      have nrH : H r = none := by
        rw [frzs_out nrS] at nr
        exact nr
      have hrU : unfz H H2 S r = some (.lst us) := by
        unfold unfz
        rw [if_neg nrS]
        exact hr2
      have tU : Tps H2 (unfz H H2 S) := fun a xs e => by
        unfold unfz
        by_cases h : a ∈ S
        · obtain ⟨c, _, _, e'⟩ := atS a h
          rw [s2 _ _ (frzs_in h e')] at e
          cases e
        · rw [if_neg h]
          exact e
      walk_at "go"
      refine w_sortM hrU (hm2.tps tU) (fun r2 H3 us2 h3 hm3 n3 => ?_)
      exact q r2 H3 us2 (sU.free n3.nn) (sU.nw n3) h3 (hm3.tps (.of n3.same))
end
end Sf
namespace Sf
open PySem PySem.Spec PyProof.Rows L2 TL
section
variable {X : Cx}
/-! ### d != {} -/
def rNeDE : R2 := fun x y H Q => ∃ a b ks, x = .ref a ∧ y = .ref b ∧ H a = some (.dK ks) ∧ H b = some (.dK []) ∧ Q (.bl (!ks.isEmpty)) H
theorem op_neDE (hu : X.A.units < cLine) : OpR X (compareOp .NotEq) rNeDE := by
  intro pins s σ H x y v u Q I rx ry h
  obtain ⟨a, b, ks, rfl, rfl, ea, eb, q⟩ := h
  obtain rfl : v = Value.ref a := rx
  obtain rfl : u = Value.ref b := ry
  obtain ⟨_, ya, va, ra, da⟩ := (show ObjOk X.prog X.w H s.heap a (.dK ks) from I.hok a _ ea)
  obtain ⟨_, yb, vb, rb, db⟩ := (show ObjOk X.prog X.w H s.heap b (.dK []) from I.hok b _ eb)
  have l1 : ks.length = va.length := ra.length
  have l2 : (0 : Nat) = vb.length := rb.length
  refine PySem.W.keq_ne (knd := mixKind X.prog X.w) (r := true) ya yb da db hu (fun hl => ?_) (fin_bl I q ?_)
  · have hl : va.length = vb.length := by simpa using hl
    have : va = [] := List.eq_nil_of_length_eq_zero (by omega)
    rw [this]
    exact .nil
  · cases ks with
    | nil =>
      have : va = [] := List.eq_nil_of_length_eq_zero (by rw [← l1]; rfl)
      have h2 : vb = [] := List.eq_nil_of_length_eq_zero l2.symm
      rw [this, h2]
      rfl
    | cons k ks =>
      have h2 : vb = [] := List.eq_nil_of_length_eq_zero l2.symm
      rw [h2]
      cases va with
      | nil => cases l1
      | cons v va => rfl
theorem w_neDE {H : Hp} {Q : VK} {a b : Addr} {ks : List (Key × V)} (h1 : H a = some (.dK ks)) (h2 : H b = some (.dK [])) (q : Q (.bl (!ks.isEmpty)) H) : rNeDE (.ref a) (.ref b) H Q := ⟨a, b, ks, rfl, rfl, h1, h2, q⟩
end
section
variable {P : Program} {w : World} {K : PySem.W.Frag} {mg : Str → Option Value} {base : Heap} {C : Addr}
/-! ### len(world) -/
def spWLen (C : Addr) : Sp := fun vs H Q _ => ∃ (p : Addr) (n : Int) (L : Nat → List (Int × Int)), vs = [.ref p] ∧ WAt C H p n L ∧ 0 ≤ n ∧ n ≤ 100000 ∧ Q (.int n) H
theorem sc_wlen : FnScope ["self"] ["self"] (defScope s_World___len__) := ⟨rfl, rfl, rfl, by decide +kernel, rfl, by decide +kernel, by decide +kernel⟩
theorem has_wlen (F : MAt K C "__len__" "World.__len__" s_World___len__ ["self"]) (B : Blt mg) (T_World : WC K mg C) : HasM P w K mg base C 1 "__len__" ["self"] (spWLen C) := F.has fun F => by
  refine F.ok sc_wlen (fun vs H Q E h => ?_) (fun cdv A outer s H vs Q E hr h => ?_)
  · obtain ⟨p, n, L, rfl, _⟩ := h
    rfl
  · obtain ⟨p, n, L, rfl, ⟨dx, pl, ld, d, hp, hpl, hL⟩, n0, n1, q⟩ := h
    refine ⟨_, (pss_one (ps_ret (pe_callB call_lenQ (by rfl) B.len PySem.boot_len (pa_cons (pe_fld (pv 0) rfl) pa_nil)))), ?_⟩
    rw [rgV_plc] at hpl
    walk_at "go"
    refine w_kFld hp T_World.cl T_World.nP (wf_places _ _) ?_
    walk_at "go"
    rw [List.length_map, plc_len, show ((n.toNat : Nat) : Int) = n by omega]
    exact q
def rLenW (C : Addr) (sp : Sp) : List V → Hp → VK → Prop := fun xs H Q => ∃ a dx fs, xs = [.ref a] ∧ H a = some (.ins C dx fs) ∧ sp [.ref a] H (fun v H' => ∃ n : Nat, v = .int (n : Int) ∧ n ≤ sizeLine ∧ Q (.int (n : Int)) H') E0
theorem call_lenW {X : Cx} {k : Nat} {f : Addr} {fd : FuncData} {ps : List Str} {sp : Sp} (F : FnOk X.prog X.w X.K X.mg X.base CX0 k f fd ps sp) (hs : PySem.W.findIn X.K (.ref C) "__len__" = some (some (.ref f))) (hf : PySem.W.isFn X.K (.ref f) = true) (hb : Binds X.K fd ps []) (hr : Room (k + 1) X.A) : CallR X (.builtin "len") (rLenW C sp) := call_lenOwn F hs hf hb hr
theorem w_lenW {H : Hp} {Q : VK} {p : Addr} {n : Int} {L : Nat → List (Int × Int)} (hW : WAt C H p n L) (n0 : 0 ≤ n) (n1 : n ≤ 100000) (q : Q (.int n) H) : rLenW C (spWLen C) [.ref p] H Q := by
  obtain ⟨dx, pl, ld, d, hp, _⟩ := id hW
  exact ⟨p, dx, _, rfl, hp, p, n, L, rfl, hW, n0, n1, n.toNat, by rw [show ((n.toNat : Nat) : Int) = n by omega], line_of (by omega), by rw [show ((n.toNat : Nat) : Int) = n by omega]; exact q⟩
/-! ### _law_is_world, where it is -/
theorem eqv_ref2 {H : Hp} {p q : Addr} {n : Nat} {xs ys : List V} (hp : H p = some (.lst xs)) (hq : H q = some (.lst ys)) (hl : xs.length = ys.length) (h1 : xs.length ≤ 100000) (h : ∀ (i : Nat) (x y : V), xs[i]? = some x → ys[i]? = some y → Eqv H n x y) : Eqv H (n + 1) (.ref p) (.ref q) := .inr ⟨p, q, xs, ys, rfl, rfl, .inl ⟨hp, hq⟩, hl, h1, h⟩
theorem eqv_mv {H : Hp} {x y : V} {m : Mv} : MvAt H x m → MvAt H y m → ∀ {n : Nat}, Eqv H (n + 1) x y
  | ⟨t, e, ht⟩, ⟨u, e', hu⟩, n => by
    rw [e, e']
    refine .inr ⟨t, u, _, _, rfl, rfl, .inr ⟨ht, hu⟩, rfl, by show 3 ≤ 100000; decide, fun i x y hx hy => ?_⟩
    rw [hx] at hy
    cases hy
    refine .flat ?_
    match i, hx with
    | 0, hx => cases hx; rfl
    | 1, hx => cases hx; rfl
    | 2, hx => cases hx; rfl
theorem eqv_mvs {H : Hp} {p q : Addr} {us us' : List V} {ms : List Mv} (hp : H p = some (.lst us)) (hq : H q = some (.lst us')) (h1 : MvsAt H us ms) (h2 : MvsAt H us' ms) (hl : ms.length ≤ 100000) {n : Nat} : Eqv H (n + 2) (.ref p) (.ref q) := by
  refine eqv_ref2 hp hq ((Paired.length h1).trans (Paired.length h2).symm) (by rw [show us.length = ms.length from Paired.length h1]; exact hl) fun i x y hx hy => ?_
  obtain ⟨m, hm, h3⟩ := paired_get h1 hx
  obtain ⟨m', hm', h4⟩ := paired_get h2 hy
  rw [hm] at hm'
  cases hm'
  exact eqv_mv h3 h4
theorem eqv_two {H : Hp} {p q : Addr} {n : Nat} {a b c d : V} (hp : H p = some (.lst [a, b])) (hq : H q = some (.lst [c, d])) (h1 : Eqv H n a c) (h2 : Eqv H n b d) : Eqv H (n + 1) (.ref p) (.ref q) := eqv_ref2 hp hq rfl (by show 2 ≤ 100000; decide) fun i x y hx hy => by
  match i, hx, hy with
  | 0, hx, hy => cases hx; cases hy; exact h1
  | 1, hx, hy => cases hx; cases hy; exact h2
def spOw (C : Addr) : Sp := fun vs H Q _ => ∃ (p a : Addr) (n : Int) (L : Nat → List (Int × Int)) (us : List V) (ms : List Mv), vs = [.ref p, .int n, .ref a] ∧ WAt C H p n L ∧ (∀ c ∈ smls, (L c).length ≤ 10000) ∧ H a = some (.lst us) ∧ MvsAt H us ms ∧ (mvsOf L).Perm ms ∧ ms.length ≤ 100000 ∧ 0 ≤ n ∧ n ≤ 100000 ∧
  ∀ H', Same H H' → Q (.bl true) H'
theorem sc_ow : FnScope ["_law_world_here", "_law_many", "_law_moves"] ["_law_world_here", "_law_many", "_law_moves"] (defScope s__law_is_world) := ⟨rfl, rfl, rfl, by decide +kernel, rfl, by decide +kernel, by decide +kernel⟩
theorem has_ow (F : FnAt K mg "_law_is_world" s__law_is_world ["_law_world_here", "_law_many", "_law_moves"]) (B : Blt mg) (T_World : WC K mg C) (h_Sa : HasSame P w K mg base 3) (h_Len : HasM P w K mg base C 1 "__len__" ["self"] (spWLen C)) (h_Mv : HasM P w K mg base C 1 "moves" ["self"] (spMvs C)) : Has P w K mg base 5 "_law_is_world" ["_law_world_here", "_law_many", "_law_moves"] (spOw C) := F.has fun F => by
  obtain ⟨f_Sa, fd_Sa, g_Sa, k_Sa, b_Sa, G_Sa⟩ := h_Sa
  obtain ⟨f_Len, fd_Len, m_Len, b_Len, G_Len⟩ := h_Len
  obtain ⟨f_Mv, fd_Mv, m_Mv, b_Mv, G_Mv⟩ := h_Mv
  refine F.ok sc_ow (fun vs H Q E h => ?_) (fun cdv A outer s H vs Q E hr h => ?_)
  · obtain ⟨p, a, n, L, us, ms, rfl, _⟩ := h
    rfl
  · obtain ⟨p, a, n, L, us, ms, rfl, hW, hsz, ha, hm, hpm, hml, n0, n1, q⟩ := h
    refine ⟨_, (pss_one (ps_ret (pe_and (pe_callB call_isi (by rfl) B.isinstance (by decide +kernel) (pa_cons (pv 0) (pa_cons (pe_glob (v := .ref C) (by rfl) T_World.mgC rfl) pa_nil))) (pe_one (pe_call G_Sa (hr.mono (by decide)) (by rfl) g_Sa k_Sa b_Sa .nil pass0 (pa_cons (pe_lst (pa_cons (pe_callB (call_lenW G_Len m_Len.at_ m_Len.fn b_Len (hr.mono (by decide))) (by rfl) B.len PySem.boot_len (pa_cons (pv 0) pa_nil)) (pa_cons (pe_meth0 (pv 0) T_World.cl m_Mv G_Mv (hr.mono (by decide)) b_Mv .nil pass0) pa_nil))) (pa_cons (pe_lst (pa_cons (pv 1) (pa_cons (pe_callB (call_sortM hr.units) (by rfl) B.sorted (by decide +kernel) (pa_cons (pv 2) pa_nil)) pa_nil))) pa_nil))))))), ?_⟩
    have ⟨dx, pl, ld, d, hp, _, _⟩ := hW
    walk_at "go"
    refine ⟨_, _, _, _, true, rfl, .own C, .base (.ins hp T_World.cl T_World.ha T_World.hn T_World.htk T_World.hm), kit_self, ?_⟩
    walk_at "go"
    refine w_lenW hW n0 n1 ?_
    walk_at "go"
    refine w_kMeth hp (wf_no _ _ (by decide +kernel) (by decide +kernel)) ?_
    walk_at "go"
    refine ⟨p, n, L, rfl, hW, hsz, fun r H1 us1 nr s1 hr1 hm1 => ?_⟩
    walk_at "go"
    refine w_newL (by walk_at "sz") (fun l1 H2 hl1 nl1 => ?_)
    walk_at "go"
    refine w_sortM (nl1.at (s1.at ha)) (hm.tps (.of (s1.nw nl1))) (fun r3 H3 us3 hr3 hm3 n3 => ?_)
    walk_at "go"
    refine w_newL (by walk_at "sz") (fun l2 H4 hl4 nl4 => ?_)
    have hm1' : MvsAt H4 us1 (sortM ms) := by
      rw [← sortM_perm hpm]
      exact ((hm1.tps (.of nl1.same)).tps (.of n3.same)).tps (.of nl4.same)
    have hm3' : MvsAt H4 us3 (sortM ms) := (hm3.tps (.of n3.same)).tps (.of nl4.same)
    refine ⟨.ref l1, .ref l2, rfl, eqv_two (nl4.at (n3.at hl1)) hl4 (.flat rfl) (eqv_mvs (nl4.at (n3.at (nl1.at hr1))) (nl4.at hr3) hm1' hm3' (by rw [sortM_len]; exact hml)), fun H5 s5 => ?_⟩
    exact q H5 ((((s1.nw nl1).nw n3).nw nl4).trans s5)
end
end Sf
namespace Sf
open PySem PySem.Spec PyProof.Rows L2 TL
/-! ### lists of texts, joined -/
theorem joinL_nil : ∀ ps : List (List Nat), joinL [] ps = ps.flatten
  | [] => rfl
  | [p] => by simp [joinL]
  | p :: q :: r => by
    show p ++ ([] ++ joinL [] (q :: r)) = _
    rw [joinL_nil (q :: r), List.nil_append]
    rfl
theorem tl_empty : tl (Str.ofString "") = [] := by decide +kernel
theorem join_tl (ys : List Str) : Txt.join (Str.ofString "") ys = mkS (ys.map tl).flatten := by
  refine eq_mkS ?_
  rw [join_eq, tl_join, tl_empty, joinL_nil]
theorem join_ones (l : List Nat) : Txt.join (Str.ofString "") (l.map one) = mkS l := by
  rw [join_tl, List.map_map]
  congr 1
  induction l with
  | nil => rfl
  | cons c l ih =>
    rw [List.map_cons, List.flatten_cons, ih]
    rfl
theorem len_empty : (Str.ofString "").length = 0 := by decide +kernel
theorem ones_sum (l : List Nat) : ((l.map one).map (·.length)).sum = l.length := by
  induction l with
  | nil => rfl
  | cons c l ih =>
    rw [List.map_cons, List.map_cons, List.sum_cons, ih, len_one, List.length_cons]
    omega
theorem join_fit {l : List Nat} (h : l.length ≤ 100000) : ((l.map one).map (·.length)).sum + (l.map one).length * (Str.ofString "").length ≤ 16777216 := by
  rw [ones_sum, len_empty]
  omega
/-- data of a list of single signs -/
def dOnes (l : List Nat) : PyData := .list (l.map fun c => .str (one c))
theorem dp_all {K : PySem.W.Frag} {H : Hp} : ∀ l : List Nat, DpAll K H (l.map fun c => V.str (one c)) (l.map fun c => .str (one c))
  | [] => .nil
  | _ :: l => .cons (.str _) (dp_all l)
theorem ones_lay : ∀ {l : List Nat}, Sg l → PyData.canLayAll0 (l.map fun c => .str (one c)) = true
  | [], _ => rfl
  | c :: l, h => by
    have hc := h c (List.mem_cons_self ..)
    have e : PyData.canLay0 (.str (one c)) = true := by
      rw [sgn_iff] at hc
      have : ∀ d, d < 128 → PyData.canLay0 (.str (one d)) = true := by decide +kernel
      exact this c (by omega)
    rw [List.map_cons, PyData.canLayAll0, e, ones_lay fun d hd => h d (List.mem_cons_of_mem _ hd)]
    rfl
theorem ones_depth : ∀ l : List Nat, PyData.depthAll (l.map fun c => .str (one c)) = 0
  | [] => rfl
  | _ :: l => by
    rw [List.map_cons, PyData.depthAll, ones_depth l]
    rfl
theorem ones_shaped {l : List Nat} (h : Sg l) : SeqAt.shaped (dOnes l) = true := by
  unfold SeqAt.shaped dOnes
  rw [PyData.canLay0, ones_lay h, Bool.true_and, PyData.depth, ones_depth]
  rfl
theorem ones_nil {l : List Nat} : PyData.eqv (dOnes l) (.list []) = l.isEmpty := by
  unfold dOnes
  cases l with
  | nil => simp [PyData.eqv, PyData.eqvAll]
  | cons c l => simp [PyData.eqv, PyData.eqvAll]
theorem Fx.toSame {L : Addr} {H H' : Hp} (f : Fx L H H') (n : H L = none) : Same H H' := fun b o e => f b o e (ne_of_none e n)
theorem glu_take {l : List Nat} {i c : Nat} (h : l[i]? = some c) : gluT (mkS (shortL (l.take i))) (one c) = mkS (shortL (l.take (i + 1))) := by
  unfold gluT
  rw [tl_mkS, tl_one, glu_one, ← shortL_snoc, List.take_add_one, h]
  rfl
end Sf
namespace Sf
open PySem PySem.Spec PyProof.Rows L2 TL
/-! ### repr(a) of an own class -/
section
variable {X : Cx} {k : Nat} {f C : Addr} {fd : FuncData} {ps : List Str} {sp : Sp}
def rReprW (C : Addr) (sp : Sp) : List V → Hp → VK → Prop := fun xs H Q => ∃ a dx fs, xs = [.ref a] ∧ H a = some (.ins C dx fs) ∧ sp [.ref a] H (fun v H' => ∃ y : Str, v = .str y ∧ Q (.str y) H') E0
theorem call_reprW (F : FnOk X.prog X.w X.K X.mg X.base CX0 k f fd ps sp) (hs : PySem.W.findIn X.K (.ref C) "__repr__" = some (some (.ref f))) (hf : PySem.W.isFn X.K (.ref f) = true) (hb : Binds X.K fd ps []) (hr : Room (k + 1) X.A) :
    CallR X (.builtin "repr") (rReprW C sp) := by
  intro pins s σ H xs us Q I r h
  obtain ⟨a, dx, fs, rfl, ha, h⟩ := h
  obtain ⟨u1, rfl, r1⟩ := vals1 r
  cases r1
  obtain ⟨mA, J, _⟩ := ins_get I.hok ha
  obtain ⟨od, J, _⟩ := J.look
  obtain ⟨m, hF⟩ := I.fr
  refine PySem.W.repr_K hr.in1.units0 hF I.ok.mod.kin J hs hf ?_
  refine wpAny_mono (run_fnA F hr.in1 I.env0.in1 hb I (show Vals [V.ref a] [Value.ref a] from .cons rfl .nil) h) (fun v s' hv => ?_) fun _ _ z => z
  obtain ⟨z, H', I', rz, y, rfl, q⟩ := hv
  obtain ⟨t, rfl⟩ := rz
  exact ⟨.str y, H', I', ⟨t, rfl⟩, q⟩
end
section
variable {P : Program} {w : World} {K : PySem.W.Frag} {mg : Str → Option Value} {base : Heap} {C : Addr}
/-! ### World.letters -/
def ltS (L : Nat → List (Int × Int)) : Str := mkS (smls.filter fun c => !(L c).isEmpty)
def spLet (C : Addr) : Sp := fun vs H Q _ => ∃ (p : Addr) (n : Int) (L : Nat → List (Int × Int)), vs = [.ref p] ∧ WAt C H p n L ∧ ∀ H', Same H H' → Q (.str (ltS L)) H'
theorem kvI_emp (l : List (Int × Int)) : (kvI l).isEmpty = l.isEmpty := by cases l <;> rfl
theorem sc_let : FnScope ["self", "letter"] ["self"] (defScope s_World_letters) := ⟨rfl, rfl, rfl, by decide +kernel, rfl, by decide +kernel, by decide +kernel⟩
theorem has_let (F : MAt K C "letters" "World.letters" s_World_letters ["self"]) (B : Blt mg) (T_World : WC K mg C) {t1 : Tok} (C_LETTERS : mg "LETTERS" = some (.str (Str.ofString "abcdefgh") t1)) : HasM P w K mg base C 1 "letters" ["self"] (spLet C) := F.has fun F => by
  refine F.ok sc_let (fun vs H Q E h => ?_) (fun cdv A outer s H vs Q E hr h => ?_)
  · obtain ⟨p, n, L, rfl, _⟩ := h
    rfl
  · obtain ⟨p, n, L, rfl, ⟨dx, pl, ld, d, hp, hpl, hL⟩, q⟩ := h
    refine ⟨_, (pss_one (ps_ret (pe_m1 PySem.F.slot_str_join PySem.F.type_str_join mt_joinN pe_str (pe_lc (own := [("letter", 1)]) (g := gName 1) (tt := tTest (tOp rNeDE (tDGet (tFld K (tVar 0) "leads") (tVar 1)) tDNewK)) (by rfl) sc_let.nd (pi_str (pe_gS (by rfl) C_LETTERS)) (blkOk_by (own := [("letter", 1)]) (N := ["self", "letter"]) (sc := defScope s_World_letters) (by decide +kernel)) (fun _ _ _ _ _ => pg_name (i := 1) sc_let.nd rfl (.inl rfl)) (fun _ _ _ _ _ => by exact pts_one (pt_cmpR (op_neDE hr.units0) (pe_dget (hu_of hr) (pe_fld (pv 0) rfl) (pv 1) (fun _ _ => rfl)) pe_dnewK (nomark _))) (fun _ _ _ _ _ => (pv 1)))))), ?_⟩
    walk_at "go"
    refine w_lcS (fun r i H2 => Same H H2 ∧ H r = none ∧ H2 r = some (.lst ((((smls.take i).filter fun c => !(L c).isEmpty).map one).map V.str))) (fun r H2 hr nr => ⟨nr.same, nr.nn, hr⟩) ?_ ?_
    · rintro r i c H2 hc ⟨s2, nr, hr2⟩
      rw [smls_tl] at hc
      have hcs : c ∈ smls := List.mem_of_getElem? hc
      walk_at "go"
      refine w_kFld (s2.at hp) T_World.cl T_World.nL (wf_leads _ _) ?_
      walk_at "go"
      refine w_kDGetS (s2.at hL.hd) (val_leV (smls_sgs c hcs)) ?_
      refine w_dnewK (fun p2 H3 hp3 np3 => ?_)
      refine w_neDE (np3.at (s2.at (hL.hc c (smls_sgs c hcs)))) hp3 ?_
      rw [kvI_emp]
      walk_at "go"
      have s3 := s2.nw np3
      rw [take_snoc hc, List.filter_append]
      refine w_tstB (fun e => ?_) (fun e => ?_)
      · walk_at "go"
        refine w_kIt (np3.at hr2) ?_ (fun H4 h4 o4 => ⟨s3.off o4 nr, nr, ?_⟩)
        · rw [List.length_map, List.length_map]
          refine lineLt_of (Nat.le_trans (List.length_filter_le _ _) ?_)
          rw [List.length_take]
          exact Nat.le_trans (Nat.min_le_right _ _) (by decide)
        · rw [h4, List.filter_cons, if_pos e, List.filter_nil, List.map_append, List.map_append]
          rfl
      · refine ⟨s3, nr, ?_⟩
        rw [List.filter_cons, if_neg (by rw [e]; exact fun z => nomatch z), List.filter_nil, List.append_nil]
        exact np3.at hr2
    · rintro r H2 ⟨s2, nr, hr2⟩
      have hfull : smls.take (tl (Str.ofString "abcdefgh")).length = smls := by decide +kernel
      rw [hfull] at hr2
      refine w_join hr2 (join_fit (Nat.le_trans (List.length_filter_le _ _) (by decide))) ?_
      rw [join_ones]
      exact q H2 s2
/-! ### f'..' -/
def kJs (ts : List TE) (acc : Str) (σ : L2.St) (Q : Str → Hp → Prop) : VK := fun x H1 => ∃ y : Str, x = .str y ∧ (acc ++ y).length ≤ sizeLine ∧ tJs ts (acc ++ y) σ H1 Q
theorem w_js {t : TE} {ts : List TE} {acc : Str} {σ : L2.St} {H : Hp} {Q : Str → Hp → Prop} (q : t σ H (kJs ts acc σ Q)) : tJs (t :: ts) acc σ H Q := q
theorem w_kJs {ts : List TE} {acc y : Str} {σ : L2.St} {H : Hp} {Q : Str → Hp → Prop} (h : (acc ++ y).length ≤ sizeLine) (q : tJs ts (acc ++ y) σ H Q) : kJs ts acc σ Q (.str y) H := ⟨y, rfl, h, q⟩
theorem w_jsN {acc : Str} {σ : L2.St} {H : Hp} {Q : Str → Hp → Prop} (q : Q acc H) : tJs [] acc σ H Q := q
def kFmt (Q : VK) : VK := fun x H1 => (∃ y : Str, x = .str y ∧ y.length ≤ sizeLine ∧ Q (.str y) H1) ∨ ∃ i : Int, x = .int i ∧ i.natAbs.log2 < 1920 ∧ Q (.str (toString i)) H1
theorem w_fmt {te : TE} {σ : L2.St} {H : Hp} {Q : VK} (q : te σ H (kFmt Q)) : tFmt te σ H Q := q
theorem w_kFmtI {i : Int} {H : Hp} {Q : VK} (h : i.natAbs.log2 < 1920) (q : Q (.str (toString i)) H) : kFmt Q (.int i) H := .inr ⟨i, rfl, h, q⟩
theorem toStrL {i : Int} (h : i.natAbs.log2 < 1920) : (toString i : Str).length ≤ 1921 := int_text_len_1921 h
theorem log_small {i : Int} (h0 : 0 ≤ i) (h1 : i ≤ 1000000) : i.natAbs.log2 < 1920 := by
  have h : i.natAbs < 2 ^ 20 := by omega
  by_cases hz : i.natAbs = 0
  · rw [hz]; decide
  · exact Nat.lt_trans ((Nat.log2_lt hz).mpr h) (by decide)
/-! ### World.__repr__ -/
def wtext (n : Int) (k : Nat) : Str := (((Str.ofString "World(" ++ toString n) ++ Str.ofString " places, ") ++ toString (k : Int)) ++ Str.ofString " moves)"
def spWRp (C : Addr) : Sp := fun vs H Q _ => ∃ (p : Addr) (n : Int) (L : Nat → List (Int × Int)), vs = [.ref p] ∧ WAt C H p n L ∧ (∀ c ∈ smls, (L c).length ≤ 10000) ∧ 0 ≤ n ∧ n ≤ 1000 ∧ (mvsOf L).length ≤ 100000 ∧ ∀ H', Same H H' → Q (.str (wtext n (mvsOf L).length)) H'
theorem sc_wrp : FnScope ["self"] ["self"] (defScope s_World___repr__) := ⟨rfl, rfl, rfl, by decide +kernel, rfl, by decide +kernel, by decide +kernel⟩
theorem has_wrp (F : MAt K C "__repr__" "World.__repr__" s_World___repr__ ["self"]) (B : Blt mg) (T_World : WC K mg C) (h_Mv : HasM P w K mg base C 1 "moves" ["self"] (spMvs C)) : HasM P w K mg base C 2 "__repr__" ["self"] (spWRp C) := F.has fun F => by
  obtain ⟨f_Mv, fd_Mv, m_Mv, b_Mv, G_Mv⟩ := h_Mv
  refine F.ok sc_wrp (fun vs H Q E h => ?_) (fun cdv A outer s H vs Q E hr h => ?_)
  · obtain ⟨p, n, L, rfl, _⟩ := h
    rfl
  · obtain ⟨p, n, L, rfl, hW, hsz, n0, n1, hml, q⟩ := h
    refine ⟨_, (pss_one (ps_ret (pe_joined (.cons pe_str (.cons (pe_fmt (pe_callB call_lenQ (by rfl) B.len PySem.boot_len (pa_cons (pe_fld (pv 0) rfl) pa_nil))) (.cons pe_str (.cons (pe_fmt (pe_callB call_lenQ (by rfl) B.len PySem.boot_len (pa_cons (pe_meth0 (pv 0) T_World.cl m_Mv G_Mv (hr.mono (by decide)) b_Mv .nil pass0) pa_nil))) (.cons pe_str .nil)))))))), ?_⟩
    obtain ⟨dx, pl, ld, d, hp, hpl, hL⟩ := id hW
    rw [rgV_plc] at hpl
    have t1 := toStrL (log_small n0 (by omega))
    have t2 := toStrL (i := ((mvsOf L).length : Int)) (log_small (by omega) (by omega))
    have l1 : (Str.ofString "World(").length = 6 := by decide +kernel
    have l2 : (Str.ofString " places, ").length = 9 := by decide +kernel
    have l3 : (Str.ofString " moves)").length = 7 := by decide +kernel
    have l0 : Str.empty ++ Str.ofString "World(" = Str.ofString "World(" := by decide +kernel
    refine w_js ?_
    walk_at "go"
    refine w_kJs (by rw [l0]; decide +kernel) ?_
    rw [l0]
    refine w_js (w_fmt ?_)
    walk_at "go"
    refine w_kFld hp T_World.cl T_World.nP (wf_places _ _) ?_
    walk_at "go"
    rw [List.length_map, plc_len, show ((n.toNat : Nat) : Int) = n by omega]
    refine w_kFmtI (log_small n0 (by omega)) (w_kJs (line_of (by rw [len_app]; omega)) (w_js ?_))
    walk_at "go"
    refine w_kJs (line_of (by rw [len_app, len_app]; omega)) (w_js (w_fmt ?_))
    walk_at "go"
    refine w_kMeth hp (wf_no _ _ (by decide +kernel) (by decide +kernel)) ?_
    walk_at "go"
    refine ⟨p, n, L, rfl, hW, hsz, fun r H1 us1 nr s1 hr1 hm1 => ?_⟩
    have el : us1.length = (mvsOf L).length := (Paired.length hm1).trans (sortM_len _)
    walk_at "go"
    rw [el]
    refine w_kFmtI (log_small (by omega) (by omega)) (w_kJs (line_of (by rw [len_app, len_app, len_app]; omega)) (w_js ?_))
    walk_at "go"
    refine w_kJs (line_of (by rw [len_app, len_app, len_app, len_app]; omega)) (w_jsN ?_)
    exact q H1 s1
end
end Sf
namespace Sf
open PySem PySem.Spec PyProof.Rows L2 TL
section
variable {P : Program} {w : World} {K : PySem.W.Frag} {mg : Str → Option Value} {base : Heap} {C : Addr}
/-! ### _law_mixed -/
def spMx : Sp := fun vs H Q _ => ∃ (b l p : Addr) (us : List V), vs = [.ref b, .ref p] ∧ Bag H b l ∧ H p = some (.lst us) ∧ p ≠ b ∧ us.length ≤ 10000 ∧
  ∀ (f : Addr) (us' : List V) (H' : Hp), us'.Perm us → H' f = some (.lst us') → H f = none → f ≠ b → f ≠ l → Bag H' b l → Fx b H H' → Q (.ref f) H'
theorem sc_mx : FnScope ["_law_bag", "_law_row", "_law_left", "_law_found", "_law_turn"] ["_law_bag", "_law_row"] (defScope s__law_mixed) := ⟨rfl, rfl, rfl, by decide +kernel, rfl, by decide +kernel, by decide +kernel⟩
theorem has_mx (F : FnAt K mg "_law_mixed" s__law_mixed ["_law_bag", "_law_row"]) (B : Blt mg) (h_Pu : HasPull P w K mg base) : Has P w K mg base 2 "_law_mixed" ["_law_bag", "_law_row"] spMx := F.has fun F => by
  obtain ⟨f_Pu, fd_Pu, g_Pu, k_Pu, b_Pu, G_Pu⟩ := h_Pu
  refine F.ok sc_mx (fun vs H Q E h => ?_) (fun cdv A outer s H vs Q E hr h => ?_)
  · obtain ⟨b, l, p, us, rfl, _⟩ := h
    rfl
  · obtain ⟨b, l, p, us, rfl, hB, hp, npb, hl, q⟩ := h
    refine ⟨_, (pss_cons (ps_set (i := 2) sc_mx.nd rfl (.inl rfl) (pe_callTy call_listO (by rfl) B.list (by decide +kernel) (pa_cons (pv 1) pa_nil))) (pss_cons (ps_set (i := 3) sc_mx.nd rfl (.inl rfl) (pe_lst pa_nil)) (pss_cons (ps_for PassesOwn.never rfl (pi_range1 rfl B.range (pa_cons (pe_callB call_lenQ (by rfl) B.len PySem.boot_len (pa_cons (pv 1) pa_nil)) pa_nil)) (pg_name (i := 4) sc_mx.nd rfl (.inl rfl)) (pss_one (ps_expr (pe_bm PySem.F.plainAttrs_list PySem.F.slot_list_append PySem.F.type_list_append mt_append (pv 3) (pa_cons (pe_bm PySem.F.plainAttrs_list PySem.F.slot_list_pop PySem.F.type_list_pop mt_popAt (pv 2) (pa_cons (pe_call G_Pu (hr.mono (by decide)) (by rfl) g_Pu k_Pu b_Pu .nil pass0 (pa_cons (pv 0) (pa_cons (pe_callB call_lenQ (by rfl) B.len PySem.boot_len (pa_cons (pv 2) pa_nil)) pa_nil))) pa_nil)) pa_nil))))) (pss_one (ps_ret (pv 3)))))), ?_⟩
    walk_at "go"
    refine w_listL hp (fun e H1 he ne => ?_)
    walk_at "go"
    refine w_newL (by walk_at "sz") (fun f H2 hf nf => ?_)
    have B1 := hB.nw ne
    have B2 := B1.nw nf
    have eb := hB.ne ne.nn
    have el := hB.neL ne.nn
    have fb := B1.ne nf.nn
    have fl := B1.neL nf.nn
    have ef : e ≠ f := nf.ne he
    have nfH : H f = none := by
      cases z : H f with
      | none => rfl
      | some o => have := nf.nn; rw [ne.at z] at this; cases this
    have hp2 := nf.at (ne.at hp)
    walk_at "go"
    refine w_kRng1 (by omega) (by omega) ?_
    refine w_range (fun i σ H3 => ∃ (y4 : Option V) (R S : List V), σ = [some (.ref b), some (.ref p), some (.ref e), some (.ref f), y4] ∧ Bag H3 b l ∧ Fx b H H3 ∧ H3 e = some (.lst R) ∧ H3 f = some (.lst S) ∧ (S ++ R).Perm us ∧ S.length = i)
      ⟨none, us, [], rfl, B2, (Fx.refl.nw ne).nw nf, nf.at he, hf, .refl _, rfl⟩ ?_ ?_
    · rintro i σ H3 hi ⟨y4, R, S, rfl, B3, f3, he3, hf3, hpm, hSl⟩
      have hi : i < us.length := by omega
      have hlen := hpm.length_eq
      rw [List.length_append] at hlen
      walk_at "go"
      refine ⟨b, l, _, rfl, B3, by omega, by omega, fun d H4 d0 d1 B4 f4 => ?_⟩
      walk_at "go"
      refine w_popV (f4.at eb he3) d0 d1 (by omega) (fun x R' H5 pR he5 o5 => ?_)
      have hf5 : H5 f = some (.lst S) := o5.at ef.symm (f4.at fb hf3)
      have B5 := B4.off eb el o5
      walk_at "go"
      refine w_append hf5 (lineLt_of (by omega)) (fun H6 hf6 o6 => ?_)
      walk_at "go"
      refine ⟨_, R', S ++ [x], rfl, B5.off fb fl o6, ((f3.trans f4).off o5 ?_).off o6 nfH, o6.at ef he5, hf6, ?_, by rw [List.length_append, hSl]; rfl⟩
      · exact ne.nn
      · rw [List.append_assoc]
        exact (List.Perm.append_left S pR.symm).trans hpm
    · rintro σ H3 ⟨y4, R, S, rfl, B3, f3, he3, hf3, hpm, hSl⟩
      have hlen := hpm.length_eq
      rw [List.length_append] at hlen
      have hR : R = [] := List.eq_nil_of_length_eq_zero (by
        have : S.length = us.length := by omega
        omega)
      rw [hR, List.append_nil] at hpm
      walk_at "go"
      exact q f S H3 hpm hf3 nfH fb fl B3 f3
end
/-! ### lists in another order -/
theorem paired_perm {α β : Type} {R : α → β → Prop} {as as' : List α} (h : as'.Perm as) : ∀ {bs : List β}, Paired R as bs → ∃ bs', Paired R as' bs' ∧ bs'.Perm bs := by
  induction h with
  | nil => exact fun h => ⟨_, h, .refl _⟩
  | cons x _ ih =>
    intro bs h
    cases h with
    | cons r t =>
      obtain ⟨bs', h1, h2⟩ := ih t
      exact ⟨_, .cons r h1, h2.cons _⟩
  | swap x y l =>
    intro bs h
    cases h with
    | cons r t =>
      cases t with
      | cons r2 t => exact ⟨_, .cons r2 (.cons r t), .swap _ _ _⟩
  | trans _ _ ih1 ih2 =>
    intro bs h
    obtain ⟨bs1, h1, h2⟩ := ih2 h
    obtain ⟨bs2, h3, h4⟩ := ih1 h1
    exact ⟨bs2, h3, h4.trans h2⟩
theorem mvs_perm {H : Hp} {us us' : List V} {ms : List Mv} (h : us'.Perm us) (hm : MvsAt H us ms) : ∃ ms', MvsAt H us' ms' ∧ ms'.Perm ms := paired_perm h hm
theorem WOk.perm {n : Int} {ms ms' : List Mv} (h : WOk n ms) (p : ms'.Perm ms) : WOk n ms' :=
  ⟨fun m hm => h.rg m (p.mem_iff.mp hm), h.pw.perm p.symm fun {x y} k e => ⟨fun z => (k e.symm).1 z.symm, fun z => (k e.symm).2 z.symm⟩⟩
theorem dp_mvs {K : PySem.W.Frag} {H : Hp} {us : List V} {ms : List Mv} (h : MvsAt H us ms) : DpAll K H us (ms.map dMv) := by
  induction h with
  | nil => exact .nil
  | cons r _ ih => exact .cons (mv_dp r) ih
end Sf
namespace Sf
open PySem PySem.Spec PyProof.Rows L2 TL
section
variable {P : Program} {w : World} {K : PySem.W.Frag} {mg : Str → Option Value} {base : Heap}
/-! ### _law_pick, of a list of things -/
def spLpk : Sp := fun vs H Q _ => ∃ (b l p : Addr) (us : List V), vs = [.ref b, .ref p] ∧ Bag H b l ∧ H p = some (.lst us) ∧ p ≠ b ∧ 1 ≤ us.length ∧ us.length ≤ 10000 ∧
  ∀ (v : V) (H' : Hp), v ∈ us → Bag H' b l → Fx b H H' → Q v H'
abbrev HasLpk (P : Program) (w : World) (K : PySem.W.Frag) (mg : Str → Option Value) (base : Heap) : Prop := Has P w K mg base 2 "_law_pick" ["_law_bag", "_law_row"] spLpk
theorem sc_lpk : FnScope ["_law_bag", "_law_row"] ["_law_bag", "_law_row"] (defScope s__law_pick) := ⟨rfl, rfl, rfl, by decide +kernel, rfl, by decide +kernel, by decide +kernel⟩
theorem has_lpk (F : FnAt K mg "_law_pick" s__law_pick ["_law_bag", "_law_row"]) (B : Blt mg) (h_Pu : HasPull P w K mg base) : HasLpk P w K mg base := F.has fun F => by
  obtain ⟨f_Pu, fd_Pu, g_Pu, k_Pu, b_Pu, G_Pu⟩ := h_Pu
  refine F.ok sc_lpk (fun vs H Q E h => ?_) (fun cdv A outer s H vs Q E hr h => ?_)
  · obtain ⟨b, l, p, us, rfl, _⟩ := h
    rfl
  · obtain ⟨b, l, p, us, rfl, hB, hp, npb, l1, l2, q⟩ := h
    refine ⟨_, (pss_one (ps_ret (pe_ix ix_list (pv 1) (pe_call G_Pu (hr.mono (by decide)) (by rfl) g_Pu k_Pu b_Pu .nil pass0 (pa_cons (pv 0) (pa_cons (pe_callB call_lenQ (by rfl) B.len PySem.boot_len (pa_cons (pv 1) pa_nil)) pa_nil))) (fun _ _ => rfl)))), ?_⟩
    walk_at "go"
    refine ⟨b, l, _, rfl, hB, by omega, by omega, fun d H1 d0 d1 B1 f1 => ?_⟩
    have hd : d.toNat < us.length := by omega
    refine w_ixL (f1.at npb hp) (at_of (j := d.toNat) (by omega) (List.getElem?_eq_getElem hd)) ?_
    exact q _ H1 (List.getElem_mem hd) B1 f1
end
end Sf
namespace Sf
open PySem PySem.Spec PyProof.Rows L2 TL
/-! ### the law's own leading -/
def hitS (c : Nat) (x : Int) (m : Mv) : Option Int := if m.1 = c ∧ m.2.1 = x then some m.2.2 else none
def hitG (c : Nat) (x : Int) (m : Mv) : Option Int := if m.1 = c ∧ m.2.2 = x then some m.2.1 else none
theorem hitS_lk {c : Nat} {x : Int} : ∀ {ms : List Mv}, (∀ m ∈ ms, m.1 ≠ c + 32) → lk (LM ms c) x = (ms.filterMap (hitS c x)).head?
  | [], _ => rfl
  | m :: r, h => by
    have ih := hitS_lk (c := c) (x := x) fun k hk => h k (List.mem_cons_of_mem _ hk)
    have hm := h m List.mem_cons_self
    unfold LM at ih ⊢
    by_cases e : m.1 = c
    · have e1 : mvOn c m = some (m.2.1, m.2.2) := by unfold mvOn; rw [if_pos e]
      rw [List.filterMap_cons_some e1]
      by_cases e2 : m.2.1 = x
      · have e3 : hitS c x m = some m.2.2 := by unfold hitS; rw [if_pos ⟨e, e2⟩]
        rw [List.filterMap_cons_some e3]
        unfold lk
        rw [List.find?_cons, decide_eq_true e2]
        rfl
      · have e3 : hitS c x m = none := by unfold hitS; rw [if_neg (fun z => e2 z.2)]
        rw [List.filterMap_cons_none e3, ← ih]
        unfold lk
        rw [List.find?_cons, decide_eq_false e2]
    · have e1 : mvOn c m = none := by unfold mvOn; rw [if_neg e, if_neg hm]
      have e3 : hitS c x m = none := by unfold hitS; rw [if_neg (fun z => e z.1)]
      rw [List.filterMap_cons_none e1, List.filterMap_cons_none e3]
      exact ih
theorem hitG_lk {c : Nat} {x : Int} : ∀ {ms : List Mv}, (∀ m ∈ ms, m.1 ≠ c) → lk (LM ms c) x = (ms.filterMap (hitG (c + 32) x)).head?
  | [], _ => rfl
  | m :: r, h => by
    have ih := hitG_lk (c := c) (x := x) fun k hk => h k (List.mem_cons_of_mem _ hk)
    have hm := h m List.mem_cons_self
    unfold LM at ih ⊢
    by_cases e : m.1 = c + 32
    · have e1 : mvOn c m = some (m.2.2, m.2.1) := by unfold mvOn; rw [if_neg hm, if_pos e]
      rw [List.filterMap_cons_some e1]
      by_cases e2 : m.2.2 = x
      · have e3 : hitG (c + 32) x m = some m.2.1 := by unfold hitG; rw [if_pos ⟨e, e2⟩]
        rw [List.filterMap_cons_some e3]
        unfold lk
        rw [List.find?_cons, decide_eq_true e2]
        rfl
      · have e3 : hitG (c + 32) x m = none := by unfold hitG; rw [if_neg (fun z => e2 z.2)]
        rw [List.filterMap_cons_none e3, ← ih]
        unfold lk
        rw [List.find?_cons, decide_eq_false e2]
    · have e1 : mvOn c m = none := by unfold mvOn; rw [if_neg hm, if_neg e]
      have e3 : hitG (c + 32) x m = none := by unfold hitG; rw [if_neg (fun z => e z.1)]
      rw [List.filterMap_cons_none e1, List.filterMap_cons_none e3]
      exact ih
theorem fm_snoc {α β : Type} {f : α → Option β} {l : List α} {i : Nat} {x : α} (h : l[i]? = some x) : (l.take (i + 1)).filterMap f = (l.take i).filterMap f ++ (f x).toList := by
  rw [take_snoc h, List.filterMap_append, List.filterMap_cons]
  cases f x <;> rfl
section
variable {P : Program} {w : World} {K : PySem.W.Frag} {mg : Str → Option Value} {base : Heap} {C : Addr}
def spLld : Sp := fun vs H Q _ => ∃ (a : Addr) (us : List V) (ms : List Mv) (z : Str) (x : Int), vs = [.ref a, .str z, .int x] ∧ H a = some (.lst us) ∧ MvsAt H us ms ∧ (∀ m ∈ ms, 97 ≤ m.1 ∧ m.1 ≤ 104) ∧ ms.length ≤ 100000 ∧ Wd z ∧
  ∀ H', Same H H' → Q (oV (ledM (stp (LM ms)) (tl z) x)) H'
abbrev HasLld (P : Program) (w : World) (K : PySem.W.Frag) (mg : Str → Option Value) (base : Heap) : Prop := Has P w K mg base 1 "_law_led" ["_law_moves", "_law_word", "_law_place"] spLld
theorem sc_lld : FnScope ["_law_moves", "_law_word", "_law_place", "_law_sign", "_law_letter", "_law_start", "_law_end", "_law_ends"] ["_law_moves", "_law_word", "_law_place"] (defScope s__law_led) := ⟨rfl, rfl, rfl, by decide +kernel, rfl, by decide +kernel, by decide +kernel⟩
theorem has_lld (F : FnAt K mg "_law_led" s__law_led ["_law_moves", "_law_word", "_law_place"]) : HasLld P w K mg base := F.has fun F => by
  refine F.ok sc_lld (fun vs H Q E h => ?_) (fun cdv A outer s H vs Q E hr h => ?_)
  · obtain ⟨a, us, ms, z, x, rfl, _⟩ := h
    rfl
  · obtain ⟨a, us, ms, z, x, rfl, ha, hm, hms, hlen, hz, q⟩ := h
    refine ⟨_, (pss_cons (ps_for PassesOwn.never rfl (pi_str (pv 1)) (pg_name (i := 3) sc_lld.nd rfl (.inr rfl)) (pss_one (ps_if (PW.pt (pw_and (pt_cmpR op_notNn (pv 2) pe_non (nomark _)) (pw_and1 (pt_cmpR op_inSg (pv 3) pe_str rfl)))) (pss_cons (ps_setLc (i := 7) (own := [("_law_letter", 4), ("_law_start", 5), ("_law_end", 6)]) (g := gTup K 3 (gCons (gName 4) (gCons (gName 5) (gCons (gName 6) gNil)))) (by rfl) sc_lld.nd rfl rfl (sw_true rfl rfl rfl (by decide +kernel)) (pi_list (pv 0)) (blkOk_by (own := [("_law_letter", 4), ("_law_start", 5), ("_law_end", 6)]) (N := ["_law_moves", "_law_word", "_law_place", "_law_sign", "_law_letter", "_law_start", "_law_end", "_law_ends"]) (sc := defScope s__law_led) (by decide +kernel)) (fun _ _ _ _ _ => pg_tup rfl (pgs_cons (pg_name (i := 4) sc_lld.nd rfl (.inl rfl)) (pgs_cons (pg_name (i := 5) sc_lld.nd rfl (.inl rfl)) (pgs_cons (pg_name (i := 6) sc_lld.nd rfl (.inl rfl)) pgs_nil)))) (fun _ _ _ _ _ => pts_one (PW.pt (pw_and (pt_cmpR op_eq (pv 4) (pv 3) (nomark _)) (pw_and1 (pt_cmpR op_eq (pv 5) (pv 2) (nomark _)))))) (fun _ _ _ _ _ => (pv 6))) (pss_one (ps_set (i := 2) sc_lld.nd rfl (.inr rfl) (pe_ifExp (pt_cmpR (op_neD hr.units) (pv 7) (pe_lst pa_nil) (nomark _)) (pe_ix ix_list (pv 7) pe_int (fun _ _ => rfl)) pe_non)))) (pss_one (ps_if (pt_cmpR op_notNn (pv 2) pe_non (nomark _)) (pss_cons (ps_setLc (i := 7) (own := [("_law_letter", 4), ("_law_start", 5), ("_law_end", 6)]) (g := gTup K 3 (gCons (gName 4) (gCons (gName 5) (gCons (gName 6) gNil)))) (by rfl) sc_lld.nd rfl rfl (sw_true rfl rfl rfl (by decide +kernel)) (pi_list (pv 0)) (blkOk_by (own := [("_law_letter", 4), ("_law_start", 5), ("_law_end", 6)]) (N := ["_law_moves", "_law_word", "_law_place", "_law_sign", "_law_letter", "_law_start", "_law_end", "_law_ends"]) (sc := defScope s__law_led) (by decide +kernel)) (fun _ _ _ _ _ => pg_tup rfl (pgs_cons (pg_name (i := 4) sc_lld.nd rfl (.inl rfl)) (pgs_cons (pg_name (i := 5) sc_lld.nd rfl (.inl rfl)) (pgs_cons (pg_name (i := 6) sc_lld.nd rfl (.inl rfl)) pgs_nil)))) (fun _ _ _ _ _ => pts_one (PW.pt (pw_and (pt_cmpR op_eq (pv 4) (pe_m0 PySem.F.slot_str_lower PySem.F.type_str_lower mt_loN (pv 3)) (nomark _)) (pw_and1 (pt_cmpR op_eq (pv 6) (pv 2) (nomark _)))))) (fun _ _ _ _ _ => (pv 5))) (pss_one (ps_set (i := 2) sc_lld.nd rfl (.inr rfl) (pe_ifExp (pt_cmpR (op_neD hr.units) (pv 7) (pe_lst pa_nil) (nomark _)) (pe_ix ix_list (pv 7) pe_int (fun _ _ => rfl)) pe_non)))) pss_nil))))) (pss_one (ps_ret (pv 2)))), ?_⟩
    walk_at "go"
    refine w_str (fun i σ H2 => ∃ (y3 y4 y5 y6 y7 : Option V), σ = [some (.ref a), some (.str z), some (oV (ledM (stp (LM ms)) ((tl z).take i) x)), y3, y4, y5, y6, y7] ∧ Same H H2) ⟨none, none, none, none, none, rfl, .refl _⟩ ?_ ?_
    · rintro i c σ H2 hc ⟨y3, y4, y5, y6, y7, rfl, s2⟩
      have e1 := ledM_snoc (st := stp (LM ms)) (x := x) hc
      have ha2 := s2.at ha
      have hsg := sgn_iff.mp (hz c (List.mem_of_getElem? hc))
      have hus : us.length = ms.length := Paired.length hm
      have hlf : ∀ (f : Mv → Option Int) (j : Nat), (((ms.take j).filterMap f).map V.int).length < sizeLine := fun f j => by
        rw [List.length_map]
        exact lineLt_of (Nat.le_trans (List.length_filterMap_le ..) (Nat.le_trans (by rw [List.length_take]; exact Nat.min_le_right _ _) hlen))
      cases e2 : ledM (stp (LM ms)) ((tl z).take i) x with
      | none =>
        rw [e2] at e1
        have e1 : ledM (stp (LM ms)) ((tl z).take (i + 1)) x = none := e1
        show gName _ _ [some (V.ref a), some (V.str z), some V.non, y3, y4, y5, y6, y7] _ _
        walk_at "go"
        exact ⟨_, _, _, _, _, by rw [e1]; rfl, s2⟩
      | some y =>
        rw [e2] at e1
        have e1 : ledM (stp (LM ms)) ((tl z).take (i + 1)) x = lk (LM ms c) y := e1
        show gName _ _ [some (V.ref a), some (V.str z), some (V.int y), y3, y4, y5, y6, y7] _ _
        walk_at "go"
        refine w_if2 (fun hin => ?_) (fun hin => ?_)
        · have hs := in_small.mp hin
          rw [hitS_lk (fun m hm => by have := hms m hm; omega)] at e1
          walk_at "go"
          refine w_lcL (xs := us) (fun p j H3 => Same H2 H3 ∧ H2 p = none ∧ H3 p = some (.lst (((ms.take j).filterMap (hitS c y)).map V.int))) (fun p H3 hp np => ⟨np.same, np.nn, hp⟩) (fun p j H3 _ h => h.1.at ha2) ?_ ?_
          · rintro p j v H3 hv ⟨s3, np, hp⟩
            obtain ⟨m, hmj, t, rfl, ht⟩ := paired_get hm hv
            have ht3 := s3.at (s2.at ht)
            walk_at "go"
            refine w_and2 (fun h1 => ?_) (fun h1 => ?_)
            · walk_at "go"
              refine w_tst2 (fun h2 => ?_) (fun h2 => ?_)
              · walk_at "go"
                refine w_kIt hp (hlf _ _) (fun H4 hp4 o4 => ⟨s3.off o4 np, np, ?_⟩)
                have e3 : hitS c y m = some m.2.2 := by unfold hitS; rw [if_pos ⟨one_inj h1, h2⟩]
                rw [hp4, fm_snoc hmj, e3, List.map_append]
                rfl
              · have e3 : hitS c y m = none := by unfold hitS; rw [if_neg (fun z => h2 z.2)]
                exact ⟨s3, np, by rw [fm_snoc hmj, e3, Option.toList, List.append_nil]; exact hp⟩
            · walk_at "go"
              have e3 : hitS c y m = none := by unfold hitS; rw [if_neg (fun z => h1 (congrArg one z.1))]
              exact ⟨s3, np, by rw [fm_snoc hmj, e3, Option.toList, List.append_nil]; exact hp⟩
          · rintro p H3 ⟨s3, np, hp⟩
            rw [hus, List.take_length] at hp
            walk_at "go"
            refine w_newL (by decide) (fun p2 H4 hp4 np4 => ?_)
            refine w_neNilI (np4.at hp) hp4 ?_
            walk_at "go"
            cases e5 : ms.filterMap (hitS c y) with
            | nil =>
              rw [e5] at e1
              have e1 : ledM (stp (LM ms)) ((tl z).take (i + 1)) x = none := e1
              refine w_ifEF ?_
              walk_at "go"
              exact ⟨_, _, _, _, _, by rw [e1]; rfl, (s2.trans s3).nw np4⟩
            | cons u r =>
              rw [e5] at e1 hp
              have e1 : ledM (stp (LM ms)) ((tl z).take (i + 1)) x = some u := e1
              refine w_ifET ?_
              walk_at "go"
              refine w_ixL (np4.at hp) (at_of (j := 0) rfl rfl) ?_
              walk_at "go"
              exact ⟨_, _, _, _, _, by rw [e1]; rfl, (s2.trans s3).nw np4⟩
        · have hs : 65 ≤ c ∧ c ≤ 72 := by
            rcases hsg with h | h
            · exact absurd (in_small.mpr h) hin
            · exact h
          rw [hitG_lk (fun m hm => by have := hms m hm; omega)] at e1
          walk_at "go"
          refine w_lcL (xs := us) (fun p j H3 => Same H2 H3 ∧ H2 p = none ∧ H3 p = some (.lst (((ms.take j).filterMap (hitG (c + 32) y)).map V.int))) (fun p H3 hp np => ⟨np.same, np.nn, hp⟩) (fun p j H3 _ h => h.1.at ha2) ?_ ?_
          · rintro p j v H3 hv ⟨s3, np, hp⟩
            obtain ⟨m, hmj, t, rfl, ht⟩ := paired_get hm hv
            have ht3 := s3.at (s2.at ht)
            walk_at "go"
            refine w_lo1 hs ?_
            walk_at "go"
            refine w_and2 (fun h1 => ?_) (fun h1 => ?_)
            · walk_at "go"
              refine w_tst2 (fun h2 => ?_) (fun h2 => ?_)
              · walk_at "go"
                refine w_kIt hp (hlf _ _) (fun H4 hp4 o4 => ⟨s3.off o4 np, np, ?_⟩)
                have e3 : hitG (c + 32) y m = some m.2.1 := by unfold hitG; rw [if_pos ⟨one_inj h1, h2⟩]
                rw [hp4, fm_snoc hmj, e3, List.map_append]
                rfl
              · have e3 : hitG (c + 32) y m = none := by unfold hitG; rw [if_neg (fun z => h2 z.2)]
                exact ⟨s3, np, by rw [fm_snoc hmj, e3, Option.toList, List.append_nil]; exact hp⟩
            · walk_at "go"
              have e3 : hitG (c + 32) y m = none := by unfold hitG; rw [if_neg (fun z => h1 (congrArg one z.1))]
              exact ⟨s3, np, by rw [fm_snoc hmj, e3, Option.toList, List.append_nil]; exact hp⟩
          · rintro p H3 ⟨s3, np, hp⟩
            rw [hus, List.take_length] at hp
            walk_at "go"
            refine w_newL (by decide) (fun p2 H4 hp4 np4 => ?_)
            refine w_neNilI (np4.at hp) hp4 ?_
            walk_at "go"
            cases e5 : ms.filterMap (hitG (c + 32) y) with
            | nil =>
              rw [e5] at e1
              have e1 : ledM (stp (LM ms)) ((tl z).take (i + 1)) x = none := e1
              refine w_ifEF ?_
              walk_at "go"
              exact ⟨_, _, _, _, _, by rw [e1]; rfl, (s2.trans s3).nw np4⟩
            | cons u r =>
              rw [e5] at e1 hp
              have e1 : ledM (stp (LM ms)) ((tl z).take (i + 1)) x = some u := e1
              refine w_ifET ?_
              walk_at "go"
              refine w_ixL (np4.at hp) (at_of (j := 0) rfl rfl) ?_
              walk_at "go"
              exact ⟨_, _, _, _, _, by rw [e1]; rfl, (s2.trans s3).nw np4⟩
    · rintro σ H2 ⟨y3, y4, y5, y6, y7, rfl, s2⟩
      rw [List.take_length]
      walk_at "go"
      exact q _ s2
end
end Sf
namespace Sf
open PySem PySem.Spec PyProof.Rows L2 TL
section
variable {P : Program} {w : World} {K : PySem.W.Frag} {mg : Str → Option Value} {base : Heap} {C : Addr}
/-! ### _law_motion -/
def spLmo : Sp := fun vs H Q _ => ∃ (n : Int) (a : Addr) (us : List V) (ms : List Mv) (z : Str), vs = [.int n, .ref a, .str z] ∧ 0 ≤ n ∧ n ≤ 1000 ∧ H a = some (.lst us) ∧ MvsAt H us ms ∧ (∀ m ∈ ms, 97 ≤ m.1 ∧ m.1 ≤ 104) ∧ ms.length ≤ 100000 ∧ Wd z ∧
  ∀ (t : Addr) (H' : Hp), H t = none → Same H H' → H' t = some (.tup (motV (LM ms) n z)) → Q (.ref t) H'
abbrev HasLmo (P : Program) (w : World) (K : PySem.W.Frag) (mg : Str → Option Value) (base : Heap) : Prop := Has P w K mg base 2 "_law_motion" ["_law_many", "_law_moves", "_law_word"] spLmo
theorem sc_lmo : FnScope ["_law_many", "_law_moves", "_law_word", "_law_place"] ["_law_many", "_law_moves", "_law_word"] (defScope s__law_motion) := ⟨rfl, rfl, rfl, by decide +kernel, rfl, by decide +kernel, by decide +kernel⟩
theorem has_lmo (F : FnAt K mg "_law_motion" s__law_motion ["_law_many", "_law_moves", "_law_word"]) (B : Blt mg) (h_Lld : HasLld P w K mg base) : HasLmo P w K mg base := F.has fun F => by
  obtain ⟨f_Lld, fd_Lld, g_Lld, k_Lld, b_Lld, G_Lld⟩ := h_Lld
  refine F.ok sc_lmo (fun vs H Q E h => ?_) (fun cdv A outer s H vs Q E hr h => ?_)
  · obtain ⟨n, a, us, ms, z, rfl, _⟩ := h
    rfl
  · obtain ⟨n, a, us, ms, z, rfl, n0, n1, ha, hm, hms, hlen, hz, q⟩ := h
    refine ⟨_, (pss_one (ps_ret (pe_callTy call_tupO (by rfl) B.tuple (by decide +kernel) (pa_cons (pe_lc (own := [("_law_place", 3)]) (g := gName 3) (tt := tYes) (by rfl) sc_lmo.nd (pi_range1 rfl B.range (pa_cons (pv 0) pa_nil)) (blkOk_by (own := [("_law_place", 3)]) (N := ["_law_many", "_law_moves", "_law_word", "_law_place"]) (sc := defScope s__law_motion) (by decide +kernel)) (fun _ _ _ _ _ => pg_name (i := 3) sc_lmo.nd rfl (.inl rfl)) (fun _ _ _ _ _ => pts_nil) (fun _ _ _ _ _ => (pe_call G_Lld (hr.mono (by decide)) (by rfl) g_Lld k_Lld b_Lld .nil pass0 (pa_cons (pv 1) (pa_cons (pv 2) (pa_cons (pv 3) pa_nil)))))) pa_nil)))), ?_⟩
    walk_at "go"
    refine w_kRng1 (by omega) (by omega) ?_
    refine w_lcR (lo := 0) (fun r i H2 => Same H H2 ∧ H r = none ∧ H2 r = some (.lst (((plc n).take i).map fun x => oV (ledM (stp (LM ms)) (tl z) x)))) (fun r H2 hr nr => ⟨nr.same, nr.nn, hr⟩) ?_ ?_
    · rintro r i H2 hi ⟨s2, nr, hr2⟩
      have hx := plc_at hi
      walk_at "go"
      refine ⟨a, us, ms, z, _, rfl, s2.at ha, hm.tps (.of s2), hms, hlen, hz, fun H3 s3 => ?_⟩
      refine w_kIt (s3.at hr2) ?_ (fun H4 h4 o4 => ⟨(s2.trans s3).off o4 nr, nr, ?_⟩)
      · rw [List.length_map, List.length_take, plc_len]
        exact lineLt_of (by omega)
      · rw [h4, take_snoc hx, List.map_append]
        rfl
    · rintro r H2 ⟨s2, nr, hr2⟩
      rw [← plc_len, List.take_length] at hr2
      walk_at "go"
      refine w_tupL hr2 (fun t H3 ht3 nt3 => ?_)
      exact q t H3 (s2.free nt3.nn) (s2.nw nt3) ht3
end
end Sf
namespace Sf
open PySem PySem.Spec PyProof.Rows L2 TL
theorem cut3s (z : Str) {a b : Int} (h0 : 0 ≤ a) (h1 : a ≤ b) (h2 : b ≤ z.length) : z = cutS z none (some a) ++ cutS z (some a) (some b) ++ cutS z (some b) none ∧ cutS z none (some b) = cutS z none (some a) ++ cutS z (some a) (some b) := by
  have hz : z.length = (tl z).length := len_tl z
  have ix : ∀ c : Int, 0 ≤ c → c ≤ z.length → HT.sIx z.length 0 (some c) = c.toNat ∧ HT.sIx z.length z.length (some c) = c.toNat := fun c c0 c1 => by
    have e : (if c < 0 then (c + (z.length : Int)).toNat else min c.toNat z.length) = c.toNat := by
      rw [if_neg (by omega)]
      omega
    exact ⟨e, e⟩
  have e0 : HT.sIx z.length 0 none = 0 := rfl
  have en : HT.sIx z.length z.length none = z.length := rfl
  obtain ⟨a1, a2⟩ := ix a h0 (by omega)
  obtain ⟨b1, b2⟩ := ix b (by omega) h2
  have t1 : tl (cutS z none (some a)) = (tl z).take a.toNat := by rw [tl_cut, e0, a2, Nat.sub_zero, List.drop_zero]
  have t2 : tl (cutS z (some a) (some b)) = ((tl z).drop a.toNat).take (b.toNat - a.toNat) := by rw [tl_cut, a1, b2]
  have t3 : tl (cutS z (some b) none) = (tl z).drop b.toNat := by
    rw [tl_cut, b1, en, List.take_of_length_le]
    rw [List.length_drop]
    omega
  have t4 : tl (cutS z none (some b)) = (tl z).take b.toNat := by rw [tl_cut, e0, b2, Nat.sub_zero, List.drop_zero]
  have hab : (tl z).take a.toNat ++ ((tl z).drop a.toNat).take (b.toNat - a.toNat) = (tl z).take b.toNat := by
    rw [← List.take_add]
    congr 1
    omega
  constructor
  · refine ext_tl ?_
    rw [tl_append, tl_append, t1, t2, t3, hab, List.take_append_drop]
  · refine ext_tl ?_
    rw [tl_append, t1, t2, t4, hab]
theorem sIx_lo {n : Nat} {c : Int} {d : Nat} (h0 : 0 ≤ c) (h1 : c ≤ n) : HT.sIx n d (some c) = c.toNat := by
  have e : (if c < 0 then (c + (n : Int)).toNat else min c.toNat n) = c.toNat := by
    rw [if_neg (by omega)]
    omega
  exact e
theorem cut_parts (u v r : Str) : cutS (u ++ v ++ r) none (some u.length) = u ∧ cutS (u ++ v ++ r) (some u.length) (some (u.length + v.length)) = v ∧ cutS (u ++ v ++ r) (some (u.length + v.length)) none = r := by
  have hz : (u ++ v ++ r).length = u.length + v.length + r.length := by rw [len_app, len_app]
  have lu := len_tl u
  have lv := len_tl v
  have lr := len_tl r
  have e0 : HT.sIx (u ++ v ++ r).length 0 none = 0 := rfl
  have en : HT.sIx (u ++ v ++ r).length (u ++ v ++ r).length none = (u ++ v ++ r).length := rfl
  have a1 : ∀ d, HT.sIx (u ++ v ++ r).length d (some (u.length : Int)) = u.length := fun d => by rw [sIx_lo (by omega) (by omega)]; omega
  have b1 : ∀ d, HT.sIx (u ++ v ++ r).length d (some ((u.length : Int) + v.length)) = u.length + v.length := fun d => by rw [sIx_lo (by omega) (by omega)]; omega
  refine ⟨ext_tl ?_, ext_tl ?_, ext_tl ?_⟩
  · rw [tl_cut, e0, a1, tl_append, tl_append, Nat.sub_zero, List.drop_zero, List.append_assoc, lu, List.take_left]
  · rw [tl_cut, a1, b1, tl_append, tl_append, List.append_assoc, lu, List.drop_left, show (tl u).length + v.length - (tl u).length = (tl v).length by omega, List.take_left]
  · rw [tl_cut, b1, en, tl_append, tl_append, show u.length + v.length = (tl u ++ tl v).length by rw [List.length_append]; omega, List.drop_left, List.take_of_length_le]
    rw [List.length_append]
    omega
end Sf
namespace Sf
open PySem PySem.Spec PyProof.Rows L2 TL
/-! ### moves in another order lead alike -/
theorem LM_uni {n : Int} {ms : List Mv} (ok : WOk n ms) {c : Nat} : ∀ p ∈ LM ms c, ∀ q ∈ LM ms c, p.1 = q.1 → p = q := by
  intro p hp q hq e
  obtain ⟨m, hm, h1⟩ := LM_mem.mp hp
  obtain ⟨k, hk, h2⟩ := LM_mem.mp hq
  have r1 := ok.rg m hm
  have r2 := ok.rg k hk
  have key : m = k := by
    refine Classical.byContradiction fun hne => ?_
    have : (m.1 = k.1 → m.2.1 ≠ k.2.1 ∧ m.2.2 ≠ k.2.2) ∨ (k.1 = m.1 → k.2.1 ≠ m.2.1 ∧ k.2.2 ≠ m.2.2) := by
      obtain ⟨i, hi, rfl⟩ := List.mem_iff_getElem.mp hm
      obtain ⟨j, hj, rfl⟩ := List.mem_iff_getElem.mp hk
      have hij : i ≠ j := fun z => hne (by subst z; rfl)
      rcases Nat.lt_or_gt_of_ne hij with h | h
      · exact .inl (List.pairwise_iff_getElem.mp ok.pw i j hi hj h)
      · exact .inr (List.pairwise_iff_getElem.mp ok.pw j i hj hi h)
    rcases this with t | t
    · have := fun z => t z
      rcases h1 with h1 | h1 <;> rcases h2 with h2 | h2
      · exact (t (by omega)).1 (by omega)
      · omega
      · omega
      · exact (t (by omega)).2 (by omega)
    · rcases h1 with h1 | h1 <;> rcases h2 with h2 | h2
      · exact (t (by omega)).1 (by omega)
      · omega
      · omega
      · exact (t (by omega)).2 (by omega)
  subst key
  refine Prod.ext e ?_
  rcases h1 with h1 | h1 <;> rcases h2 with h2 | h2 <;> omega
theorem stp_perm {n : Int} {ms ms' : List Mv} (ok : WOk n ms) (p : ms'.Perm ms) : stp (LM ms') = stp (LM ms) := by
  funext c x
  unfold stp
  have mem : ∀ q, q ∈ LM ms' c ↔ q ∈ LM ms c := fun q => by
    rw [LM_mem, LM_mem]
    constructor
    · rintro ⟨m, hm, h⟩
      exact ⟨m, p.mem_iff.mp hm, h⟩
    · rintro ⟨m, hm, h⟩
      exact ⟨m, p.mem_iff.mpr hm, h⟩
  cases e : lk (LM ms c) x with
  | none =>
    refine lk_none fun q hq z => ?_
    have : lk (LM ms c) x = some q.2 := lk_of (LM_uni ok) (by rw [← z]; exact (mem q).mp hq)
    rw [e] at this
    cases this
  | some y => exact lk_of (LM_uni (ok.perm p)) ((mem _).mpr (lk_mem e))
theorem let_eq {n : Int} {ms : List Mv} (ok : WOk n ms) {c : Nat} (hc : c ∈ smls) : (!(LM ms c).isEmpty) = decide (c ∈ ms.map (·.1)) := by
  have e := mvC_LM ok hc
  have h1 : (LM ms c).isEmpty = (ms.filter fun m => decide (m.1 = c)).isEmpty := by
    rw [← e]
    unfold mvC
    rw [List.isEmpty_map]
  rw [h1, Bool.eq_iff_iff, Bool.not_eq_true', decide_eq_true_eq, List.mem_map]
  constructor
  · intro h
    cases hf : ms.filter fun m => decide (m.1 = c) with
    | nil => rw [hf] at h; cases h
    | cons m r =>
      have : m ∈ ms.filter fun m => decide (m.1 = c) := by rw [hf]; exact List.mem_cons_self
      rw [List.mem_filter, decide_eq_true_eq] at this
      exact ⟨m, this⟩
  · rintro ⟨m, hm, h⟩
    cases hf : ms.filter fun m => decide (m.1 = c) with
    | nil =>
      have : m ∈ ms.filter fun m => decide (m.1 = c) := List.mem_filter.mpr ⟨hm, decide_eq_true h⟩
      rw [hf] at this
      cases this
    | cons => rfl
theorem ltS_eq {n : Int} {ms ms' : List Mv} (ok : WOk n ms) (p : ms'.Perm ms) : ltS (LM ms') = mkS (smls.filter fun c => decide (c ∈ ms.map (·.1))) := by
  unfold ltS
  congr 1
  refine List.filter_congr fun c hc => ?_
  rw [let_eq (ok.perm p) hc]
  exact decide_eq_decide.mpr ((p.map _).mem_iff)
/-! ### a list of moves that may not be -/
def Cfl (m k : Mv) : Prop := m.1 = k.1 ∧ (m.2.1 = k.2.1 ∨ m.2.2 = k.2.2)
theorem first_bad {n : Int} : ∀ (r l : List Mv), l = r.reverse → (∀ m ∈ l, 97 ≤ m.1 ∧ m.1 ≤ 104 ∧ 0 ≤ m.2.1 ∧ m.2.1 < n ∧ 0 ≤ m.2.2 ∧ m.2.2 < n) → ¬ WOk n l → ∃ j k, l[j]? = some k ∧ WOk n (l.take j) ∧ ∃ m ∈ l.take j, Cfl m k
  | [], l, e, _, h => by
    subst e
    exact absurd ⟨fun m hm => absurd hm (by simp), .nil⟩ h
  | k :: r, l, e, hr, h => by
    subst e
    rw [List.reverse_cons] at hr h ⊢
    by_cases ok : WOk n r.reverse
    · refine ⟨r.reverse.length, k, by rw [List.getElem?_append_right (Nat.le_refl _), Nat.sub_self]; rfl, ?_, ?_⟩
      · rw [List.take_left]
        exact ok
      · rw [List.take_left]
        refine Classical.byContradiction fun hn => h (ok.snoc (hr k (List.mem_append_right _ (List.mem_singleton.mpr rfl))) fun m hm e => ?_)
        refine ⟨fun z => hn ⟨m, hm, e, .inl z⟩, fun z => hn ⟨m, hm, e, .inr z⟩⟩
    · obtain ⟨j, k', h1, h2, h3⟩ := first_bad r r.reverse rfl (fun m hm => hr m (List.mem_append_left _ hm)) ok
      have hj : j < r.reverse.length := (List.getElem?_eq_some_iff.mp h1).1
      refine ⟨j, k', by rw [List.getElem?_append_left hj]; exact h1, ?_, ?_⟩
      · rw [List.take_append_of_le_length (Nat.le_of_lt hj)]
        exact h2
      · rw [List.take_append_of_le_length (Nat.le_of_lt hj)]
        exact h3
/-- what may not be put among the moves ms -/
def Bad2 (n : Int) (ms : List Mv) (z : Str) (s e : Int) : Prop := isMv n z s e = false ∨ ∃ c, z = one c ∧ 97 ≤ c ∧ c ≤ 104 ∧ 0 ≤ s ∧ s < n ∧ 0 ≤ e ∧ e < n ∧ ∃ m ∈ ms, Cfl m (c, s, e)
theorem paired_take {α β : Type} {R : α → β → Prop} : ∀ {as : List α} {bs : List β}, Paired R as bs → ∀ i, Paired R (as.take i) (bs.take i)
  | _, _, .nil, i => by
    rw [List.take_nil, List.take_nil]
    exact .nil
  | _, _, .cons r t, 0 => .nil
  | _, _, .cons r t, i + 1 => .cons r (paired_take t i)
theorem paired_drop {α β : Type} {R : α → β → Prop} : ∀ {as : List α} {bs : List β}, Paired R as bs → ∀ i, Paired R (as.drop i) (bs.drop i)
  | _, _, .nil, i => by
    rw [List.drop_nil, List.drop_nil]
    exact .nil
  | _, _, .cons r t, 0 => .cons r t
  | _, _, .cons r t, i + 1 => paired_drop t i
theorem paired_app {α β : Type} {R : α → β → Prop} : ∀ {as : List α} {bs : List β} {cs : List α} {ds : List β}, Paired R as bs → Paired R cs ds → Paired R (as ++ cs) (bs ++ ds)
  | _, _, _, _, .nil, h => h
  | _, _, _, _, .cons r t, h => .cons r (paired_app t h)
theorem bad_put {H : Hp} {n : Int} {us : List V} {ms : List Mv} {t : Addr} {z : Str} {s e : Int} (hm : MvsAt H us ms) (ok : WOk n ms) (hml : ms.length ≤ 8000) (ht : H t = some (.tup [.str z, .int s, .int e])) (hz : z.length ≤ 1000) (hb : Bad2 n ms z s e) (i : Nat) (hi : i ≤ us.length) :
    ∃ j, BadAt H n ((us.take i ++ [.ref t]) ++ us.drop i) j := by
  have hul : us.length = ms.length := Paired.length hm
  rcases hb with hb | ⟨c, rfl, c1, c2, s1, s2, e1, e2, m, hm1, hc⟩
  · refine ⟨i, ms.take i, t, z, s, e, ?_, ok.take i, Nat.le_trans (by rw [List.length_take]; exact Nat.min_le_right _ _) (show ms.length ≤ 100000 by omega), ?_, ht, hz, .inl hb⟩
    · rw [List.append_assoc, List.take_append_of_le_length (by rw [List.length_take]; omega), List.take_take, Nat.min_self]
      exact paired_take hm i
    · rw [List.append_assoc, List.getElem?_append_right (by rw [List.length_take]; omega), List.length_take, Nat.min_eq_left hi, Nat.sub_self]
      rfl
  · have hp : MvsAt H ((us.take i ++ [.ref t]) ++ us.drop i) ((ms.take i ++ [(c, s, e)]) ++ ms.drop i) := paired_app (paired_snoc ⟨t, rfl, ht⟩ (paired_take hm i)) (paired_drop hm i)
    have nok : ¬ WOk n ((ms.take i ++ [(c, s, e)]) ++ ms.drop i) := fun h => by
      have hmem : m ∈ ms.take i ∨ m ∈ ms.drop i := by
        rw [← List.mem_append, List.take_append_drop]
        exact hm1
      have pw := h.pw
      rw [List.append_assoc, List.pairwise_append] at pw
      rcases hmem with h1 | h1
      · have := pw.2.2 m h1 (c, s, e) (by simp) hc.1
        rcases hc.2 with z | z
        · exact this.1 z
        · exact this.2 z
      · have p2 := pw.2.1
        rw [List.singleton_append, List.pairwise_cons] at p2
        have := p2.1 m h1 hc.1.symm
        rcases hc.2 with z | z
        · exact this.1 z.symm
        · exact this.2 z.symm
    obtain ⟨j, k, h1, h2, h3⟩ := first_bad (n := n) _ _ (List.reverse_reverse _).symm (fun q hq => by
      rcases List.mem_append.mp hq with hq | hq
      · rcases List.mem_append.mp hq with hq | hq
        · exact ok.rg q (List.mem_of_mem_take hq)
        · rw [List.mem_singleton.mp hq]
          exact ⟨c1, c2, s1, s2, e1, e2⟩
      · exact ok.rg q (List.mem_of_mem_drop hq)) nok
    have hjl := (List.getElem?_eq_some_iff.mp h1).1
    have hlen : ((us.take i ++ [V.ref t]) ++ us.drop i).length = ((ms.take i ++ [(c, s, e)]) ++ ms.drop i).length := Paired.length hp
    obtain ⟨v, hv⟩ : ∃ v, ((us.take i ++ [V.ref t]) ++ us.drop i)[j]? = some v := ⟨_, List.getElem?_eq_getElem (by omega)⟩
    obtain ⟨k', hk', t', et, ht'⟩ := paired_get hp hv
    rw [h1] at hk'
    cases hk'
    obtain ⟨m2, hm2, hc2⟩ := h3
    refine ⟨j, _, t', _, _, _, paired_take hp j, h2, ?_, by rw [← et]; exact hv, ht', by rw [len_one]; decide, .inr ⟨k.1, rfl, m2, hm2, hc2.1, hc2.2⟩⟩
    rw [List.length_take]
    refine Nat.le_trans (Nat.min_le_right _ _) ?_
    rw [List.length_append, List.length_append, List.length_take, List.length_drop]
    show min i ms.length + 1 + (ms.length - i) ≤ 100000
    omega
def BadV (H : Hp) (n : Int) (ms : List Mv) (v : V) : Prop := ∃ (t : Addr) (z : Str) (s e : Int), v = .ref t ∧ H t = some (.tup [.str z, .int s, .int e]) ∧ z.length ≤ 1000 ∧ Bad2 n ms z s e
theorem BadV.tps {H H' : Hp} {n : Int} {ms : List Mv} {v : V} (h : BadV H n ms v) (s : Tps H H') : BadV H' n ms v := by
  obtain ⟨t, z, a, b, e, ht, r⟩ := h
  exact ⟨t, z, a, b, e, s _ _ ht, r⟩
theorem isMv_s {n : Int} {z : Str} {s e : Int} (h : s < 0 ∨ n ≤ s) : isMv n z s e = false := by
  unfold isMv
  have : (decide (0 ≤ s) && decide (s ≤ n - 1)) = false := by
    rcases h with h | h
    · rw [decide_eq_false (by omega)]; rfl
    · rw [decide_eq_false (show ¬ s ≤ n - 1 by omega), Bool.and_false]
  rw [this]
  rfl
theorem isMv_e {n : Int} {z : Str} {s e : Int} (h : e < 0 ∨ n ≤ e) : isMv n z s e = false := by
  unfold isMv
  have : (decide (0 ≤ e) && decide (e ≤ n - 1)) = false := by
    rcases h with h | h
    · rw [decide_eq_false (by omega)]; rfl
    · rw [decide_eq_false (show ¬ e ≤ n - 1 by omega), Bool.and_false]
  rw [this, Bool.and_false]
  rfl
theorem isMv_z {n : Int} {z : Str} {s e : Int} (h : isMv 1 z 0 0 = false) : isMv n z s e = false := by
  unfold isMv at h ⊢
  rw [show (decide ((0 : Int) ≤ 0) && decide ((0 : Int) ≤ 1 - 1) && (decide ((0 : Int) ≤ 0) && decide ((0 : Int) ≤ 1 - 1))) = true by decide, Bool.true_and] at h
  rw [h, Bool.and_false]
theorem cutV_take {us : List V} {d : Int} (h0 : 0 ≤ d) (h1 : d ≤ us.length) : cutV us none (some d) = us.take d.toNat := by
  unfold cutV
  have e : HT.sIx us.length 0 none = 0 := rfl
  rw [e, sIx_lo h0 h1]
  rfl
theorem cutV_drop {us : List V} {d : Int} (h0 : 0 ≤ d) (h1 : d ≤ us.length) : cutV us (some d) none = us.drop d.toNat := by
  unfold cutV
  have e : HT.sIx us.length us.length none = us.length := rfl
  rw [e, sIx_lo h0 h1]
  exact List.take_of_length_le (by rw [List.length_drop]; omega)
/-! ### data of motions -/
def oD : Option Int → PyData
  | none => .none
  | some i => .int i
theorem dp_oV2 {K : PySem.W.Frag} {H : Hp} : ∀ o : Option Int, Dp K H (oV o) (oD o)
  | none => .non
  | some i => .int i
theorem dp_mot2 {K : PySem.W.Frag} {H : Hp} : ∀ l : List (Option Int), DpAll K H (l.map oV) (l.map oD)
  | [] => .nil
  | o :: l => .cons (dp_oV2 o) (dp_mot2 l)
theorem oD_lay (o : Option Int) : PyData.canLay0 (oD o) = true := by cases o <;> rfl
theorem oD_dep (o : Option Int) : (oD o).depth ≤ 60 := by cases o <;> exact Nat.zero_le _
theorem shaped_tup {α : Type} {f : α → PyData} {l : List α} (h1 : ∀ x ∈ l, PyData.canLay0 (f x) = true) (h2 : ∀ x ∈ l, (f x).depth ≤ 60) : SeqAt.shaped (.tuple (l.map f)) = true := by
  unfold SeqAt.shaped
  rw [PyData.canLay0, lay_all h1, Bool.true_and, PyData.depth]
  have := depth_all h2
  exact decide_eq_true (by omega)
theorem mv_lay {m : Mv} (h : 97 ≤ m.1 ∧ m.1 ≤ 104) : PyData.canLay0 (dMv m) = true := by
  unfold dMv
  simp only [PyData.canLay0, PyData.canLayAll0, Bool.and_true]
  have := strOk_wd (wd_one (sgn_iff.mpr (.inl h)))
  simpa [PyData.canLay0] using this
theorem mvs_shaped {n : Int} {ms : List Mv} (ok : WOk n ms) : SeqAt.shaped (.list (ms.map dMv)) = true := shaped_list (fun m hm => mv_lay (by have := ok.rg m hm; omega)) fun m _ => mv_depth m
theorem inV_ones {c : Nat} : ∀ l : List Nat, inV (.str (one c)) (l.map fun d => V.str (one d)) = decide (c ∈ l)
  | [] => rfl
  | d :: l => by
    have ih := inV_ones (c := c) l
    unfold inV at ih ⊢
    rw [List.map_cons, List.any_cons, ih, Bool.eq_iff_iff]
    simp only [Bool.or_eq_true, decide_eq_true_eq, List.mem_cons, eqV, beq_iff_eq]
    constructor
    · rintro (h | h)
      · exact .inl (one_inj h).symm
      · exact .inr h
    · rintro (h | h)
      · exact .inl (by rw [h])
      · exact .inr h
def rStrI : List V → Hp → VK → Prop := fun xs H Q => ∃ i, xs = [.int i] ∧ i.natAbs.log2 < 1920 ∧ Q (.str (toString i)) H
theorem call_strI {X : Cx} : CallR X (.type "str") rStrI := call_str_int
theorem w_strI {H : Hp} {Q : VK} {i : Int} (h : i.natAbs.log2 < 1920) (q : Q (.str (toString i)) H) : rStrI [.int i] H Q := ⟨i, rfl, h, q⟩
theorem w_inOnes {K : PySem.W.Frag} {H : Hp} {Q : VK} {c : Nat} {p : Addr} {l : List Nat} (h : H p = some (.lst (l.map fun d => V.str (one d)))) (q : Q (.bl (decide (c ∈ l))) H) : rIn K false (.str (one c)) (.ref p) H Q := by
  refine ⟨p, _, rfl, .inl (SqL.of h), rfl, ?_, ?_⟩
  · rw [List.all_map]
    exact List.all_eq_true.mpr fun _ _ => rfl
  · show Q (.bl (inV _ _)) H
    rw [inV_ones]
    exact q
theorem w_rep {H : Hp} {Q : VK} {l : Addr} {k : Int} {xs : List V} (h : H l = some (.lst xs)) (h0 : 0 ≤ k) (h1 : k ≤ 100) (h2 : xs.length ≤ 1000) (q : ∀ p H', H' p = some (.lst (List.replicate k.toNat xs).flatten) → Nw p H H' → Q (.ref p) H') : rRep (.ref l) (.int k) H Q := by
  refine ⟨l, k, xs, rfl, rfl, h, by omega, by omega, ?_, fun p np => q p _ upd_same (.mk' np)⟩
  exact line_of (Nat.le_trans (Nat.mul_le_mul h2 (show k.toNat ≤ 100 by omega)) (by decide))
end Sf
namespace Sf
open PySem PySem.Spec PyProof.Rows L2 TL
def lts17 (d : Int) : Str := if d = 0 then Str.ofString "ab" else if d = 1 then Str.ofString "h" else if d = 2 then Str.ofString "abcd" else Str.ofString "cg"
theorem lts17_at {d : Int} (h0 : 0 ≤ d) (h1 : d < 4) : atI [V.str (Str.ofString "ab"), V.str (Str.ofString "h"), V.str (Str.ofString "abcd"), V.str (Str.ofString "cg")] d = some (.str (lts17 d)) := by
  obtain rfl | rfl | rfl | rfl : d = 0 ∨ d = 1 ∨ d = 2 ∨ d = 3 := by omega
  · exact at_of (j := 0) rfl rfl
  · exact at_of (j := 1) rfl rfl
  · exact at_of (j := 2) rfl rfl
  · exact at_of (j := 3) rfl rfl
theorem lts17_ok {d : Int} (h0 : 0 ≤ d) (h1 : d < 4) : (∀ c ∈ tl (lts17 d), 97 ≤ c ∧ c ≤ 104) ∧ (tl (lts17 d)).Nodup ∧ (tl (lts17 d)).length ≤ 8 := by
  obtain rfl | rfl | rfl | rfl : d = 0 ∨ d = 1 ∨ d = 2 ∨ d = 3 := by omega
  · decide +kernel
  · decide +kernel
  · decide +kernel
  · decide +kernel
section
variable {P : Program} {w : World} {K : PySem.W.Frag} {mg : Str → Option Value} {base : Heap} {C : Addr}
def spLaw (K : PySem.W.Frag) : Sp := fun vs H Q _ => ∃ (a : Addr) (ns : List Int), vs = [.ref a] ∧ SqL K H a (ns.map V.int) ∧ ns.length ≤ 63 ∧ ∀ H', Q (.bl true) H'
theorem sc_law : FnScope ["_law_script", "_law_bag", "_law_turn", "_law_many", "_law_moves", "_law_handed", "_law_kept", "_law_world_here", "_law_letter", "_law_move", "_law_due", "_law_text", "_law_step", "_law_bad", "_law_start", "_law_end", "_law_at", "_law_size", "_law_told"] ["_law_script"] (defScope s_law) := ⟨rfl, rfl, rfl, by decide +kernel, rfl, by decide +kernel, by decide +kernel⟩
theorem ok_law {f : Addr} {fd : FuncData} (F : Fun K "law" "law" s_law f fd) (B : Blt mg) (Nrepr : mg "repr" = none) (T_World : WC K mg C) (mk : PySem.W.makesIn K C = true) (kc : PySem.W.keepIn K (.ref C) = true) {t1 : Tok} (C_MOST_PLACES : mg "MOST_PLACES" = some (.int 1000 t1))
    (h_Be : HasBegin P w K mg base) (h_Pu : HasPull P w K mg base) (h_Lw : HasLw P w K mg base) (h_Sa : HasSame P w K mg base 1) (h_Mx : Has P w K mg base 2 "_law_mixed" ["_law_bag", "_law_row"] spMx) (h_Lpk : HasLpk P w K mg base) (h_Lmo : HasLmo P w K mg base)
    (h_Ow : Has P w K mg base 5 "_law_is_world" ["_law_world_here", "_law_many", "_law_moves"] (spOw C)) (h_Tw : Has P w K mg base 7 "_law_told_world" ["_law_many", "_law_moves"] spTw)
    (h_WI : HasM P w K mg base C 4 "__init__" ["self", "many", "moves"] (spWI C)) (h_Mo : HasM P w K mg base C 3 "motion" ["self", "word"] (spMo C)) (h_Mv : HasM P w K mg base C 1 "moves" ["self"] (spMvs C)) (h_Lt : HasM P w K mg base C 1 "letters" ["self"] (spLet C)) (h_WRp : HasM P w K mg base C 2 "__repr__" ["self"] (spWRp C)) (h_Len : HasM P w K mg base C 1 "__len__" ["self"] (spWLen C)) : FnOk P w K mg base CX0 9 f fd ["_law_script"] (spLaw K) := by
  obtain ⟨f_Be, fd_Be, g_Be, k_Be, b_Be, G_Be⟩ := h_Be
  obtain ⟨f_Pu, fd_Pu, g_Pu, k_Pu, b_Pu, G_Pu⟩ := h_Pu
  obtain ⟨f_Lw, fd_Lw, g_Lw, k_Lw, b_Lw, G_Lw⟩ := h_Lw
  obtain ⟨f_Sa, fd_Sa, g_Sa, k_Sa, b_Sa, G_Sa⟩ := h_Sa
  obtain ⟨f_Mx, fd_Mx, g_Mx, k_Mx, b_Mx, G_Mx⟩ := h_Mx
  obtain ⟨f_Lpk, fd_Lpk, g_Lpk, k_Lpk, b_Lpk, G_Lpk⟩ := h_Lpk
  obtain ⟨f_Lmo, fd_Lmo, g_Lmo, k_Lmo, b_Lmo, G_Lmo⟩ := h_Lmo
  obtain ⟨f_Ow, fd_Ow, g_Ow, k_Ow, b_Ow, G_Ow⟩ := h_Ow
  obtain ⟨f_Tw, fd_Tw, g_Tw, k_Tw, b_Tw, G_Tw⟩ := h_Tw
  obtain ⟨f_WI, fd_WI, m_WI, b_WI, G_WI⟩ := h_WI
  obtain ⟨f_Mo, fd_Mo, m_Mo, b_Mo, G_Mo⟩ := h_Mo
  obtain ⟨f_Mv, fd_Mv, m_Mv, b_Mv, G_Mv⟩ := h_Mv
  obtain ⟨f_Lt, fd_Lt, m_Lt, b_Lt, G_Lt⟩ := h_Lt
  obtain ⟨f_WRp, fd_WRp, m_WRp, b_WRp, G_WRp⟩ := h_WRp
  obtain ⟨f_Len, fd_Len, m_Len, b_Len, G_Len⟩ := h_Len
  have M_WI : Mk K C f_WI := ⟨mk, m_WI.at_, m_WI.fn, kc⟩
  have g_World := T_World.mgC
  refine F.ok sc_law (fun vs H Q E h => ?_) (fun cdv A outer s H vs Q E hr h => ?_)
  · obtain ⟨a, ns, rfl, _⟩ := h
    rfl
  · obtain ⟨a, ns, rfl, hS, hlen, q⟩ := h
    refine ⟨_, (pss_cons (ps_set (i := 1) sc_law.nd rfl (.inl rfl) (pe_call G_Be (hr.mono (by decide)) (by rfl) g_Be k_Be b_Be .nil pass0 (pa_cons (pv 0) pa_nil))) (pss_cons (ps_for PassesOwn.never rfl (pi_range1 rfl B.range (pa_cons pe_int pa_nil)) (pg_name (i := 2) sc_law.nd rfl (.inl rfl)) (pss_cons (ps_asg (pe_call G_Lw (hr.mono (by decide)) (by rfl) g_Lw k_Lw b_Lw .nil pass0 (pa_cons (pv 1) (pa_cons pe_int (pa_cons (pe_ix ix_list (pe_lst (pa_cons pe_str (pa_cons pe_str (pa_cons pe_str (pa_cons pe_str pa_nil))))) (pe_call G_Pu (hr.mono (by decide)) (by rfl) g_Pu k_Pu b_Pu .nil pass0 (pa_cons (pv 1) (pa_cons pe_int pa_nil))) (fun _ _ => rfl)) pa_nil)))) (pg_tup rfl (pgs_cons (pg_name (i := 3) sc_law.nd rfl (.inl rfl)) (pgs_cons (pg_name (i := 4) sc_law.nd rfl (.inr rfl)) pgs_nil)))) (pss_cons (ps_set (i := 5) sc_law.nd rfl (.inl rfl) (pe_call G_Mx (hr.mono (by decide)) (by rfl) g_Mx k_Mx b_Mx .nil pass0 (pa_cons (pv 1) (pa_cons (pv 4) pa_nil)))) (pss_cons (ps_set (i := 6) sc_law.nd rfl (.inl rfl) (pe_callTy call_listO (by rfl) B.list (by decide +kernel) (pa_cons (pv 5) pa_nil))) (pss_cons (ps_set (i := 7) sc_law.nd rfl (.inl rfl) (pe_make M_WI G_WI (hr.mono (by decide)) (by rfl) g_World b_WI .nil pass0 (pa_cons (pv 3) (pa_cons (pv 5) pa_nil)))) (pss_cons (ps_set (i := 10) sc_law.nd rfl (.inl rfl) (pe_m1 PySem.F.slot_str_join PySem.F.type_str_join mt_joinN pe_str (pe_lc (own := [("_law_letter", 8)]) (g := gName 8) (tt := tTest (tOp (rIn K false) (tVar 8) (tLc (iList K (tVar 4)) (gName 9) tYes (tOp (rIxT K) (tVar 9) (tC (.int 0))) [9]))) (by rfl) sc_law.nd (pi_str pe_str) (blkOk_by (own := [("_law_letter", 8)]) (N := ["_law_script", "_law_bag", "_law_turn", "_law_many", "_law_moves", "_law_handed", "_law_kept", "_law_world_here", "_law_letter", "_law_move", "_law_due", "_law_text", "_law_step", "_law_bad", "_law_start", "_law_end", "_law_at", "_law_size", "_law_told"]) (sc := defScope s_law) (by decide +kernel)) (fun _ _ _ _ _ => pg_name (i := 8) sc_law.nd rfl (.inl rfl)) (fun _ _ _ _ _ => by exact pts_one (pt_cmpR op_in_seq (pv 8) (pe_lc (own := [("_law_move", 9)]) (g := gName 9) (tt := tYes) (by rfl) sc_law.nd (pi_list (pv 4)) (blkOk_by (own := [("_law_move", 9)]) (N := ["_law_script", "_law_bag", "_law_turn", "_law_many", "_law_moves", "_law_handed", "_law_kept", "_law_world_here", "_law_letter", "_law_move", "_law_due", "_law_text", "_law_step", "_law_bad", "_law_start", "_law_end", "_law_at", "_law_size", "_law_told"]) (by kernel_rfl)) (fun _ _ _ _ _ => pg_name (i := 9) sc_law.nd rfl (.inl rfl)) (fun _ _ _ _ _ => pts_nil) (fun _ _ _ _ _ => (pe_ix ix_tup (pv 9) pe_int (fun _ _ => rfl)))) rfl)) (fun _ _ _ _ _ => (pv 8))))) (pss_cons (ps_set (i := 11) sc_law.nd rfl (.inl rfl) (pe_op op_addS (pe_op op_addS (pe_op op_addS (pe_op op_addS pe_str (pe_callTy call_strI (by rfl) B.str (by decide +kernel) (pa_cons (pv 3) pa_nil))) pe_str) (pe_callTy call_strI (by rfl) B.str (by decide +kernel) (pa_cons (pe_callB call_lenQ (by rfl) B.len PySem.boot_len (pa_cons (pv 4) pa_nil)) pa_nil))) pe_str)) (pss_cons (ps_for PassesOwn.never rfl (pi_range1 rfl B.range (pa_cons pe_int pa_nil)) (pg_name (i := 12) sc_law.nd rfl (.inl rfl)) (pss_cons (ps_if (PW.pt (pw_or (pt_not (pt_val (pe_call G_Ow (hr.mono (by decide)) (by rfl) g_Ow k_Ow b_Ow .nil pass0 (pa_cons (pv 7) (pa_cons (pv 3) (pa_cons (pv 4) pa_nil)))))) (pw_or1 (pt_not (pt_val (pe_call G_Sa (hr.mono (by decide)) (by rfl) g_Sa k_Sa b_Sa .nil pass0 (pa_cons (pe_lst (pa_cons (pe_meth0 (pv 7) T_World.cl m_Lt G_Lt (hr.mono (by decide)) b_Lt .nil pass0) (pa_cons (pe_callB (call_reprW G_WRp m_WRp.at_ m_WRp.fn b_WRp (hr.mono (by decide))) (by rfl) Nrepr (by decide +kernel) (pa_cons (pv 7) pa_nil)) pa_nil))) (pa_cons (pe_lst (pa_cons (pv 10) (pa_cons (pv 11) pa_nil))) pa_nil)))))))) (pss_one (ps_ret pe_bl)) pss_nil) (pss_one (ps_expr (pe_bm PySem.F.plainAttrs_list PySem.F.slot_list_append PySem.F.type_list_append mt_append (pe_meth0 (pv 7) T_World.cl m_Mv G_Mv (hr.mono (by decide)) b_Mv .nil pass0) (pa_cons (pe_tup (pa_cons pe_str (pa_cons pe_int (pa_cons pe_int pa_nil)))) pa_nil)))))) (pss_cons (ps_if (pt_cmpR (op_neD hr.units) (pv 5) (pv 6) (nomark _)) (pss_one (ps_ret pe_bl)) pss_nil) (pss_cons (ps_expr (pe_bm0 PySem.F.plainAttrs_list PySem.F.slot_list_clear PySem.F.type_list_clear mt_clear (pv 5))) (pss_cons (ps_expr (pe_bm PySem.F.plainAttrs_list PySem.F.slot_list_append PySem.F.type_list_append mt_append (pv 5) (pa_cons (pe_tup (pa_cons pe_str (pa_cons pe_int (pa_cons pe_int pa_nil)))) pa_nil))) (pss_cons (ps_if (PW.pt (pw_or (pt_not (pt_val (pe_call G_Ow (hr.mono (by decide)) (by rfl) g_Ow k_Ow b_Ow .nil pass0 (pa_cons (pv 7) (pa_cons (pv 3) (pa_cons (pv 4) pa_nil)))))) (pw_or1 (pt_cmpR (op_neD hr.units) (pe_call G_Lmo (hr.mono (by decide)) (by rfl) g_Lmo k_Lmo b_Lmo .nil pass0 (pa_cons (pv 3) (pa_cons (pv 4) (pa_cons pe_str pa_nil)))) (pe_meth (pv 7) T_World.cl m_Mo G_Mo (hr.mono (by decide)) b_Mo .nil pass0 (pa_cons pe_str pa_nil)) (nomark _))))) (pss_one (ps_ret pe_bl)) pss_nil) (pss_cons (ps_set (i := 13) sc_law.nd rfl (.inl rfl) (pe_lst (pa_cons (pe_tup (pa_cons pe_str (pa_cons (pv 3) (pa_cons pe_int pa_nil)))) (pa_cons (pe_tup (pa_cons pe_str (pa_cons pe_int (pa_cons (pv 3) pa_nil)))) (pa_cons (pe_tup (pa_cons pe_str (pa_cons pe_int (pa_cons (pe_un un_neg pe_int) pa_nil)))) (pa_cons (pe_tup (pa_cons pe_str (pa_cons (pe_un un_neg pe_int) (pa_cons pe_int pa_nil)))) (pa_cons (pe_tup (pa_cons pe_str (pa_cons pe_int (pa_cons pe_int pa_nil)))) (pa_cons (pe_tup (pa_cons pe_str (pa_cons pe_int (pa_cons pe_int pa_nil)))) (pa_cons (pe_tup (pa_cons pe_str (pa_cons pe_int (pa_cons pe_int pa_nil)))) pa_nil))))))))) (pss_cons (ps_if (pt_cmpR (op_neD hr.units) (pv 4) (pe_lst pa_nil) (nomark _)) (pss_cons (ps_asg (pe_call G_Lpk (hr.mono (by decide)) (by rfl) g_Lpk k_Lpk b_Lpk .nil pass0 (pa_cons (pv 1) (pa_cons (pv 4) pa_nil))) (pg_tup rfl (pgs_cons (pg_name (i := 8) sc_law.nd rfl (.inl rfl)) (pgs_cons (pg_name (i := 14) sc_law.nd rfl (.inl rfl)) (pgs_cons (pg_name (i := 15) sc_law.nd rfl (.inl rfl)) pgs_nil))))) (pss_one (ps_set (i := 13) sc_law.nd rfl (.inl rfl) (pe_op op_cat (pv 13) (pe_lst (pa_cons (pe_tup (pa_cons (pv 8) (pa_cons (pv 14) (pa_cons (pv 15) pa_nil)))) (pa_cons (pe_tup (pa_cons (pv 8) (pa_cons (pv 14) (pa_cons (pe_op op_mod (pe_op op_add (pv 15) pe_int) (pv 3)) pa_nil)))) (pa_cons (pe_tup (pa_cons (pv 8) (pa_cons (pe_op op_mod (pe_op op_add (pv 14) pe_int) (pv 3)) (pa_cons (pv 15) pa_nil)))) pa_nil)))))))) pss_nil) (pss_cons (ps_set (i := 16) sc_law.nd rfl (.inl rfl) (pe_call G_Pu (hr.mono (by decide)) (by rfl) g_Pu k_Pu b_Pu .nil pass0 (pa_cons (pv 1) (pa_cons (pe_op op_add (pe_callB call_lenQ (by rfl) B.len PySem.boot_len (pa_cons (pv 4) pa_nil)) pe_int) pa_nil)))) (pss_one (ps_if (pt_not (pt_val (pe_call G_Sa (hr.mono (by decide)) (by rfl) g_Sa k_Sa b_Sa .nil pass0 (pa_cons (pe_call G_Tw (hr.mono (by decide)) (by rfl) g_Tw k_Tw b_Tw .nil pass0 (pa_cons (pv 3) (pa_cons (pe_op op_cat (pe_op op_cat (pe_slice sl_list (pv 4) po_none (po_some (pv 16))) (pe_lst (pa_cons (pe_call G_Lpk (hr.mono (by decide)) (by rfl) g_Lpk k_Lpk b_Lpk .nil pass0 (pa_cons (pv 1) (pa_cons (pv 13) pa_nil))) pa_nil))) (pe_slice sl_list (pv 4) (po_some (pv 16)) po_none)) pa_nil))) (pa_cons pe_str pa_nil))))) (pss_one (ps_ret pe_bl)) pss_nil))))))))))))))))) (pss_cons (ps_setLc (i := 18) (own := [("_law_size", 17)]) (g := gName 17) (tt := tYes) (by rfl) sc_law.nd rfl rfl (sw_true rfl rfl rfl (by decide +kernel)) (pi_list (pe_lst (pa_cons pe_int (pa_cons (pe_un un_neg pe_int) (pa_cons pe_int pa_nil))))) (blkOk_by (own := [("_law_size", 17)]) (N := ["_law_script", "_law_bag", "_law_turn", "_law_many", "_law_moves", "_law_handed", "_law_kept", "_law_world_here", "_law_letter", "_law_move", "_law_due", "_law_text", "_law_step", "_law_bad", "_law_start", "_law_end", "_law_at", "_law_size", "_law_told"]) (sc := defScope s_law) (by decide +kernel)) (fun _ _ _ _ _ => pg_name (i := 17) sc_law.nd rfl (.inl rfl)) (fun _ _ _ _ _ => pts_nil) (fun _ _ _ _ _ => (pe_call G_Tw (hr.mono (by decide)) (by rfl) g_Tw k_Tw b_Tw .nil pass0 (pa_cons (pv 17) (pa_cons (pe_lst pa_nil) pa_nil))))) (pss_one (ps_ret (pe_and (pe_cmpR (op_eqD hr.units) (pv 18) (pe_op op_rep (pe_lst (pa_cons pe_str pa_nil)) pe_int) (nomark _)) (pe_one (pe_cmpR op_eq (pe_callB (call_lenW G_Len m_Len.at_ m_Len.fn b_Len (hr.mono (by decide))) (by rfl) B.len PySem.boot_len (pa_cons (pe_make M_WI G_WI (hr.mono (by decide)) (by rfl) g_World b_WI .nil pass0 (pa_cons pe_int (pa_cons (pe_lst (pa_cons (pe_tup (pa_cons pe_str (pa_cons pe_int (pa_cons pe_int pa_nil)))) pa_nil)) pa_nil))) pa_nil)) (pe_gI (by rfl) C_MOST_PLACES) (nomark _))))))))), ?_⟩
    walk_at "go"
    refine ⟨a, ns, rfl, hS, fun b l H1 nb B1 s1 => ?_⟩
    walk_at "go"
    refine w_kRng1 (by decide) (by decide) ?_
    refine w_range (fun i σ H2 => ∃ (y2 y3 y4 y5 y6 y7 y8 y9 y10 y11 y12 y13 y14 y15 y16 y17 y18 : Option V), σ = [some (.ref a), some (.ref b), y2, y3, y4, y5, y6, y7, y8, y9, y10, y11, y12, y13, y14, y15, y16, y17, y18] ∧ Bag H2 b l) ⟨none, none, none, none, none, none, none, none, none, none, none, none, none, none, none, none, none, rfl, B1⟩ ?_ ?_
    · rintro i σ H2 hi ⟨y2, y3, y4, y5, y6, y7, y8, y9, y10, y11, y12, y13, y14, y15, y16, y17, y18, rfl, B2⟩
      walk_at "go"
      refine w_newL (by walk_at "sz") (fun p0 H3 hp3 np3 => ?_)
      walk_at "go"
      refine ⟨b, l, 4, rfl, B2.nw np3, by decide, by decide, fun d H4 d0 d1 B4 f4 => ?_⟩
      have hp0b := B2.ne np3.nn
      refine w_ixL (f4.at hp0b hp3) (lts17_at d0 d1) ?_
      obtain ⟨o1, o2, o3⟩ := lts17_ok d0 d1
      walk_at "go"
      refine ⟨b, l, 12, _, rfl, B4, by decide, by decide, o1, o2, o3, fun t f n us ms H5 ht5 hf5 hm5 ok5 n1 n8 hml hin B5 f5 nf nfb nfl => ?_⟩
      have hul : us.length = ms.length := Paired.length hm5
      walk_at "go"
      refine ⟨b, l, f, us, rfl, B5, hf5, nfb, by omega, fun g us' H6 hpm hg6 ng ngb ngl B6 f6 => ?_⟩
      obtain ⟨ms', hm6, hpm6⟩ := mvs_perm hpm (hm5.tps (.fx B5 f6))
      have ok6 : WOk n ms' := ok5.perm hpm6
      have hml6 : ms'.length = ms.length := hpm6.length_eq
      have hf6 := f6.at nfb hf5
      have hmf6 := hm5.tps (.fx B5 f6)
      have nfg : f ≠ g := fun z => by rw [z, ng] at hf5; cases hf5
      walk_at "go"
      refine w_listL hg6 (fun g2 H7 hg27 ng2 => ?_)
      walk_at "go"
      refine w_world (ng2.at hg6) (hm6.tps (.of ng2.same)) ok6 (by omega) n1 (by omega) (fun p H8 G8 hW8 sG8 hG8 s8 => ?_)
      have nG : ∀ q o, G8 q = some o → q ≠ b ∧ q ≠ g := fun q o e => ⟨B6.ne (by
        cases z : H6 q with
        | none => rfl
        | some o' => have := hG8 q o e; rw [ng2.at z] at this; cases this), fun z => by
        have := hG8 q o e
        rw [z, ng2.at hg6] at this
        cases this⟩
      have hf8 := s8.at (ng2.at hf6)
      have hmf8 : MvsAt H8 us ms := (hmf6.tps (.of ng2.same)).tps (.of s8)
      have hg8 := s8.at (ng2.at hg6)
      have hg28 := s8.at hg27
      have hmg8 : MvsAt H8 us' ms' := (hm6.tps (.of ng2.same)).tps (.of s8)
      have hB8 := (B6.nw ng2).same s8
      have hpm' : (mvsOf (LM ms')).Perm ms := (mvsOf_LM ok6).trans hpm6
      have hsz : ∀ c ∈ smls, (LM ms' c).length ≤ 10000 := fun c _ => Nat.le_trans (LM_len _ _) (by omega)
      walk_at "go"
      refine w_lcS (fun r j H9 => Same H8 H9 ∧ H8 r = none ∧ H9 r = some (.lst ((((smls.take j).filter fun c => decide (c ∈ ms.map (·.1))).map one).map V.str))) (fun r H9 hr nr => ⟨nr.same, nr.nn, hr⟩) ?_ ?_
      · rintro r j c H9 hc ⟨s9, nr, hr9⟩
        rw [smls_tl] at hc
        walk_at "go"
        refine w_lcL (xs := us) (fun r2 k H10 => Same H9 H10 ∧ H9 r2 = none ∧ H10 r2 = some (.lst (((ms.map (·.1)).take k).map fun d => V.str (one d)))) (fun r2 H10 h10 n10 => ⟨n10.same, n10.nn, h10⟩) (fun r2 k H10 _ h => h.1.at (s9.at hf8)) ?_ ?_
        · rintro r2 k v H10 hv ⟨s10, nr2, hr10⟩
          obtain ⟨m, hmk, t2, rfl, ht2⟩ := paired_get ((hmf8.tps (.of s9)).tps (.of s10)) hv
          walk_at "go"
          refine w_kIt hr10 ?_ (fun H11 h11 o11 => ⟨s10.off o11 nr2, nr2, ?_⟩)
          · rw [List.length_map, List.length_take, List.length_map]
            exact lineLt_of (by omega)
          · rw [h11, take_snoc (l := ms.map (·.1)) (x := m.1) (by rw [List.getElem?_map, hmk]; rfl), List.map_append]
            rfl
        · rintro r2 H10 ⟨s10, nr2, hr10⟩
          rw [List.take_of_length_le (by rw [List.length_map]; omega)] at hr10
          refine w_inOnes hr10 ?_
          walk_at "go"
          have s10' := s9.trans s10
          rw [take_snoc hc, List.filter_append]
          refine w_tst2 (fun e => ?_) (fun e => ?_)
          · walk_at "go"
            refine w_kIt (s10.at hr9) ?_ (fun H11 h11 o11 => ⟨s10'.off o11 nr, nr, ?_⟩)
            · rw [List.length_map, List.length_map]
              refine lineLt_of (Nat.le_trans (List.length_filter_le _ _) ?_)
              rw [List.length_take]
              exact Nat.le_trans (Nat.min_le_right _ _) (by decide)
            · rw [h11, List.filter_cons, if_pos (decide_eq_true e), List.filter_nil, List.map_append, List.map_append]
              rfl
          · refine ⟨s10', nr, ?_⟩
            rw [List.filter_cons, if_neg (by rw [decide_eq_false e]; exact fun z => nomatch z), List.filter_nil, List.append_nil]
            exact s10.at hr9
      · rintro r H9 ⟨s9, nr, hr9⟩
        have hfull : smls.take (tl (Str.ofString "abcdefgh")).length = smls := by decide +kernel
        rw [hfull] at hr9
        refine w_join hr9 (join_fit (Nat.le_trans (List.length_filter_le _ _) (by decide))) ?_
        rw [join_ones, ← ltS_eq ok5 hpm6]
        have t1 := toStrL (log_small (i := n) (by omega) (by omega))
        have t2 := toStrL (i := (us.length : Int)) (log_small (by omega) (by omega))
        have l1 : (Str.ofString "World(").length = 6 := by decide +kernel
        have l2 : (Str.ofString " places, ").length = 9 := by decide +kernel
        have l3 : (Str.ofString " moves)").length = 7 := by decide +kernel
        have hf9 := s9.at hf8
        walk_at "go"
        refine w_strI (log_small (by omega) (by omega)) ?_
        refine w_addS (line_of (by omega)) ?_
        walk_at "go"
        refine w_addS (line_of (by rw [len_app]; omega)) ?_
        walk_at "go"
        refine w_strI (log_small (by omega) (by omega)) ?_
        refine w_addS (line_of (by rw [len_app, len_app]; omega)) ?_
        walk_at "go"
        refine w_addS (line_of (by rw [len_app, len_app, len_app]; omega)) ?_
        have etx : (((Str.ofString "World(" ++ Str.ofString (toString n)) ++ Str.ofString " places, ") ++ Str.ofString (toString ((us.length : Nat) : Int))) ++ Str.ofString " moves)" = wtext n (mvsOf (LM ms')).length := by
          rw [hpm'.length_eq, ← hul]
          rfl
        rw [etx]
        have hW9 : WAt C H9 p n (LM ms') := (hW8.same sG8).same s9
        walk_at "go"
        refine w_kRng1 (by decide) (by decide) ?_
        refine w_range (fun j σ H10 => ∃ y12 : Option V, σ = [some (.ref a), some (.ref b), some (.int (0 + (i : Int))), some (.int n), some (.ref f), some (.ref g), some (.ref g2), some (.ref p), y8, y9, some (.str (ltS (LM ms'))), some (.str (wtext n (mvsOf (LM ms')).length)), y12, y13, y14, y15, y16, y17, y18] ∧ Same H9 H10) ⟨_, rfl, .refl _⟩ ?_ ?_
        · rintro j σ H10 hj ⟨y12, rfl, s10⟩
          have hW10 := hW9.same s10
          have ⟨dx, pl, ld, dd, hp10, _, _⟩ := hW10
          walk_at "go"
          refine ⟨p, f, n, LM ms', us, ms, rfl, hW10, hsz, s10.at hf9, (hmf8.tps (.of s9)).tps (.of s10), hpm', by omega, by omega, by omega, fun H11 s11 => ?_⟩
          walk_at "go"
          refine w_kMeth (s11.at hp10) (wf_no _ _ (by decide +kernel) (by decide +kernel)) ?_
          walk_at "go"
          refine ⟨p, n, LM ms', rfl, hW10.same s11, fun H12 s12 => ?_⟩
          walk_at "go"
          refine ⟨p, dx, _, rfl, s12.at (s11.at hp10), p, n, LM ms', rfl, (hW10.same s11).same s12, hsz, by omega, by omega, by rw [hpm'.length_eq]; omega, fun H13 s13 => ⟨_, rfl, ?_⟩⟩
          walk_at "go"
          refine w_newL (by walk_at "sz") (fun l1 H14 hl1 nl1 => ?_)
          walk_at "go"
          refine w_newL (by walk_at "sz") (fun l2 H15 hl2 nl2 => ?_)
          refine ⟨.ref l1, .ref l2, rfl, eqv_two (nl2.at hl1) hl2 (.flat rfl) (.flat rfl), fun H16 s16 => ?_⟩
          have s16' : Same H10 H16 := ((((s11.trans s12).trans s13).nw nl1).nw nl2).trans s16
          walk_at "go"
          refine w_kMeth (s16'.at hp10) (wf_no _ _ (by decide +kernel) (by decide +kernel)) ?_
          walk_at "go"
          refine ⟨p, n, LM ms', rfl, hW10.same s16', hsz, fun r3 H17 us3 nr3 s17 hr3 hm3 => ?_⟩
          walk_at "go"
          refine w_newT (by walk_at "sz") (fun t3 H18 ht3 nt3 => ?_)
          have e3 : us3.length = ms.length := (Paired.length hm3).trans ((sortM_len _).trans hpm'.length_eq)
          walk_at "go"
          refine w_append (nt3.at hr3) (lineLt_of (by omega)) (fun H19 h19 o19 => ?_)
          walk_at "go"
          exact ⟨_, rfl, s10.trans (((s16'.trans s17).nw nt3).off o19 (s16'.free nr3))⟩
        · rintro σ H10 ⟨y12, rfl, s10⟩
          have s10' := s9.trans s10
          walk_at "go"
          refine w_neSame (.lst (SqL.of (s10'.at hg8)) (dp_mvs (hmg8.tps (.of s10')))) (.lst (SqL.of (s10'.at hg28)) (dp_mvs (hmg8.tps (.of s10')))) (mvs_shaped ok6) ?_
          walk_at "go"
          refine w_clear (s10'.at hg8) (fun H11 h11 o11 => ?_)
          walk_at "go"
          refine w_newT (by walk_at "sz") (fun t4 H12 ht4 nt4 => ?_)
          walk_at "go"
          refine w_append (nt4.at h11) (lineLt_of (Nat.zero_le _)) (fun H13 h13 o13 => ?_)
          have sG13 : Same G8 H13 := fun q o e => o13.at (nG q o e).2 (nt4.at (o11.at (nG q o e).2 (s10'.at (sG8 _ _ e))))
          have hW13 := hW8.same sG13
          have hf13 : H13 f = some (.lst us) := o13.at nfg (nt4.at (o11.at nfg (s10'.at hf8)))
          have tp13 : Tps H8 H13 := (((Tps.of s10').off (s10'.at hg8) o11).trans (.of nt4.same)).off (nt4.at h11) o13
          have hm13 := hmf8.tps tp13
          have B13 : Bag H13 b l := (((hB8.same s10').off ngb ngl o11).nw nt4).off ngb ngl o13
          walk_at "go"
          refine ⟨p, f, n, LM ms', us, ms, rfl, hW13, hsz, hf13, hm13, hpm', by omega, by omega, by omega, fun H14 s14 => ?_⟩
          walk_at "go"
          have waB : Wd (Str.ofString "aB") := by
            show ∀ c ∈ tl (Str.ofString "aB"), _
            decide +kernel
          refine ⟨n, f, us, ms, Str.ofString "aB", rfl, by omega, by omega, s14.at hf13, hm13.tps (.of s14), fun m hm => by have := ok5.rg m hm; omega, by omega, waB, fun t5 H15 nt5 s15 ht5 => ?_⟩
          have ⟨dx, pl, ld, dd, hp13, _, _⟩ := hW13
          walk_at "go"
          refine w_kMeth (s15.at (s14.at hp13)) (wf_no _ _ (by decide +kernel) (by decide +kernel)) ?_
          walk_at "go"
          refine ⟨p, n, LM ms', Str.ofString "aB", rfl, (hW13.same s14).same s15, waB, by decide +kernel, by omega, .inl fun t6 H16 nt6 s16 ht6 => ?_⟩
          have emo : motV (LM ms') n (Str.ofString "aB") = motV (LM ms) n (Str.ofString "aB") := by
            unfold motV
            rw [stp_perm ok5 hpm6]
          have emd : motV (LM ms) n (Str.ofString "aB") = ((plc n).map fun x => ledM (stp (LM ms)) (tl (Str.ofString "aB")) x).map oV := by
            unfold motV
            rw [List.map_map]
            rfl
          rw [emo, emd] at ht6
          rw [emd] at ht5
          refine w_neSame (.tup (SqT.of (s16.at ht5)) (dp_mot2 _)) (.tup (SqT.of ht6) (dp_mot2 _)) (shaped_tup (fun o _ => oD_lay o) fun o _ => oD_dep o) ?_
          have s16' : Same H13 H16 := (s14.trans s15).trans s16
          have hf16 := s16'.at hf13
          have hm16 := hm13.tps (.of s16')
          have B16 := B13.same s16'
          walk_at "gs"
          refine w_seq ?_
          walk_at "gs"
          refine w_newT (by walk_at "sz") (fun u1 K1 hu1 nu1 => ?_)
          walk_at "gs"
          refine w_newT (by walk_at "sz") (fun u2 K2 hu2 nu2 => ?_)
          walk_at "gs"
          refine w_newT (by walk_at "sz") (fun u3 K3 hu3 nu3 => ?_)
          walk_at "gs"
          refine w_newT (by walk_at "sz") (fun u4 K4 hu4 nu4 => ?_)
          walk_at "gs"
          refine w_newT (by walk_at "sz") (fun u5 K5 hu5 nu5 => ?_)
          walk_at "gs"
          refine w_newT (by walk_at "sz") (fun u6 K6 hu6 nu6 => ?_)
          walk_at "gs"
          refine w_newT (by walk_at "sz") (fun u7 K7 hu7 nu7 => ?_)
          walk_at "gs"
          refine w_newL (by walk_at "sz") (fun bq K8 hbq nbq => ?_)
          walk_at "gs"
          have sK7 : Same H16 K7 := ((((((nu1.same.nw nu2).nw nu3).nw nu4).nw nu5).nw nu6).nw nu7)
          have sK8 : Same H16 K8 := sK7.nw nbq
          have BK7 := B16.same sK7
          have bqb := BK7.ne nbq.nn
          have bad0 : ∀ v ∈ [V.ref u1, .ref u2, .ref u3, .ref u4, .ref u5, .ref u6, .ref u7], BadV K8 n ms v := by
            intro v hv
            simp only [List.mem_cons, List.not_mem_nil, or_false] at hv
            rcases hv with rfl | rfl | rfl | rfl | rfl | rfl | rfl
            · exact ⟨u1, _, _, _, rfl, nbq.at (nu7.at (nu6.at (nu5.at (nu4.at (nu3.at (nu2.at hu1)))))), by decide +kernel, .inl (isMv_s (.inr (by omega)))⟩
            · exact ⟨u2, _, _, _, rfl, nbq.at (nu7.at (nu6.at (nu5.at (nu4.at (nu3.at hu2))))), by decide +kernel, .inl (isMv_e (.inr (by omega)))⟩
            · exact ⟨u3, _, _, _, rfl, nbq.at (nu7.at (nu6.at (nu5.at (nu4.at hu3)))), by decide +kernel, .inl (isMv_e (.inl (by omega)))⟩
            · exact ⟨u4, _, _, _, rfl, nbq.at (nu7.at (nu6.at (nu5.at hu4))), by decide +kernel, .inl (isMv_s (.inl (by omega)))⟩
            · exact ⟨u5, _, _, _, rfl, nbq.at (nu7.at (nu6.at hu5)), by decide +kernel, .inl (isMv_z (by decide +kernel))⟩
            · exact ⟨u6, _, _, _, rfl, nbq.at (nu7.at hu6), by decide +kernel, .inl (isMv_z (by decide +kernel))⟩
            · exact ⟨u7, _, _, _, rfl, nbq.at hu7, by decide +kernel, .inl (isMv_z (by decide +kernel))⟩
          refine w_seqJ (fun σ H' => ∃ (y8 y14 y15 : Option V) (bq : Addr) (vs : List V), σ = [some (.ref a), some (.ref b), some (.int (0 + (i : Int))), some (.int n), some (.ref f), some (.ref g), some (.ref g2), some (.ref p), y8, y9, some (.str (ltS (LM ms'))), some (.str (wtext n (mvsOf (LM ms')).length)), y12, some (.ref bq), y14, y15, y16, y17, y18] ∧ H' bq = some (.lst vs) ∧ 1 ≤ vs.length ∧ vs.length ≤ 10 ∧ (∀ v ∈ vs, BadV H' n ms v) ∧ H' f = some (.lst us) ∧ MvsAt H' us ms ∧ Bag H' b l ∧ bq ≠ b) (fun N hN => ?_) ?_
          · walk_at "go"
            refine w_newL (by walk_at "sz") (fun e0 K9 he0 ne0 => ?_)
            have sK9 := sK8.nw ne0
            refine w_neNil (sK9.at hf16) (dp_mvs (hm16.tps (.of sK9))) (mvs_shaped ok5) he0 ?_
            rw [List.isEmpty_map]
            walk_at "go"
            have BK9 := B16.same sK9
            refine w_ifB (fun hne => ?_) (fun _ => ?_)
            · have hms : 1 ≤ ms.length := by
                cases ms with
                | nil => cases hne
                | cons m r => exact Nat.succ_le_succ (Nat.zero_le _)
              walk_at "go"
              refine ⟨b, l, f, us, rfl, BK9, sK9.at hf16, nfb, by omega, by omega, fun v K10 hv B10 f10 => ?_⟩
              obtain ⟨iv, hiv⟩ := List.mem_iff_getElem?.mp hv
              have t10 : Tps K9 K10 := .fx BK9 f10
              obtain ⟨m, hmk, tv, rfl, htv⟩ := paired_get ((hm16.tps (.of sK9)).tps t10) hiv
              have hmm : m ∈ ms := List.mem_of_getElem? hmk
              obtain ⟨r1, r2, r3, r4, r5, r6⟩ := ok5.rg m hmm
              walk_at "go"
              refine w_newT (by walk_at "sz") (fun v1 K11 hv1 nv1 => ?_)
              walk_at "go"
              refine w_i (by omega) ?_
              walk_at "go"
              refine w_newT (by walk_at "sz") (fun v2 K12 hv2 nv2 => ?_)
              walk_at "go"
              refine w_i (by omega) ?_
              walk_at "go"
              refine w_newT (by walk_at "sz") (fun v3 K13 hv3 nv3 => ?_)
              walk_at "go"
              refine w_newL (by walk_at "sz") (fun v4 K14 hv4 nv4 => ?_)
              have s14 : Same K10 K14 := ((nv1.same.nw nv2).nw nv3).nw nv4
              refine w_cat (s14.at (f10.at bqb (ne0.at hbq))) hv4 (line_of (by show 7 + 3 ≤ 100000; decide)) (fun v5 K15 hv5 nv5 => ?_)
              walk_at "go"
              have s15 := s14.nw nv5
              have B14 := B10.same s14
              have e0' := Int.emod_nonneg (m.2.2 + 1) (show n ≠ 0 by omega)
              have e1' := Int.emod_lt_of_pos (m.2.2 + 1) (show 0 < n by omega)
              have e2' := Int.emod_nonneg (m.2.1 + 1) (show n ≠ 0 by omega)
              have e3' := Int.emod_lt_of_pos (m.2.1 + 1) (show 0 < n by omega)
              refine hN _ _ ⟨_, _, _, v5, _, rfl, hv5, by show 1 ≤ 10; decide, by show 10 ≤ 10; decide, ?_, s15.at (f10.at nfb (sK9.at hf16)), ((hm16.tps (.of sK9)).tps t10).tps (.of s15), B10.same s15, B14.ne nv5.nn⟩
              intro v hv
              rcases List.mem_append.mp hv with hv | hv
              · exact (bad0 v hv).tps ((Tps.of ne0.same).trans (t10.trans (.of s15)))
              · simp only [List.mem_cons, List.not_mem_nil, or_false] at hv
                rcases hv with rfl | rfl | rfl
                · exact ⟨v1, _, _, _, rfl, nv5.at (nv4.at (nv3.at (nv2.at hv1))), by rw [len_one]; decide, .inr ⟨m.1, rfl, r1, r2, r3, r4, r5, r6, m, hmm, rfl, .inl rfl⟩⟩
                · exact ⟨v2, _, _, _, rfl, nv5.at (nv4.at (nv3.at hv2)), by rw [len_one]; decide, .inr ⟨m.1, rfl, r1, r2, r3, r4, e0', e1', m, hmm, rfl, .inl rfl⟩⟩
                · exact ⟨v3, _, _, _, rfl, nv5.at (nv4.at hv3), by rw [len_one]; decide, .inr ⟨m.1, rfl, r1, r2, e2', e3', r5, r6, m, hmm, rfl, .inr rfl⟩⟩
            · walk_at "go"
              exact hN _ _ ⟨_, _, _, bq, _, rfl, ne0.at hbq, by show 1 ≤ 7; decide, by show 7 ≤ 10; decide, fun v hv => (bad0 v hv).tps (.of ne0.same), sK9.at hf16, hm16.tps (.of sK9), BK9, bqb⟩
          · rintro σ K1 ⟨y8, y14, y15, bq, vs, rfl, hbq, hv1, hv10, hbv, hfK, hmK, BK, bqb⟩
            walk_at "go"
            refine ⟨b, l, _, rfl, BK, by omega, by omega, fun d2 K2 d20 d21 B2' f2' => ?_⟩
            have hf2 := f2'.at nfb hfK
            have hm2 := hmK.tps (.fx BK f2')
            walk_at "go"
            refine w_slL hf2 (fun w1 K3 hw1 nw1 => ?_)
            walk_at "go"
            refine ⟨b, l, bq, vs, rfl, B2'.nw nw1, nw1.at (f2'.at bqb hbq), bqb, hv1, by omega, fun v K4 hv B4' f4' => ?_⟩
            obtain ⟨tv, zv, sv, ev, rfl, htv, hzv, hbad⟩ := (hbv v hv).tps (((Tps.fx BK f2').trans (.of nw1.same)).trans (.fx (B2'.nw nw1) f4'))
            have w1b := B2'.ne nw1.nn
            walk_at "go"
            refine w_newL (by walk_at "sz") (fun w2 K5 hw2 nw2 => ?_)
            have hd2 : d2.toNat ≤ us.length := by omega
            have c1 : cutV us none (some d2) = us.take d2.toNat := cutV_take d20 (by omega)
            refine w_cat (nw2.at (f4'.at w1b hw1)) hw2 (line_of (by rw [c1, List.length_take]; show min d2.toNat us.length + 1 ≤ 100000; omega)) (fun w3 K6 hw3 nw3 => ?_)
            walk_at "go"
            refine w_slL (nw3.at (nw2.at (f4'.at nfb (nw1.at hf2)))) (fun w4 K7 hw4 nw4 => ?_)
            have c2 : cutV us (some d2) none = us.drop d2.toNat := cutV_drop d20 (by omega)
            rw [c1] at hw3
            rw [c2] at hw4
            refine w_cat (nw4.at hw3) hw4 (line_of (by rw [List.length_append, List.length_take, List.length_drop]; show min d2.toNat us.length + 1 + (us.length - d2.toNat) ≤ 100000; omega)) (fun w5 K8 hw5 nw5 => ?_)
            have s8' : Same K4 K8 := (((nw2.same.nw nw3).nw nw4).nw nw5)
            have hm8 : MvsAt K8 us ms := ((hm2.tps (.of nw1.same)).tps (.fx (B2'.nw nw1) f4')).tps (.of s8')
            obtain ⟨jb, hjb⟩ := bad_put hm8 ok5 hml (s8'.at htv) hzv hbad d2.toNat hd2
            walk_at "go"
            refine ⟨n, w5, _, rfl, hw5, .inr ⟨n1, by omega, _, hjb⟩, fun K9 s9' => ?_⟩
            walk_at "go"
            refine ⟨_, _, rfl, .flat rfl, fun K10 s10' => ?_⟩
            walk_at "go"
            exact ⟨_, _, _, _, _, _, _, _, _, _, _, _, _, _, _, _, _, rfl, (B4'.same s8').same (s9'.trans s10')⟩
    · rintro σ H2 ⟨y2, y3, y4, y5, y6, y7, y8, y9, y10, y11, y12, y13, y14, y15, y16, y17, y18, rfl, B2⟩
      walk_at "go"
      refine w_newL (by walk_at "sz") (fun z1 H3 hz1 nz1 => ?_)
      walk_at "go"
      refine w_lcL (xs := [V.int 0, .int (-1), .int 1001]) (fun r j H4 => Same H3 H4 ∧ H3 r = none ∧ j ≤ 3 ∧ H4 r = some (.lst (List.replicate j (V.str (Str.ofString "badworld"))))) (fun r H4 hr nr => ⟨nr.same, nr.nn, by decide, hr⟩) (fun r j H4 _ h => h.1.at hz1) ?_ ?_
      · rintro r j v H4 hv ⟨s4, nr, hj, hr4⟩
        obtain ⟨k, rfl, hk⟩ : ∃ k : Int, v = .int k ∧ (k ≤ 0 ∨ 1000 < k) := by
          match j, hv with
          | 0, hv => cases hv; exact ⟨_, rfl, by omega⟩
          | 1, hv => cases hv; exact ⟨_, rfl, by omega⟩
          | 2, hv => cases hv; exact ⟨_, rfl, by omega⟩
        have hj3 : j < 3 := (List.getElem?_eq_some_iff.mp hv).1
        walk_at "go"
        refine w_newL (by walk_at "sz") (fun z2 H5 hz2 nz2 => ?_)
        refine ⟨k, z2, [], rfl, hz2, .inl hk, fun H6 s6 => ?_⟩
        refine w_kIt (s6.at (nz2.at hr4)) (by rw [List.length_replicate]; exact lineLt_of (by omega)) (fun H7 h7 o7 => ⟨((s4.nw nz2).trans s6).off o7 nr, nr, hj3, ?_⟩)
        rw [h7, List.replicate_succ']
      · rintro r H4 ⟨s4, nr, _, hr4⟩
        walk_at "go"
        refine w_newL (by walk_at "sz") (fun z3 H5 hz3 nz3 => ?_)
        walk_at "go"
        refine w_rep hz3 (by decide) (by decide) (by show 1 ≤ 1000; decide) (fun z4 H6 hz4 nz4 => ?_)
        refine w_eqSame (d := .list [.str (Str.ofString "badworld"), .str (Str.ofString "badworld"), .str (Str.ofString "badworld")]) (.lst (SqL.of (nz4.at (nz3.at hr4))) (.cons (.str _) (.cons (.str _) (.cons (.str _) .nil)))) (.lst (SqL.of hz4) (.cons (.str _) (.cons (.str _) (.cons (.str _) .nil)))) (by decide +kernel) ?_
        walk_at "go"
        refine w_newT (by walk_at "sz") (fun z5 H7 hz5 nz5 => ?_)
        walk_at "go"
        refine w_newL (by walk_at "sz") (fun z6 H8 hz6 nz6 => ?_)
        walk_at "go"
        refine w_world (ms := [(97, 999, 0)]) hz6 (.cons ⟨z5, rfl, nz6.at hz5⟩ .nil) ⟨fun m hm => by rw [List.mem_singleton.mp hm]; decide, List.pairwise_singleton _ _⟩ (by decide) (by decide) (by decide) (fun p H9 G9 hW9 sG9 _ _ => ?_)
        walk_at "go"
        refine w_lenW (hW9.same sG9) (by decide) (by decide) ?_
        walk_at "go"
        exact q _
end
end Sf
namespace Sf
open PySem PySem.Spec PyProof.Rows L2 TL
theorem all_mk {P : Program} {w : World} {K : PySem.W.Frag} {h : Heap} {mg : Str → Option Value} {fa f : Addr} (X : K.In h) (G : h.Ns mainGlobals mg) (hfa : mg "law" = some (.ref fa))
    {od an : Option Addr} {sl : Array (Option Value)} {oc kV dc pm cd ct : Value}
    (aL : PySem.W.nsIn K mainGlobals "law" = some (some (.ref f))) (lL : K.lookup f = some ⟨oc, od, .func (PySem.W.fnOf "law" "law" (defArgs s_law) (defBody s_law) (defScope s_law) .none kV dc pm an cd ct), sl⟩) (cL : PySem.W.codeIn K cd "law" = true) (kL : PySem.W.keepIn K (.ref f) = true)
    (F_law_pull : FnAt K mg "_law_pull" s__law_pull ["_law_bag", "_law_many"])
    (F_law_begin : FnAt K mg "_law_begin" s__law_begin ["_law_script"])
    (Fis_word : FnAt K mg "is_word" s_is_word ["text"])
    (Fneed_word : FnAt K mg "need_word" s_need_word ["text"])
    (Fis_upto : FnAt K mg "is_upto" s_is_upto ["thing", "most"])
    (Fis_move : FnAt K mg "is_move" s_is_move ["move", "many"])
    (Fleads_by : FnAt K mg "leads_by" s_leads_by ["many", "moves"])
    (F_law_world : FnAt K mg "_law_world" s__law_world ["_law_bag", "_law_upto", "_law_letters"])
    (F_law_same : FnAt K mg "_law_same" s__law_same ["_law_found", "_law_due"])
    (F_law_told_world : FnAt K mg "_law_told_world" s__law_told_world ["_law_many", "_law_moves"])
    (F_law_mixed : FnAt K mg "_law_mixed" s__law_mixed ["_law_bag", "_law_row"])
    (F_law_pick : FnAt K mg "_law_pick" s__law_pick ["_law_bag", "_law_row"])
    (F_law_led : FnAt K mg "_law_led" s__law_led ["_law_moves", "_law_word", "_law_place"])
    (F_law_motion : FnAt K mg "_law_motion" s__law_motion ["_law_many", "_law_moves", "_law_word"])
    (F_law_is_world : FnAt K mg "_law_is_world" s__law_is_world ["_law_world_here", "_law_many", "_law_moves"])
    (B : Blt mg) (Nrepr : mg "repr" = none) {t_MOST_WORD : Tok} (C_MOST_WORD : mg "MOST_WORD" = some (.int 60 t_MOST_WORD)) {t_SIGNS : Tok} (C_SIGNS : mg "SIGNS" = some (.str (Str.ofString "aAbBcCdDeEfFgGhH") t_SIGNS)) {t_LETTERS : Tok} (C_LETTERS : mg "LETTERS" = some (.str (Str.ofString "abcdefgh") t_LETTERS)) {t_MOST_PLACES : Tok} (C_MOST_PLACES : mg "MOST_PLACES" = some (.int 1000 t_MOST_PLACES)) {CWorld : Addr} (TWorld : WC K mg CWorld) (mkWorld : PySem.W.makesIn K CWorld = true) (kcWorld : PySem.W.keepIn K (.ref CWorld) = true)
    (MWorld___init__ : MAt K CWorld "__init__" "World.__init__" s_World___init__ ["self", "many", "moves"])
    (MWorld_led : MAt K CWorld "led" "World.led" s_World_led ["self", "word", "place"])
    (MWorld_motion : MAt K CWorld "motion" "World.motion" s_World_motion ["self", "word"])
    (MWorld_moves : MAt K CWorld "moves" "World.moves" s_World_moves ["self"])
    (MWorld_letters : MAt K CWorld "letters" "World.letters" s_World_letters ["self"])
    (MWorld___repr__ : MAt K CWorld "__repr__" "World.__repr__" s_World___repr__ ["self"])
    (MWorld___len__ : MAt K CWorld "__len__" "World.__len__" s_World___len__ ["self"])
    {CS fS : Addr} (S_ : SE K mg CS fS) (FS_ : FbD K "__init__" "SpoorError.__init__" s_SpoorError___init__ fS ["self", "word", "message"])
    {CBadWorld fBadWorld : Addr} (EBadWorld : EC K mg "BadWorld" CBadWorld fBadWorld) (IBadWorld : Fb K "__init__" "BadWorld.__init__" s_BadWorld___init__ fBadWorld ["self"]) :
    ∃ fd : FuncData, (∀ (s : Shared) (v : Value), BindsTo s fd ⟨[v], []⟩ [("_law_script", v)]) ∧ ∀ base : Heap, K.In base → base.Ns mainGlobals mg → FnOk P w K mg base CX0 9 fa fd ["_law_script"] (spLaw K) := by
  have e := hfa.symm.trans (PySem.W.mg_of X G aL)
  cases e
  have FL := fun_mk (st := s_law) lL cL kL
  refine ⟨PySem.W.fnOf "law" "law" (defArgs s_law) (defBody s_law) (defScope s_law) .none kV dc pm an cd ct, fun s v => .of_eq rfl, fun base _ _ => ?_⟩
  obtain ⟨fdS, FS, bS⟩ := FS_
  obtain ⟨fdB, FB, bB⟩ := IBadWorld
  have G_B := ok_bwo (P := P) (w := w) (base := base) FB S_ FS bS
  have h_Pu := has_pull (P := P) (w := w) (base := base) F_law_pull B
  have h_Be := has_begin (P := P) (w := w) (base := base) F_law_begin B
  have h_Iw := has_isword (P := P) (w := w) (base := base) Fis_word B C_MOST_WORD C_SIGNS
  have h_Ne := has_need (P := P) (w := w) (base := base) Fneed_word h_Iw
  have h_Up := has_up (P := P) (w := w) (base := base) Fis_upto B
  have h_Im := has_im (P := P) (w := w) (base := base) Fis_move B h_Up C_LETTERS
  have h_Lb := has_lb (P := P) (w := w) (base := base) Fleads_by B h_Im C_SIGNS
  have h_WI := has_wi (P := P) (w := w) (base := base) MWorld___init__ B TWorld h_Up h_Lb C_MOST_PLACES
  have h_Led := has_led (P := P) (w := w) (base := base) MWorld_led TWorld
  have h_Mo := has_mo (P := P) (w := w) (base := base) MWorld_motion B TWorld h_Ne h_Led
  have h_Lw := has_lw (P := P) (w := w) (base := base) F_law_world B h_Pu
  have h_ImG := has_imG (P := P) (w := w) (base := base) Fis_move B h_Up C_LETTERS
  have h_LbX := has_lbX (P := P) (w := w) (base := base) Fleads_by B h_ImG C_SIGNS EBadWorld G_B bB
  have h_WIX := has_wiX (P := P) (w := w) (base := base) MWorld___init__ B TWorld h_Up h_LbX C_MOST_PLACES EBadWorld G_B bB
  have h_Tw := has_tw (P := P) (w := w) (base := base) F_law_told_world TWorld mkWorld kcWorld h_WIX EBadWorld
  have h_Mv := has_mvs (P := P) (w := w) (base := base) MWorld_moves B TWorld C_LETTERS
  have h_Lt := has_let (P := P) (w := w) (base := base) MWorld_letters B TWorld C_LETTERS
  have h_WRp := has_wrp (P := P) (w := w) (base := base) MWorld___repr__ B TWorld h_Mv
  have h_Len := has_wlen (P := P) (w := w) (base := base) MWorld___len__ B TWorld
  have h_Mx := has_mx (P := P) (w := w) (base := base) F_law_mixed B h_Pu
  have h_Lpk := has_lpk (P := P) (w := w) (base := base) F_law_pick B h_Pu
  have h_Lld := has_lld (P := P) (w := w) (base := base) F_law_led
  have h_Lmo := has_lmo (P := P) (w := w) (base := base) F_law_motion B h_Lld
  have h_Sa := has_same (P := P) (w := w) (base := base) F_law_same B
  have h_Ow := has_ow (P := P) (w := w) (base := base) F_law_is_world B TWorld (h_Sa 3) h_Len h_Mv
  exact ok_law FL B Nrepr TWorld mkWorld kcWorld C_MOST_PLACES h_Be h_Pu h_Lw (h_Sa 1) h_Mx h_Lpk h_Lmo h_Ow h_Tw h_WI h_Mo h_Mv h_Lt h_WRp h_Len
end Sf
open PySem PySem.W PyProof.Rows
set_option maxRecDepth 100000 in
set_option maxHeartbeats 0 in
theorem PySem.Challenge.cw_spoorfold_k17_worlds_made_and_refused_holds : PySem.Challenge.rw_spoorfold_k17_worlds_made_and_refused.Holds := by
  w_on; o_law; k_head; (case hw => w_witness2)
  k_fill
  refine L2.walk_of (l := PySem.Challenge.rw_spoorfold_k17_worlds_made_and_refused) (n := 63) (k := 9) (x := "_law_script") (CX := fun _ => L2.CX0) (sp := fun w => Sf.spLaw _) rfl (by decide) rfl ⟨rfl, by decide, by decide⟩ (fun w h Y => PySem.W.kIn_of Y) ?F (fun _ _ a ns hl _ hS => ⟨a, ns, rfl, hS, hl, fun _ => rfl⟩) (fun _ _ _ _ _ h => h)
  case F =>
    intro w mg fa h KX G hmg
    refine' Sf.all_mk KX G hmg ?aL ?lL ?cL ?kL (Sf.fnAt_mk KX G ?a0 ?l0 ?c0 ?k0 (fun _ _ _ _ _ _ us hl => match us, hl with | [_, _], _ => rfl)) (Sf.fnAt_mk KX G ?a1 ?l1 ?c1 ?k1 (fun _ _ _ _ _ _ us hl => match us, hl with | [_], _ => rfl)) (Sf.fnAt_mk KX G ?a2 ?l2 ?c2 ?k2 (fun _ _ _ _ _ _ us hl => match us, hl with | [_], _ => rfl)) (Sf.fnAt_mk KX G ?a3 ?l3 ?c3 ?k3 (fun _ _ _ _ _ _ us hl => match us, hl with | [_], _ => rfl)) (Sf.fnAt_mk KX G ?a4 ?l4 ?c4 ?k4 (fun _ _ _ _ _ _ us hl => match us, hl with | [_, _], _ => rfl)) (Sf.fnAt_mk KX G ?a5 ?l5 ?c5 ?k5 (fun _ _ _ _ _ _ us hl => match us, hl with | [_, _], _ => rfl)) (Sf.fnAt_mk KX G ?a6 ?l6 ?c6 ?k6 (fun _ _ _ _ _ _ us hl => match us, hl with | [_, _], _ => rfl)) (Sf.fnAt_mk KX G ?a7 ?l7 ?c7 ?k7 (fun _ _ _ _ _ _ us hl => match us, hl with | [_, _, _], _ => rfl)) (Sf.fnAt_mk KX G ?a8 ?l8 ?c8 ?k8 (fun _ _ _ _ _ _ us hl => match us, hl with | [_, _], _ => rfl)) (Sf.fnAt_mk KX G ?a9 ?l9 ?c9 ?k9 (fun _ _ _ _ _ _ us hl => match us, hl with | [_, _], _ => rfl)) (Sf.fnAt_mk KX G ?a10 ?l10 ?c10 ?k10 (fun _ _ _ _ _ _ us hl => match us, hl with | [_, _], _ => rfl)) (Sf.fnAt_mk KX G ?a11 ?l11 ?c11 ?k11 (fun _ _ _ _ _ _ us hl => match us, hl with | [_, _], _ => rfl)) (Sf.fnAt_mk KX G ?a12 ?l12 ?c12 ?k12 (fun _ _ _ _ _ _ us hl => match us, hl with | [_, _, _], _ => rfl)) (Sf.fnAt_mk KX G ?a13 ?l13 ?c13 ?k13 (fun _ _ _ _ _ _ us hl => match us, hl with | [_, _, _], _ => rfl)) (Sf.fnAt_mk KX G ?a14 ?l14 ?c14 ?k14 (fun _ _ _ _ _ _ us hl => match us, hl with | [_, _, _], _ => rfl)) ⟨PySem.W.mg_none_of KX G ?z0, PySem.W.mg_none_of KX G ?z1, PySem.W.mg_none_of KX G ?z2, PySem.W.mg_none_of KX G ?z3, PySem.W.mg_none_of KX G ?z4, PySem.W.mg_none_of KX G ?z5, PySem.W.mg_none_of KX G ?z6, PySem.W.mg_none_of KX G ?z7, PySem.W.mg_none_of KX G ?z8, PySem.W.mg_none_of KX G ?z9, PySem.W.mg_none_of KX G ?z10, PySem.W.mg_none_of KX G ?z11⟩ (PySem.W.mg_none_of KX G ?y0) (PySem.W.mg_of KX G ?d0) (PySem.W.mg_of KX G ?d1) (PySem.W.mg_of KX G ?d2) (PySem.W.mg_of KX G ?d3) (Sf.WC.mk ⟨?wWorldpg, ?wWorldhd, ?wWorldpo, ?wWorldsa⟩ ?wWorldf0 ?wWorldf1 (PySem.W.mg_of KX G ?wWorldaC) ?wWorldha ?wWorldhn ?wWorldhtk ?wWorldhm ?wWorldne) ?wWorldmk ?wWorldkc (Sf.mAt_mk ?wWorlda0 ?wWorldi0 ?wWorldl0 ?wWorldc0 ?wWorldk0 (fun _ _ _ _ _ _ us hl => match us, hl with | [_, _, _], _ => rfl)) (Sf.mAt_mk ?wWorlda1 ?wWorldi1 ?wWorldl1 ?wWorldc1 ?wWorldk1 (fun _ _ _ _ _ _ us hl => match us, hl with | [_, _, _], _ => rfl)) (Sf.mAt_mk ?wWorlda2 ?wWorldi2 ?wWorldl2 ?wWorldc2 ?wWorldk2 (fun _ _ _ _ _ _ us hl => match us, hl with | [_, _], _ => rfl)) (Sf.mAt_mk ?wWorlda3 ?wWorldi3 ?wWorldl3 ?wWorldc3 ?wWorldk3 (fun _ _ _ _ _ _ us hl => match us, hl with | [_], _ => rfl)) (Sf.mAt_mk ?wWorlda4 ?wWorldi4 ?wWorldl4 ?wWorldc4 ?wWorldk4 (fun _ _ _ _ _ _ us hl => match us, hl with | [_], _ => rfl)) (Sf.mAt_mk ?wWorlda5 ?wWorldi5 ?wWorldl5 ?wWorldc5 ?wWorldk5 (fun _ _ _ _ _ _ us hl => match us, hl with | [_], _ => rfl)) (Sf.mAt_mk ?wWorlda6 ?wWorldi6 ?wWorldl6 ?wWorldc6 ?wWorldk6 (fun _ _ _ _ _ _ us hl => match us, hl with | [_], _ => rfl)) (Sf.SE.mk (PySem.W.mg_of KX G ?seC) ?serd ?sega ?seat ?sevV (PySem.W.mg_none_of KX G ?semV)) (Sf.fbD_mk ?sel ?sec ?sek (Sf.se_binds ?seo ?seo2)) (Sf.EC.mk (Sf.oex_mk ?xBadWorldlk ?xBadWorldrv ?xBadWorldsa ?xBadWorldex ?xBadWorldty ?xBadWorldkC) ?xBadWorldiC ?xBadWorldtI (PySem.W.mg_of KX G ?xBadWorldgC) ⟨?xBadWorldga, ?xBadWorldgg, ?xBadWorldex2, ?xBadWorldhd⟩ ?xBadWorldnw (Sf.exm_self ?xBadWorldex3 ?xBadWorldcl ?xBadWorldty2 ?xBadWorldsub)) (Sf.fb_mk ?xBadWorldil ?xBadWorldic ?xBadWorldik (fun _ _ _ _ _ _ us hl => match us, hl with | [_], _ => rfl))
    (case aL => k_is)
    (case lL => k_is)
    (case cL => k_is)
    (case kL => k_is)
    (case a0 => k_is)
    (case l0 => k_is)
    (case c0 => k_is)
    (case k0 => k_is)
    (case a1 => k_is)
    (case l1 => k_is)
    (case c1 => k_is)
    (case k1 => k_is)
    (case a2 => k_is)
    (case l2 => k_is)
    (case c2 => k_is)
    (case k2 => k_is)
    (case a3 => k_is)
    (case l3 => k_is)
    (case c3 => k_is)
    (case k3 => k_is)
    (case a4 => k_is)
    (case l4 => k_is)
    (case c4 => k_is)
    (case k4 => k_is)
    (case a5 => k_is)
    (case l5 => k_is)
    (case c5 => k_is)
    (case k5 => k_is)
    (case a6 => k_is)
    (case l6 => k_is)
    (case c6 => k_is)
    (case k6 => k_is)
    (case a7 => k_is)
    (case l7 => k_is)
    (case c7 => k_is)
    (case k7 => k_is)
    (case a8 => k_is)
    (case l8 => k_is)
    (case c8 => k_is)
    (case k8 => k_is)
    (case a9 => k_is)
    (case l9 => k_is)
    (case c9 => k_is)
    (case k9 => k_is)
    (case a10 => k_is)
    (case l10 => k_is)
    (case c10 => k_is)
    (case k10 => k_is)
    (case a11 => k_is)
    (case l11 => k_is)
    (case c11 => k_is)
    (case k11 => k_is)
    (case a12 => k_is)
    (case l12 => k_is)
    (case c12 => k_is)
    (case k12 => k_is)
    (case a13 => k_is)
    (case l13 => k_is)
    (case c13 => k_is)
    (case k13 => k_is)
    (case a14 => k_is)
    (case l14 => k_is)
    (case c14 => k_is)
    (case k14 => k_is)
    (case z0 => k_is)
    (case z1 => k_is)
    (case z2 => k_is)
    (case z3 => k_is)
    (case z4 => k_is)
    (case z5 => k_is)
    (case z6 => k_is)
    (case z7 => k_is)
    (case z8 => k_is)
    (case z9 => k_is)
    (case z10 => k_is)
    (case z11 => k_is)
    (case y0 => k_is)
    (case d0 => k_is)
    (case d1 => k_is)
    (case d2 => k_is)
    (case d3 => k_is)
    (case wWorldaC => k_is)
    (case wWorldpg => k_is)
    (case wWorldhd => k_is)
    (case wWorldpo => k_is)
    (case wWorldsa => k_is)
    (case wWorldf0 => k_is)
    (case wWorldf1 => k_is)
    (case wWorldha => k_is)
    (case wWorldhn => k_is)
    (case wWorldhtk => k_is)
    (case wWorldhm => k_is)
    (case wWorldne => k_is)
    (case wWorldmk => k_is)
    (case wWorldkc => k_is)
    (case wWorlda0 => k_is)
    (case wWorldi0 => k_is)
    (case wWorldl0 => k_is)
    (case wWorldc0 => k_is)
    (case wWorldk0 => k_is)
    (case wWorlda1 => k_is)
    (case wWorldi1 => k_is)
    (case wWorldl1 => k_is)
    (case wWorldc1 => k_is)
    (case wWorldk1 => k_is)
    (case wWorlda2 => k_is)
    (case wWorldi2 => k_is)
    (case wWorldl2 => k_is)
    (case wWorldc2 => k_is)
    (case wWorldk2 => k_is)
    (case wWorlda3 => k_is)
    (case wWorldi3 => k_is)
    (case wWorldl3 => k_is)
    (case wWorldc3 => k_is)
    (case wWorldk3 => k_is)
    (case wWorlda4 => k_is)
    (case wWorldi4 => k_is)
    (case wWorldl4 => k_is)
    (case wWorldc4 => k_is)
    (case wWorldk4 => k_is)
    (case wWorlda5 => k_is)
    (case wWorldi5 => k_is)
    (case wWorldl5 => k_is)
    (case wWorldc5 => k_is)
    (case wWorldk5 => k_is)
    (case wWorlda6 => k_is)
    (case wWorldi6 => k_is)
    (case wWorldl6 => k_is)
    (case wWorldc6 => k_is)
    (case wWorldk6 => k_is)
    (case seC => k_is)
    (case serd => k_is)
    (case sega => k_is)
    (case seat => k_is)
    (case sevV => k_is)
    (case semV => k_is)
    (case sel => k_is)
    (case sec => k_is)
    (case sek => k_is)
    (case seo => k_is)
    (case seo2 => rfl)
    (case xBadWorldgC => k_is)
    (case xBadWorldlk => k_is)
    (case xBadWorldsa => k_is)
    (case xBadWorldex => k_is)
    (case xBadWorldty => k_is)
    (case xBadWorldkC => k_is)
    (case xBadWorldiC => k_is)
    (case xBadWorldtI => k_is)
    (case xBadWorldga => k_is)
    (case xBadWorldgg => k_is)
    (case xBadWorldex2 => k_is)
    (case xBadWorldhd => k_is)
    (case xBadWorldnw => k_is)
    (case xBadWorldex3 => k_is)
    (case xBadWorldcl => k_is)
    (case xBadWorldty2 => k_is)
    (case xBadWorldsub => k_is)
    (case xBadWorldil => k_is)
    (case xBadWorldic => k_is)
    (case xBadWorldik => k_is)
    (case xBadWorldrv => decide +kernel)
