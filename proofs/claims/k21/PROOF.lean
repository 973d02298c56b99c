import PyProof.Rows.All
import Wide.All
import OpenK.AllK
import Wide.FinOn
import HandS.ForMost
import HandS.IsInst
import HandS.Zip
import HandS.More
import KE.LtData
import HandS.DictComp
import KE.SortKeyHeap
import HandS.SortKw
import HandS.OwnEq
import HandS.Conv
import HandS.TupAny
import PySem.Challenge.RW_spoorfold_k21_whole_worlds_seen_alike
import HandS.ExcInit
import HandS.ExcField
import HandS.WordsExc
import HandS.ExcOwn
import HandS.FStr
import HandS.RaiseMore
import HandS.Style
import HandS.Deep
import HandS.DeepEq
import KE.DataFind
import KE.KTryMore
import HandS.TryOnly
import HandS.HotCalls
import HandS.ExcIs
import KE.KExcInit
import KE.KExcIs
import KE.KExcLine
import KE.GoesEnum
import KE.KDictList
import HandS.DictSubView0
set_option Elab.async false
set_option linter.all false
set_option maxRecDepth 100000
set_option maxHeartbeats 4000000
namespace Sf
open PySem PySem.Spec PyProof.Rows L2
/-! the text of the law by places -/
def topS (i : Nat) : Stmt := PySem.Challenge.pw_spoorfold_k21_whole_worlds_seen_alike.main.body.getD i (.Pass ⟨0, 0, 0, 0⟩)
abbrev s__wall : Stmt := topS 0
abbrev s_SpoorError___init__ : Stmt := inClass (topS 2) 0
abbrev s_BadWord___init__ : Stmt := inClass (topS 3) 0
abbrev s_BadWorld___init__ : Stmt := inClass (topS 4) 0
abbrev s_Lacking___init__ : Stmt := inClass (topS 5) 0
abbrev s_NoPlace___init__ : Stmt := inClass (topS 6) 0
abbrev s_is_upto : Stmt := topS 8
abbrev s_is_word : Stmt := topS 13
abbrev s_need_word : Stmt := topS 14
abbrev s_World___init__ : Stmt := inClass (topS 17) 0
abbrev s_World_moves : Stmt := inClass (topS 17) 1
abbrev s_World_letters : Stmt := inClass (topS 17) 2
abbrev s_World_go : Stmt := inClass (topS 17) 3
abbrev s_World_motion : Stmt := inClass (topS 17) 4
abbrev s_World_seen : Stmt := inClass (topS 17) 5
abbrev s_World_ways : Stmt := inClass (topS 17) 6
abbrev s_World_is_whole : Stmt := inClass (topS 17) 7
abbrev s_World_widened : Stmt := inClass (topS 17) 8
abbrev s_World_breaks : Stmt := inClass (topS 17) 9
abbrev s_World___eq__ : Stmt := inClass (topS 17) 10
abbrev s_World___len__ : Stmt := inClass (topS 17) 11
abbrev s_World___repr__ : Stmt := inClass (topS 17) 12
abbrev s_World_need_place : Stmt := inClass (topS 17) 13
abbrev s_World_led : Stmt := inClass (topS 17) 14
abbrev s_World_come_to : Stmt := inClass (topS 17) 15
abbrev s_leads_by : Stmt := topS 18
abbrev s_is_move : Stmt := topS 19
abbrev s_renumbered : Stmt := topS 20
abbrev s_world_of : Stmt := topS 21
abbrev s__law_pull : Stmt := topS 23
abbrev s__law_mixed : Stmt := topS 24
abbrev s__law_begin : Stmt := topS 25
abbrev s__law_world : Stmt := topS 26
abbrev s__law_same : Stmt := topS 27
abbrev s__law_otherwise : Stmt := topS 28
abbrev s__law_go_alike : Stmt := topS 29
abbrev s_law : Stmt := topS 30
end Sf
namespace Sf
open PySem PySem.Spec PyProof.Rows L2 TL
/-! ### helpers of heaps and blocks -/
theorem same_upd {H : Hp} {p : Addr} {o : HO} (h : H p = none) : Same H (upd H p o) := fun b x e => by
  rw [upd_ne (ne_of_none e h)]
  exact e
/-- all but what stands at b stands -/
def Fx (b : Addr) (H H' : Hp) : Prop := ∀ a o, H a = some o → a ≠ b → H' a = some o
theorem Fx.refl {b : Addr} {H : Hp} : Fx b H H := fun _ _ h _ => h
theorem Fx.of {b : Addr} {H H' : Hp} (h : Same H H') : Fx b H H' := fun a o e _ => h a o e
theorem Fx.trans {b : Addr} {H H1 H2 : Hp} (h : Fx b H H1) (k : Fx b H1 H2) : Fx b H H2 := fun a o e n => k a o (h a o e n) n
theorem Fx.same {b : Addr} {H H1 H2 : Hp} (h : Fx b H H1) (k : Same H1 H2) : Fx b H H2 := h.trans (.of k)
theorem Fx.upd {b : Addr} {H H1 : Hp} {o : HO} (h : Fx b H H1) : Fx b H (upd H1 b o) := fun a u e n => by
  rw [upd_ne n]
  exact h a u e n
theorem Fx.new {b p : Addr} {H H1 : Hp} {o : HO} (h : Fx b H H1) (n : H1 p = none) : Fx b H (L2.upd H1 p o) := h.same (same_upd n)
theorem Fx.seq {b a : Addr} {H H1 : Hp} {xs : List V} {K : PySem.W.Frag} (h : Fx b H H1) (n : a ≠ b) (s : SqL K H a xs) : SqL K H1 a xs := by
  rcases s with (s | ⟨o, s⟩) | s
  · exact .inl (.inl (h _ _ s n))
  · exact .inl (.inr ⟨o, h _ _ s n⟩)
  · exact .inr s
theorem seq_by {X : Cx} {st : Stmt} {rest : List Stmt} {D : Ends} {σ : L2.St} {H : Hp} (J : L2.St → Hp → Prop) (hr : ∃ u, PSs X rest u ∧ ∀ σ' H', J σ' H' → u D σ' H')
    (hs : ∀ u : TS, (∀ σ' H', J σ' H' → u D σ' H') → ∃ t, PS X st t ∧ t { D with nx := u D } σ H) : ∃ t, PSs X (st :: rest) t ∧ t D σ H := by
  obtain ⟨u, hu, k⟩ := hr
  obtain ⟨t, ht, h⟩ := hs u k
  exact ⟨tSeq t u, pss_cons ht hu, h⟩
theorem line_of {n : Nat} (h : n ≤ 100000) : n ≤ sizeLine := Nat.le_trans h (by decide)
theorem lineLt_of {n : Nat} (h : n ≤ 100000) : n < sizeLine := Nat.lt_of_le_of_lt h (by decide)
/-! ### the bag of the laws: its list at l, three numbers -/
structure BagL (H : Hp) (b l : Addr) (ns : List Int) (k z r : Int) : Prop where
  hb : H b = some (.lst [.ref l, .int k, .int z, .int r])
  hl : H l = some (.lst (ns.map V.int))
  k0 : 0 ≤ k
  z0 : 0 ≤ z
  r0 : 0 ≤ r
  r1 : r < 2147483647
def Bag (H : Hp) (b l : Addr) : Prop := ∃ (ns : List Int) (k z r : Int), BagL H b l ns k z r
theorem bag_ne {l : Addr} {ns : List Int} {vs : List V} : HO.lst (.ref l :: vs) ≠ HO.lst (ns.map V.int) := fun e => by
  cases ns with
  | nil => cases e
  | cons x r => cases e
theorem BagL.ne {H : Hp} {b l : Addr} {ns : List Int} {k z r : Int} (h : BagL H b l ns k z r) : l ≠ b := fun e => by
  have h1 := h.hb
  have h2 := h.hl
  rw [e, h1] at h2
  exact bag_ne (Option.some.inj h2)
theorem BagL.set {H : Hp} {b l : Addr} {ns : List Int} {k z r k' z' r' : Int} (h : BagL H b l ns k z r) (hk : 0 ≤ k') (hz : 0 ≤ z') (h0 : 0 ≤ r') (h1 : r' < 2147483647) :
    BagL (upd H b (.lst [.ref l, .int k', .int z', .int r'])) b l ns k' z' r' :=
  ⟨upd_same, by rw [upd_ne h.ne]; exact h.hl, hk, hz, h0, h1⟩
theorem Bag.same {H H' : Hp} {b l : Addr} (s : Same H H') : Bag H b l → Bag H' b l
  | ⟨ns, k, z, r, h⟩ => ⟨ns, k, z, r, s _ _ h.hb, s _ _ h.hl, h.k0, h.z0, h.r0, h.r1⟩
theorem Bag.new {H : Hp} {b l p : Addr} {o : HO} (h : Bag H b l) (n : H p = none) : Bag (upd H p o) b l := h.same (same_upd n)
theorem Bag.ne {H : Hp} {b l p : Addr} (h : Bag H b l) (n : H p = none) : p ≠ b := fun e => by
  obtain ⟨ns, k, z, r, h⟩ := h
  rw [e, h.hb] at n
  cases n
theorem Bag.neL {H : Hp} {b l p : Addr} (h : Bag H b l) (n : H p = none) : p ≠ l := fun e => by
  obtain ⟨ns, k, z, r, h⟩ := h
  rw [e, h.hl] at n
  cases n
theorem len_eq {α : Type} {xs : List α} {n : Nat} (h : xs.length = n) : ((xs.length : Nat) : Int) = (n : Int) := by rw [h]
theorem int_at {ns : List Int} {k : Int} (h0 : 0 ≤ k) (h1 : k < ((ns.map V.int).length : Nat)) : ∃ v : Int, atI (ns.map V.int) k = some (.int v) := by
  rw [List.length_map] at h1
  refine ⟨ns[k.toNat]'(by omega), at_of (j := k.toNat) (by omega) ?_⟩
  rw [List.getElem?_map, List.getElem?_eq_getElem (by omega)]
  rfl
end Sf
namespace Sf
open PySem PySem.Spec PyProof.Rows L2 TL
/-! ### what stands at the top: a def of the text; a def that keeps a promise; a constant; built-in names -/
def FnAt (K : PySem.W.Frag) (mg : Str → Option Value) (x : Str) (st : Stmt) (ps : List Str) : Prop := ∃ (f : Addr) (fd : FuncData), mg x = some (.ref f) ∧ Fun K x x st f fd ∧ Binds K fd ps []
def Has (P : Program) (w : World) (K : PySem.W.Frag) (mg : Str → Option Value) (base : Heap) (k : Nat) (x : Str) (ps : List Str) (sp : Sp) : Prop :=
  ∃ (f : Addr) (fd : FuncData), mg x = some (.ref f) ∧ PySem.W.keepIn K (.ref f) = true ∧ Binds K fd ps [] ∧ FnOk P w K mg base CX0 k f fd ps sp
theorem FnAt.has {P : Program} {w : World} {K : PySem.W.Frag} {mg : Str → Option Value} {base : Heap} {k : Nat} {x : Str} {st : Stmt} {ps : List Str} {sp : Sp} (h : FnAt K mg x st ps)
    (ok : ∀ {f : Addr} {fd : FuncData}, Fun K x x st f fd → FnOk P w K mg base CX0 k f fd ps sp) : Has P w K mg base k x ps sp := by
  obtain ⟨f, fd, g, F, b⟩ := h
  exact ⟨f, fd, g, F.kp, b, ok F⟩
theorem fnAt_mk {K : PySem.W.Frag} {h : Heap} {mg : Str → Option Value} {x : Str} {st : Stmt} {ps : List Str} {f : Addr} {oc : Value} {od an : Option Addr} {osl : Array (Option Value)} {kV doc pm cdv ct : Value} (X : K.In h) (G : h.Ns mainGlobals mg)
    (a : PySem.W.nsIn K mainGlobals x = some (some (.ref f))) (l : K.lookup f = some ⟨oc, od, .func (PySem.W.fnOf x x (defArgs st) (defBody st) (defScope st) .none kV doc pm an cdv ct), osl⟩)
    (c : PySem.W.codeIn K cdv x = true) (k : PySem.W.keepIn K (.ref f) = true)
    (b : ∀ (kV doc pm : Value) (an : Option Addr) (cdv ct : Value) (us : List Value), us.length = ps.length → bindArgs (PySem.W.fnOf x x (defArgs st) (defBody st) (defScope st) .none kV doc pm an cdv ct) ⟨us, []⟩ = pure (ps.zip us)) : FnAt K mg x st ps :=
  ⟨f, _, PySem.W.mg_of X G a, fun_mk l c k, (fun_mk l c k).binds b⟩
structure Blt (mg : Str → Option Value) : Prop where
  len : mg "len" = none
  range : mg "range" = none
  isinstance : mg "isinstance" = none
  list : mg "list" = none
  tuple : mg "tuple" = none
  bool : mg "bool" = none
  int : mg "int" = none
  str : mg "str" = none
  all : mg "all" = none
  zip : mg "zip" = none
  min : mg "min" = none
  sorted : mg "sorted" = none
theorem lc_gen {J : It} {n : Nat} {g : TG} {tt : TT} {te : TE} {vs : List Nat} {σ : L2.St} {H1 : Hp} {D : Addr} {Qd : Hp → Prop} (Pv : Nat → Hp → Prop) (h0 : Pv 0 (upd H1 D (.lst [])))
    (hgo : ∀ i H, i < n → Pv i H → J.go i H) (hst : ∀ H, Pv n H → J.stop n H)
    (hs : ∀ i x H H', i < n → Pv i H → J.yld i H x H' → g x (wipe σ vs) H' fun σ2 H2 => wipe σ2 vs = wipe σ vs ∧ tt σ2 H2 fun b H3 =>
      if b = true then te σ2 H3 fun y H4 => ∃ acc, H4 D = some (.lst acc) ∧ acc.length < sizeLine ∧ Pv (i + 1) (upd H4 D (.lst (acc ++ [y]))) else Pv (i + 1) H3) (hd : ∀ H, Pv n H → Qd H) :
    ∃ W : Nat → Nat → Hp → Prop, (∃ m, W 0 m (upd H1 D (.lst []))) ∧ ∀ i m H, W i m H →
      (J.stop i H ∧ Qd H) ∨ (J.go i H ∧ ∃ Nx : Hp → Prop, (∀ H', Nx H' → ∃ m', m' < m ∧ W (i + 1) m' H') ∧ ∀ x H', J.yld i H x H' → g x (wipe σ vs) H' fun σ2 H2 => wipe σ2 vs = wipe σ vs ∧ tt σ2 H2 fun b H3 =>
        if b = true then te σ2 H3 fun y H4 => ∃ acc, H4 D = some (.lst acc) ∧ acc.length < sizeLine ∧ Nx (upd H4 D (.lst (acc ++ [y]))) else Nx H3) := by
  refine ⟨fun i m H => m = n - i ∧ i ≤ n ∧ Pv i H, ⟨n, rfl, Nat.zero_le _, h0⟩, ?_⟩
  rintro i m H ⟨rfl, hi, p⟩
  by_cases hlt : i < n
  · exact .inr ⟨hgo i H hlt p, Pv (i + 1), fun H' p' => ⟨n - (i + 1), by omega, rfl, hlt, p'⟩, fun x H' y => hs i x H H' hlt p y⟩
  · have e : i = n := by omega
    subst e
    exact .inl ⟨hst H p, hd H p⟩
theorem for_gen {J : It} {n : Nat} {g : TG} {tb : TS} {D : Ends} {σ : L2.St} {H : Hp} (Pv : Nat → L2.St → Hp → Prop) (h0 : Pv 0 σ H) (hgo : ∀ i σ H, i < n → Pv i σ H → J.go i H) (hst : ∀ σ H, Pv n σ H → J.stop n H)
    (hs : ∀ i x σ H H', i < n → Pv i σ H → J.yld i H x H' → g x σ H' fun σ2 H2 => tb { D with nx := Pv (i + 1), ct := Pv (i + 1), bk := D.nx } σ2 H2) (hd : ∀ σ H, Pv n σ H → D.nx σ H) :
    ∃ W : Nat → Nat → L2.St → Hp → Prop, (∃ m, W 0 m σ H) ∧ ∀ i m σ H, W i m σ H →
      (J.stop i H ∧ D.nx σ H) ∨ (J.go i H ∧ ∃ N : L2.St → Hp → Prop, (∀ σ' H', N σ' H' → ∃ m', m' < m ∧ W (i + 1) m' σ' H') ∧ ∀ x H', J.yld i H x H' → g x σ H' fun σ2 H2 => tb { D with nx := N, ct := N, bk := D.nx } σ2 H2) := by
  refine ⟨fun i m σ H => m = n - i ∧ i ≤ n ∧ Pv i σ H, ⟨n, rfl, Nat.zero_le _, h0⟩, ?_⟩
  rintro i m σ H ⟨rfl, hi, p⟩
  by_cases hlt : i < n
  · exact .inr ⟨hgo i σ H hlt p, Pv (i + 1), fun σ' H' p' => ⟨n - (i + 1), by omega, rfl, hlt, p'⟩, fun x H' y => hs i x σ H H' hlt p y⟩
  · have e : i = n := by omega
    subst e
    exact .inl ⟨hst σ H p, hd σ H p⟩
theorem yes_if {σ : L2.St} {H : Hp} {A B : Hp → Prop} (h : A H) : tYes σ H (fun b H3 => if b = true then A H3 else B H3) := by
  show if true = true then A H else B H
  exact iteT h
/-! ### signs and words -/
def sgn (c : Nat) : Bool := (decide (97 ≤ c) && decide (c ≤ 104)) || (decide (65 ≤ c) && decide (c ≤ 72))
theorem sgn_iff {c : Nat} : sgn c = true ↔ (97 ≤ c ∧ c ≤ 104) ∨ (65 ≤ c ∧ c ≤ 72) := by
  unfold sgn
  simp only [Bool.or_eq_true, Bool.and_eq_true, decide_eq_true_eq]
def flipC (c : Nat) : Nat := if 97 ≤ c then c - 32 else c + 32
def Wd (x : Str) : Prop := ∀ c ∈ tl x, sgn c = true
abbrev one (c : Nat) : Str := ⟨#[c]⟩
theorem tl_one (c : Nat) : tl (one c) = [c] := rfl
theorem len_one (c : Nat) : (one c).length = 1 := rfl
theorem len_app (x y : Str) : (x ++ y).length = x.length + y.length := by
  rw [len_tl, len_tl, len_tl, tl_append, List.length_append]
theorem Wd.app {x y : Str} (hx : Wd x) (hy : Wd y) : Wd (x ++ y) := fun c hc => by
  rw [tl_append, List.mem_append] at hc
  exact hc.elim (hx c) (hy c)
theorem wd_one {c : Nat} (h : sgn c = true) : Wd (one c) := fun d hd => by
  rw [tl_one, List.mem_singleton] at hd
  rw [hd]
  exact h
theorem tl_small : (Str.ofString "abcdefgh").cps.toList = [97, 98, 99, 100, 101, 102, 103, 104] := by decide +kernel
theorem tl_great : (Str.ofString "ABCDEFGH").cps.toList = [65, 66, 67, 68, 69, 70, 71, 72] := by decide +kernel
theorem tl_signs : (Str.ofString "aAbBcCdDeEfFgGhH").cps.toList = [97, 65, 98, 66, 99, 67, 100, 68, 101, 69, 102, 70, 103, 71, 104, 72] := by decide +kernel
theorem in_small {c : Nat} : (c ∈ (Str.ofString "abcdefgh").cps.toList) ↔ (97 ≤ c ∧ c ≤ 104) := by
  rw [tl_small]
  simp only [List.mem_cons, List.not_mem_nil, or_false]
  omega
theorem in_signs {c : Nat} : (c ∈ (Str.ofString "aAbBcCdDeEfFgGhH").cps.toList) ↔ sgn c = true := by
  rw [tl_signs, sgn_iff]
  simp only [List.mem_cons, List.not_mem_nil, or_false]
  omega
theorem upper_one {c : Nat} (h : 97 ≤ c ∧ c ≤ 104) : Txt.upper (one c) = one (c - 32) := by
  have : c = 97 ∨ c = 98 ∨ c = 99 ∨ c = 100 ∨ c = 101 ∨ c = 102 ∨ c = 103 ∨ c = 104 := by omega
  rcases this with rfl | rfl | rfl | rfl | rfl | rfl | rfl | rfl <;> decide +kernel
theorem lower_one {c : Nat} (h : 65 ≤ c ∧ c ≤ 72) : Txt.lower (one c) = one (c + 32) := by
  have : c = 65 ∨ c = 66 ∨ c = 67 ∨ c = 68 ∨ c = 69 ∨ c = 70 ∨ c = 71 ∨ c = 72 := by omega
  rcases this with rfl | rfl | rfl | rfl | rfl | rfl | rfl | rfl <;> decide +kernel
theorem flip_sgn {c : Nat} (h : sgn c = true) : sgn (flipC c) = true := by
  rw [sgn_iff] at h ⊢
  unfold flipC
  split <;> omega
theorem at_small {e : Int} (h0 : 0 ≤ e) (h1 : e < 8) : atI (Str.ofString "abcdefgh").cps.toList e = some (97 + e.toNat) := by
  have : e = 0 ∨ e = 1 ∨ e = 2 ∨ e = 3 ∨ e = 4 ∨ e = 5 ∨ e = 6 ∨ e = 7 := by omega
  rw [tl_small]
  rcases this with rfl | rfl | rfl | rfl | rfl | rfl | rfl | rfl <;> rfl
theorem at_great {e : Int} (h0 : 0 ≤ e) (h1 : e < 8) : atI (Str.ofString "ABCDEFGH").cps.toList e = some (65 + e.toNat) := by
  have : e = 0 ∨ e = 1 ∨ e = 2 ∨ e = 3 ∨ e = 4 ∨ e = 5 ∨ e = 6 ∨ e = 7 := by omega
  rw [tl_great]
  rcases this with rfl | rfl | rfl | rfl | rfl | rfl | rfl | rfl <;> rfl
theorem at_end {x : List Nat} (h : x ≠ []) : ∃ c, atI x (-1) = some c ∧ c ∈ x := by
  refine ⟨x.getLast h, ?_, List.getLast_mem h⟩
  have e := atI_last x.dropLast (x.getLast h)
  rw [List.dropLast_concat_getLast h] at e
  exact e
theorem str_ne {x : Str} (h : ¬ V.str x = V.str "") : tl x ≠ [] := fun e => h (by
  have : x = "" := ext_tl (by rw [e]; decide +kernel)
  rw [this])
theorem wd_nil : Wd "" := fun c hc => by
  have e : tl "" = [] := by decide +kernel
  rw [e] at hc
  cases hc
/-! ### two values of the same data -/
def flat4 : V → Bool
  | .non => true
  | .bl _ => true
  | .int _ => true
  | .str _ => true
  | _ => false
def Eqv (H : Hp) : Nat → V → V → Prop
  | 0, x, y => flat4 x = true ∧ x = y
  | n + 1, x, y => (flat4 x = true ∧ x = y) ∨ ∃ (p q : Addr) (xs ys : List V), x = .ref p ∧ y = .ref q ∧ ((H p = some (.lst xs) ∧ H q = some (.lst ys)) ∨ (H p = some (.tup xs) ∧ H q = some (.tup ys))) ∧
      xs.length = ys.length ∧ xs.length ≤ 100000 ∧ ∀ (i : Nat) (x y : V), xs[i]? = some x → ys[i]? = some y → Eqv H n x y
theorem Eqv.same {H H' : Hp} (s : Same H H') : ∀ {n : Nat} {x y : V}, Eqv H n x y → Eqv H' n x y
  | 0, _, _, h => h
  | _ + 1, _, _, .inl h => .inl h
  | _ + 1, _, _, .inr ⟨p, q, xs, ys, ex, ey, hp, hl, hz, k⟩ => .inr ⟨p, q, xs, ys, ex, ey, hp.elim (fun h => .inl ⟨s _ _ h.1, s _ _ h.2⟩) (fun h => .inr ⟨s _ _ h.1, s _ _ h.2⟩), hl, hz, fun i x y hx hy => Eqv.same s (k i x y hx hy)⟩
theorem Eqv.flat {H : Hp} {n : Nat} {x : V} (h : flat4 x = true) : Eqv H n x x := by
  cases n with
  | zero => exact ⟨h, rfl⟩
  | succ n => exact .inl ⟨h, rfl⟩
theorem flat_kit {K : PySem.W.Frag} {H : Hp} {x : V} (h : flat4 x = true) : ∃ (T : String) (b1 b2 b3 : Bool), TyX K H x (.type T) ∧ kitB T "list" = some false ∧ kitB T "tuple" = some false ∧ kitB T "bool" = some b1 ∧ kitB T "int" = some b2 ∧ kitB T "str" = some b3 := by
  cases x with
  | non => exact ⟨"NoneType", false, false, false, .base .non, by decide +kernel, by decide +kernel, by decide +kernel, by decide +kernel, by decide +kernel⟩
  | bl b => exact ⟨"bool", true, true, false, .base (.bl b), by decide +kernel, by decide +kernel, by decide +kernel, by decide +kernel, by decide +kernel⟩
  | int b => exact ⟨"int", false, true, false, .base (.int b), by decide +kernel, by decide +kernel, by decide +kernel, by decide +kernel, by decide +kernel⟩
  | str b => exact ⟨"str", false, false, true, .base (.str b), by decide +kernel, by decide +kernel, by decide +kernel, by decide +kernel, by decide +kernel⟩
  | byt b => cases h
  | flt b => cases h
  | ref b => cases h
  | ty b => cases h
theorem TyX.same {K : PySem.W.Frag} {H H' : Hp} {x : V} {T : String} (s : Same H H') (f : flat4 x = true) (h : TyX K H x (.type T)) : TyX K H' x (.type T) := by
  cases x with
  | non => cases h with | base h => cases h with | non => exact .base .non
  | bl b => cases h with | base h => cases h with | bl => exact .base (.bl b)
  | int b => cases h with | base h => cases h with | int => exact .base (.int b)
  | str b => cases h with | base h => cases h with | str => exact .base (.str b)
  | byt b => cases f
  | flt b => cases f
  | ref b => cases f
  | ty b => cases f
theorem kit2 {K : PySem.W.Frag} {T : String} (h1 : kitB T "list" = some false) (h2 : kitB T "tuple" = some false) : PySem.W.kitAny K (.type T) [.type "list", .type "tuple"] = some false :=
  kitAny_cons (kit_ty h1) (fun _ => kitAny_cons (kit_ty h2) (fun _ => kitAny_nil) (fun q => nomatch q)) (fun q => nomatch q)
theorem scal_flat {x : V} (h : flat4 x = true) : scal x x = true := by
  cases x <;> first | rfl | cases h
theorem ne_bl (b : Bool) : (!decide (V.bl b = V.bl b)) = false := by simp
end Sf
namespace Sf
open PySem PySem.Spec PyProof.Rows L2 TL
/-! ### blocks by what holds ahead and behind -/
def Stp {ι : Type} (X : Cx) (st : Stmt) (pre post : ι → L2.St → Hp → Prop) : Prop := ∃ t, PS X st t ∧ ∀ (i : ι) (D : Ends) (σ : L2.St) (H : Hp), pre i σ H → (∀ σ' H', post i σ' H' → D.nx σ' H') → t D σ H
def Blk {ι : Type} (X : Cx) (sts : List Stmt) (pre post : ι → L2.St → Hp → Prop) : Prop := ∃ t, PSs X sts t ∧ ∀ (i : ι) (D : Ends) (σ : L2.St) (H : Hp), pre i σ H → (∀ σ' H', post i σ' H' → D.nx σ' H') → t D σ H
theorem Blk.cons {ι : Type} {X : Cx} {st : Stmt} {rest : List Stmt} {pre post : ι → L2.St → Hp → Prop} (mid : ι → L2.St → Hp → Prop) (a : Stp X st pre mid) (b : Blk X rest mid post) : Blk X (st :: rest) pre post := by
  obtain ⟨t, ht, h⟩ := a
  obtain ⟨u, hu, k⟩ := b
  exact ⟨tSeq t u, pss_cons ht hu, fun i D σ H hp hq => h i _ σ H hp fun σ' H' hm => k i D σ' H' hm hq⟩
theorem Blk.one {ι : Type} {X : Cx} {st : Stmt} {pre post : ι → L2.St → Hp → Prop} (a : Stp X st pre post) : Blk X [st] pre post := by
  obtain ⟨t, ht, h⟩ := a
  exact ⟨t, pss_one ht, h⟩
/-- the same within a block -/
theorem Stp.rng {ι : Type} {X : Cx} {tg iter : Expr} {body : List Stmt} {pos : Pos} {wi : TI} {k : Nat} {pre post : ι → L2.St → Hp → Prop} (Pv : ι → Nat → Nat → L2.St → Hp → Prop) (hp : PassesOwn (model X.prog X.w) X.A X.env X.xe) (hc : X.calm = true) (hi : PI X tg iter wi) (hg : PG X tg (gName k))
    (hk : ∀ (j : ι) (σ : L2.St) (H : Hp) (R : It → Hp → Prop), pre j σ H → (∀ n H1, Pv j n 0 σ H1 → R (Itr 0 n) H1) → wi σ H R)
    (hb : Blk (ι := ι × Nat × Nat) X body (fun i σ H => i.2.2 < i.2.1 ∧ ∃ σ0, Pv i.1 i.2.1 i.2.2 σ0 H ∧ σ = σ0.set k (some (.int (0 + (i.2.2 : Int))))) (fun i σ H => Pv i.1 i.2.1 (i.2.2 + 1) σ H))
    (hr : ∀ j n σ H, Pv j n n σ H → post j σ H) (hs : ∀ x, foldedSetIterable iter X.env x = pure x := by intro _; rfl) : Stp X (.For tg iter body [] pos) pre post := by
  obtain ⟨tb, hb, kb⟩ := hb
  refine ⟨_, ps_for hp hc hi hg hb hs, fun j D σ H h0 hq => ?_⟩
  refine hk j σ H _ h0 fun n H1 h0 => ?_
  exact for_range (lo := 0) (n := n) (Pv j n) h0 (fun i σ1 H2 hlt hv => kb (j, n, i) _ _ _ ⟨hlt, σ1, hv, rfl⟩ fun σ' H' h => h) (fun σ1 H2 hv => hq σ1 H2 (hr j n σ1 H2 hv))
/-- the rest of a def's body -/
def Tl (X : Cx) (sts : List Stmt) (D : Ends) (J : L2.St → Hp → Prop) : Prop := ∃ u, PSs X sts u ∧ ∀ σ H, J σ H → u D σ H
theorem Tl.start {X : Cx} {sts : List Stmt} {D : Ends} {σ : L2.St} {H : Hp} (h : Tl X sts D (fun σ' H' => σ' = σ ∧ H' = H)) : ∃ t, PSs X sts t ∧ t D σ H := by
  obtain ⟨u, hu, k⟩ := h
  exact ⟨u, hu, k σ H ⟨rfl, rfl⟩⟩
theorem Tl.cons {X : Cx} {st : Stmt} {rest : List Stmt} {D : Ends} {J : L2.St → Hp → Prop} (mid : L2.St → Hp → Prop) (a : Stp (ι := Unit) X st (fun _ => J) (fun _ => mid)) (b : Tl X rest D mid) : Tl X (st :: rest) D J := by
  obtain ⟨t, ht, h⟩ := a
  obtain ⟨u, hu, k⟩ := b
  exact ⟨tSeq t u, pss_cons ht hu, fun σ H hj => h () _ σ H hj k⟩
end Sf
namespace Sf
open PySem PySem.Spec PyProof.Rows L2 TL
section
variable {P : Program} {w : World} {K : PySem.W.Frag} {mg : Str → Option Value} {base : Heap}
/-! ### _law_pull: some number below many -/
def spPull : Sp := fun vs H Q _ => ∃ (b l : Addr) (n : Int), vs = [.ref b, .int n] ∧ Bag H b l ∧ 0 < n ∧ n < 1073741824 ∧
  ∀ (d : Int) (H' : Hp), 0 ≤ d → d < n → Bag H' b l → Fx b H H' → Q (.int d) H'
theorem sc_pull : FnScope ["_law_bag", "_law_many", "_law_cell", "_law_digit"] ["_law_bag", "_law_many"] (defScope s__law_pull) := ⟨rfl, rfl, rfl, by decide +kernel, rfl, by decide +kernel, by decide +kernel⟩
theorem ok_pull {f : Addr} {fd : FuncData} {j : Nat} (F : Fun K "_law_pull" "_law_pull" s__law_pull f fd) (ml : mg "len" = none) : FnOk P w K mg base CX0 (j + 1) f fd ["_law_bag", "_law_many"] spPull := by
  refine F.ok sc_pull (fun vs H Q E h => ?_) (fun cdv A outer s H vs Q E hr h => ?_)
  · obtain ⟨b, l, n, rfl, _⟩ := h
    rfl
  · obtain ⟨b, l, n, rfl, ⟨ns, k, z, r, hB⟩, hn0, hn1, q⟩ := h
    refine seq_by (fun σ H1 => ∃ (y2 : Option V) (k z r : Int), σ = [some (.ref b), some (.int n), y2, none] ∧ BagL H1 b l ns k z r ∧ Fx b H H1) ?_ ?_
    · refine ⟨_, pss_cons (ps_if (pt_cmpR op_gt (pe_ix ix_list (pv 0) pe_int (fun _ _ => rfl)) pe_int (nomark _))
          (pss_cons (ps_set (i := 3) sc_pull.nd rfl (.inl rfl) (pe_op op_mod (pe_ix ix_list (pv 0) pe_int (fun _ _ => rfl)) (pv 1)))
          (pss_cons (ps_asg (pe_op op_fdiv (pe_ix ix_list (pv 0) pe_int (fun _ _ => rfl)) (pv 1)) (pg_sub (pv 0) pe_int set_list))
          (pss_one (ps_ret (pv 3))))) pss_nil)
        (pss_cons (ps_asg (pe_op op_mod (pe_op op_add (pe_op op_add (pe_op op_mul (pe_op op_mod (pe_op op_mul (pe_ix ix_list (pv 0) pe_int (fun _ _ => rfl)) (pe_ix ix_list (pv 0) pe_int (fun _ _ => rfl))) pe_int) pe_int)
            (pe_op op_mul (pe_ix ix_list (pv 0) pe_int (fun _ _ => rfl)) pe_int)) pe_int) pe_int) (pg_sub (pv 0) pe_int set_list))
        (pss_one (ps_ret (pe_op op_mod (pe_op op_add (pe_op op_fdiv (pe_ix ix_list (pv 0) pe_int (fun _ _ => rfl)) pe_int) (pe_op op_mul (pe_op op_mod (pe_ix ix_list (pv 0) pe_int (fun _ _ => rfl)) pe_int) pe_int)) (pv 1))))), ?_⟩
      rintro σ H1 ⟨y2, k, z, r, rfl, B, fx⟩
      have hS := SqL.of (K := K) B.hb
      have rr0 := B.r0
      have rr1 := B.r1
      have zz0 := B.z0
      refine ⟨_, rfl, b, _, 2, _, rfl, rfl, hS, at_of (j := 2) rfl rfl, z, 0, rfl, rfl, _, rfl, ite2 (fun e => ?_) (fun e => ?_)⟩
      · have zp : 0 < z := of_decide_eq_true e
        refine ⟨_, rfl, b, _, 2, _, rfl, rfl, hS, at_of (j := 2) rfl rfl, _, rfl, z, n, rfl, rfl, hn0, ?_⟩
        refine ⟨_, rfl, b, _, 2, _, rfl, rfl, hS, at_of (j := 2) rfl rfl, _, rfl, z, n, rfl, rfl, ⟨hn0, hn1⟩, ?_⟩
        refine ⟨_, rfl, b, _, 2, 2, rfl, rfl, B.hb, rfl, ?_⟩
        refine ⟨_, rfl, ?_⟩
        refine q _ _ (Int.emod_nonneg _ (by omega)) (Int.emod_lt_of_pos _ hn0) ⟨ns, k, z / n, r, B.set B.k0 (Int.ediv_nonneg B.z0 (by omega)) B.r0 B.r1⟩ fx.upd
      · refine ⟨_, rfl, b, _, 3, _, rfl, rfl, hS, at_of (j := 3) rfl rfl, _, rfl, b, _, 3, _, rfl, rfl, hS, at_of (j := 3) rfl rfl, r, r, rfl, rfl, .inl ⟨by omega, by omega⟩,
          _, 2147483629, rfl, rfl, (by show (0 : Int) < 2147483629; decide), _, 5, rfl, rfl, .inr ⟨by decide, by decide⟩,
          _, rfl, b, _, 3, _, rfl, rfl, hS, at_of (j := 3) rfl rfl, r, 16807, rfl, rfl, .inr ⟨by decide, by decide⟩, _, _, rfl, rfl, _, 2531011, rfl, rfl, _, 2147483647, rfl, rfl, (by show (0 : Int) < 2147483647; decide), ?_⟩
        refine ⟨_, rfl, b, _, 3, 3, rfl, rfl, B.hb, rfl, ?_⟩
        have h0 : 0 ≤ (r * r % 2147483629 * 5 + r * 16807 + 2531011) % 2147483647 := Int.emod_nonneg _ (by decide)
        have h1 : (r * r % 2147483629 * 5 + r * 16807 + 2531011) % 2147483647 < 2147483647 := Int.emod_lt_of_pos _ (by decide)
        have B' : BagL (upd H1 b (.lst [.ref l, .int k, .int z, .int ((r * r % 2147483629 * 5 + r * 16807 + 2531011) % 2147483647)])) b l ns k z ((r * r % 2147483629 * 5 + r * 16807 + 2531011) % 2147483647) := B.set B.k0 B.z0 h0 h1
        have hS' := SqL.of (K := K) B'.hb
        refine ⟨_, rfl, b, _, 3, _, rfl, rfl, hS', at_of (j := 3) rfl rfl, _, 61, rfl, rfl, ⟨by decide, by decide⟩,
          _, rfl, b, _, 3, _, rfl, rfl, hS', at_of (j := 3) rfl rfl, _, 8191, rfl, rfl, (by show (0 : Int) < 8191; decide), _, 31, rfl, rfl, .inr ⟨by decide, by decide⟩, _, _, rfl, rfl, _, rfl, _, n, rfl, rfl, hn0, ?_⟩
        exact q _ _ (Int.emod_nonneg _ (by omega)) (Int.emod_lt_of_pos _ hn0) ⟨ns, k, z, _, B'⟩ fx.upd
    · intro u hu
      have hS := SqL.of (K := K) hB.hb
      have hS2 := SqL.of (K := K) hB.hl
      have rr0 := hB.r0
      have rr1 := hB.r1
      have zz0 := hB.z0
      have kk0 := hB.k0
      refine ⟨_, ps_if (PW.pt (pw_and (pt_cmpR op_eq (pe_ix ix_list (pv 0) pe_int (fun _ _ => rfl)) pe_int (nomark _))
            (pw_and1 (pt_cmpR op_lt (pe_ix ix_list (pv 0) pe_int (fun _ _ => rfl)) (pe_callB call_len_seq (by rfl) ml PySem.boot_len (pa_cons (pe_ix ix_list (pv 0) pe_int (fun _ _ => rfl)) pa_nil)) (nomark _)))))
          (pss_cons (ps_set (i := 2) sc_pull.nd rfl (.inl rfl) (pe_ix ix_list (pe_ix ix_list (pv 0) pe_int (fun _ _ => rfl)) (pe_ix ix_list (pv 0) pe_int (fun _ _ => rfl)) (fun _ _ => rfl)))
          (pss_cons (ps_asg (pe_op op_add (pe_ix ix_list (pv 0) pe_int (fun _ _ => rfl)) pe_int) (pg_sub (pv 0) pe_int set_list))
          (pss_one (ps_if (pt_cmpR op_ge (pv 2) (pe_op op_pow pe_int pe_int) (nomark _))
            (pss_one (ps_asg (pv 2) (pg_sub (pv 0) pe_int set_list)))
            (pss_one (ps_asg (pe_op op_mod (pe_op op_add (pe_op op_add (pe_op op_mul (pe_ix ix_list (pv 0) pe_int (fun _ _ => rfl)) pe_int) (pe_op op_mul (pe_op op_mod (pv 2) pe_int) pe_int)) pe_int) pe_int) (pg_sub (pv 0) pe_int set_list)))))))
          pss_nil, ?_⟩
      refine ⟨_, rfl, b, _, 2, _, rfl, rfl, hS, at_of (j := 2) rfl rfl, rfl, _, rfl, ite2 (fun e => ?_) (fun e => ?_)⟩
      · refine ⟨_, rfl, b, _, 1, _, rfl, rfl, hS, at_of (j := 1) rfl rfl, _, rfl, b, _, 0, _, rfl, rfl, hS, at_of (j := 0) rfl rfl, l, _, rfl, .inl hS2, k, _, rfl, rfl, _, rfl, ite2 (fun e2 => ?_) (fun e2 => ?_)⟩
        · obtain ⟨v, hv⟩ := int_at (ns := ns) kk0 (of_decide_eq_true e2)
          refine ⟨_, rfl, b, _, 0, _, rfl, rfl, hS, at_of (j := 0) rfl rfl, _, rfl, b, _, 1, _, rfl, rfl, hS, at_of (j := 1) rfl rfl, l, _, k, _, rfl, rfl, hS2, hv, ?_⟩
          refine ⟨_, rfl, b, _, 1, _, rfl, rfl, hS, at_of (j := 1) rfl rfl, k, 1, rfl, rfl, _, rfl, b, _, 1, 1, rfl, rfl, hB.hb, rfl, ?_⟩
          have B' : BagL (upd H b (.lst [.ref l, .int (k + 1), .int z, .int r])) b l ns (k + 1) z r := hB.set (by omega) zz0 rr0 rr1
          have hS' := SqL.of (K := K) B'.hb
          refine ⟨_, rfl, 10, 18, rfl, rfl, ⟨by decide, by decide, by decide⟩, v, _, rfl, rfl, _, rfl, ite2 (fun e3 => ?_) (fun e3 => ?_)⟩
          · have hv0 : 0 ≤ v := by
              have := of_decide_eq_true e3
              have h18 : (10 : Int) ^ (18 : Int).toNat = 1000000000000000000 := by decide +kernel
              rw [h18] at this
              omega
            refine ⟨_, rfl, _, rfl, b, _, 2, 2, rfl, rfl, B'.hb, rfl, ?_⟩
            exact hu _ _ ⟨some (.int v), k + 1, v, r, rfl, B'.set B'.k0 hv0 rr0 rr1, Fx.refl.upd.upd⟩
          · refine ⟨_, rfl, b, _, 3, _, rfl, rfl, hS', at_of (j := 3) rfl rfl, r, 48271, rfl, rfl, .inr ⟨by decide, by decide⟩, _, rfl, v, 2147483629, rfl, rfl, (by show (0 : Int) < 2147483629; decide), _, 69621, rfl, rfl, .inr ⟨by decide, by decide⟩,
              _, _, rfl, rfl, _, 12345, rfl, rfl, _, 2147483647, rfl, rfl, (by show (0 : Int) < 2147483647; decide), ?_⟩
            refine ⟨_, rfl, b, _, 3, 3, rfl, rfl, B'.hb, rfl, ?_⟩
            exact hu _ _ ⟨some (.int v), k + 1, z, _, rfl, B'.set B'.k0 B'.z0 (Int.emod_nonneg _ (by decide)) (Int.emod_lt_of_pos _ (by decide)), Fx.refl.upd.upd⟩
        · exact hu _ _ ⟨none, k, z, r, rfl, hB, .refl⟩
      · exact iteF (hu _ _ ⟨none, k, z, r, rfl, hB, .refl⟩)
end
end Sf
namespace Sf
open PySem PySem.Spec PyProof.Rows L2 TL
section
variable {P : Program} {w : World} {K : PySem.W.Frag} {mg : Str → Option Value} {base : Heap}
abbrev HasPull (P : Program) (w : World) (K : PySem.W.Frag) (mg : Str → Option Value) (base : Heap) : Prop := Has P w K mg base 1 "_law_pull" ["_law_bag", "_law_many"] spPull
theorem has_pull (F : FnAt K mg "_law_pull" s__law_pull ["_law_bag", "_law_many"]) (B : Blt mg) : HasPull P w K mg base := F.has fun F => ok_pull F B.len
end
end Sf
namespace Sf
open PySem PySem.Spec PyProof.Rows L2 TL
section
variable {P : Program} {w : World} {K : PySem.W.Frag} {mg : Str → Option Value} {base : Heap}
/-! ### _law_begin -/
def spBegin (K : PySem.W.Frag) : Sp := fun vs H Q _ => ∃ (a : Addr) (ns : List Int), vs = [.ref a] ∧ SqL K H a (ns.map V.int) ∧ ∀ (b l : Addr) (H' : Hp), H b = none → Bag H' b l → Same H H' → Q (.ref b) H'
abbrev HasBegin (P : Program) (w : World) (K : PySem.W.Frag) (mg : Str → Option Value) (base : Heap) : Prop := Has P w K mg base 1 "_law_begin" ["_law_script"] (spBegin K)
theorem sc_begin : FnScope ["_law_script", "_law_salt", "_law_cell"] ["_law_script"] (defScope s__law_begin) := ⟨rfl, rfl, rfl, by decide +kernel, rfl, by decide +kernel, by decide +kernel⟩
theorem cut_ints (ns : List Int) (lo hi : Option Int) : ∃ ms : List Int, cutV (ns.map V.int) lo hi = ms.map V.int := by
  refine ⟨(ns.drop (HT.sIx (ns.map V.int).length 0 lo)).take (HT.sIx (ns.map V.int).length (ns.map V.int).length hi - HT.sIx (ns.map V.int).length 0 lo), ?_⟩
  unfold cutV
  rw [List.map_take, List.map_drop]
theorem has_begin (F : FnAt K mg "_law_begin" s__law_begin ["_law_script"]) (B : Blt mg) : HasBegin P w K mg base := F.has fun F => by
  refine F.ok sc_begin (fun vs H Q E h => ?_) (fun cdv A outer s H vs Q E hr h => ?_)
  · obtain ⟨a, ns, rfl, _⟩ := h
    rfl
  · obtain ⟨a, ns, rfl, hS, q⟩ := h
    refine ⟨_, pss_cons (ps_set (i := 1) sc_begin.nd rfl (.inl rfl) pe_int)
      (pss_cons (ps_for PassesOwn.never rfl (pi_list (pe_slice sl_list (pv 0) po_none (po_some pe_int))) (pg_name (i := 2) sc_begin.nd rfl (.inl rfl))
        (pss_one (ps_set (i := 1) sc_begin.nd rfl (.inl rfl) (pe_op op_mod (pe_op op_add (pe_op op_add (pe_op op_mul (pv 1) pe_int) (pe_op op_mod (pv 2) pe_int)) pe_int) pe_int))))
      (pss_one (ps_ret (pe_lst (pa_cons (pe_callTy call_list_of (by rfl) B.list (by decide +kernel) (pa_cons (pe_slice sl_list (pv 0) po_none (po_some pe_int)) pa_nil)) (pa_cons pe_int (pa_cons pe_int (pa_cons (pv 1) pa_nil)))))))), ?_⟩
    obtain ⟨ms, em⟩ := cut_ints ns none (some 63)
    refine ⟨_, rfl, 63, rfl, a, _, rfl, hS, fun p np => ?_⟩
    have s1 : Same H (upd H p (.lst (cutV (ns.map V.int) none (some 63)))) := same_upd np
    have hp : SqL K (upd H p (.lst (cutV (ns.map V.int) none (some 63)))) p (ms.map V.int) := SqL.of (by rw [upd_same, em])
    refine ⟨p, rfl, ⟨_, hp⟩, for_list (K := K) (a := p) (xs := ms.map V.int) (fun i σ H2 => ∃ (r : Int) (y : Option V), σ = [some (.ref a), some (.int r), y] ∧ 0 ≤ r ∧ r < 2147483647 ∧ H2 = upd H p (.lst (cutV (ns.map V.int) none (some 63))))
      ⟨977, none, rfl, by decide, by decide, rfl⟩ (fun i σ H2 _ ⟨_, _, _, _, _, e⟩ => by rw [e]; exact hp) ?_ ?_⟩
    · rintro i v σ H2 hi ⟨r, y, rfl, r0, r1, rfl⟩
      obtain ⟨z, rfl⟩ : ∃ z, v = V.int z := by
        rw [List.getElem?_map] at hi
        cases e : ms[i]? with
        | none =>
          rw [e] at hi
          cases hi
        | some z =>
          rw [e] at hi
          exact ⟨z, (Option.some.inj hi).symm⟩
      refine ⟨_, rfl, r, 1009, rfl, rfl, .inr ⟨by decide, by decide⟩, _, rfl, z, 2147483629, rfl, rfl, (by show (0 : Int) < 2147483629; decide), _, _, rfl, rfl, _, 7, rfl, rfl, _, 2147483629, rfl, rfl, (by show (0 : Int) < 2147483629; decide), ?_⟩
      have h0 : 0 ≤ (r * 1009 + z % 2147483629 + 7) % 2147483629 := Int.emod_nonneg _ (by decide)
      have h1 : (r * 1009 + z % 2147483629 + 7) % 2147483629 < 2147483629 := Int.emod_lt_of_pos _ (by decide)
      exact ⟨_, _, rfl, h0, by omega, rfl⟩
    · rintro σ H2 ⟨r, y, rfl, r0, r1, rfl⟩
      refine ⟨_, rfl, 63, rfl, a, _, rfl, s1.seq hS, fun p2 np2 => ?_⟩
      have hp2 : SqL K (upd (upd H p (.lst (cutV (ns.map V.int) none (some 63)))) p2 (.lst (cutV (ns.map V.int) none (some 63)))) p2 (ms.map V.int) := SqL.of (by rw [upd_same, em])
      have s2 := s1.trans (same_upd (o := .lst (cutV (ns.map V.int) none (some 63))) np2)
      refine ⟨p2, _, rfl, .inl hp2, fun l nl => ?_⟩
      have s3 := s2.trans (same_upd (o := .lst (ms.map V.int)) nl)
      refine ⟨_, rfl, (by show 4 ≤ sizeLine; decide), fun b nb => ?_⟩
      have s4 := s3.trans (same_upd (o := .lst [.ref l, .int 0, .int 0, .int r]) nb)
      refine q b l _ (s3.free nb) ⟨ms, 0, 0, r, upd_same, ?_, by decide, by decide, r0, r1⟩ s4
      have nlb : l ≠ b := fun z => by
        rw [← z, upd_same] at nb
        cases nb
      rw [upd_ne nlb, upd_same]
end
end Sf
namespace Sf
open PySem PySem.Spec PyProof.Rows L2 TL
section
variable {P : Program} {w : World} {K : PySem.W.Frag} {mg : Str → Option Value} {base : Heap}
/-! ### _law_same: True of two values of the same data -/
def spSame (n : Nat) : Sp := fun vs H Q _ => ∃ x y : V, vs = [x, y] ∧ Eqv H n x y ∧ ∀ H', Same H H' → Q (.bl true) H'
abbrev HasSame (P : Program) (w : World) (K : PySem.W.Frag) (mg : Str → Option Value) (base : Heap) (n : Nat) : Prop := Has P w K mg base (n + 1) "_law_same" ["_law_found", "_law_due"] (spSame n)
theorem sc_same : FnScope ["_law_found", "_law_due", "_law_one", "_law_other"] ["_law_found", "_law_due"] (defScope s__law_same) := ⟨rfl, rfl, rfl, by decide +kernel, rfl, by decide +kernel, by decide +kernel⟩
theorem all_true (n : Nat) : (List.replicate n true).all id = true := by
  induction n with
  | zero => rfl
  | succ n ih => rw [List.replicate_succ, List.all_cons, ih]; rfl
theorem has_same (F : FnAt K mg "_law_same" s__law_same ["_law_found", "_law_due"]) (B : Blt mg) : ∀ n, HasSame P w K mg base n := by
  intro n
  induction n with
  | zero =>
    refine F.has fun F => ?_
    refine F.ok sc_same (fun vs H Q E h => ?_) (fun cdv A outer s H vs Q E hr h => ?_)
    · obtain ⟨x, y, rfl, _⟩ := h
      rfl
    · obtain ⟨x, y, rfl, ⟨fx, rfl⟩, q⟩ := h
      obtain ⟨T, b1, b2, b3, ty, k1, k2, k3, k4, k5⟩ := flat_kit (K := K) (H := H) fx
      refine ⟨_, pss_cons (ps_if (pt_val (pe_callB call_isiT (by rfl) B.isinstance (by decide +kernel) (pa_cons (pv 1) (pa_cons (pe_tup (pa_cons (pe_bltn (v := .ty "list") (by rfl) B.list (by decide +kernel) rfl) (pa_cons (pe_bltn (v := .ty "tuple") (by rfl) B.tuple (by decide +kernel) rfl) pa_nil))) pa_nil)))) pss_never pss_nil)
        (pss_cons (ps_if (PW.pt (pw_or (pt_cmpR op_isN (pv 1) pe_non (nomark _)) (pw_or1 (pt_cmpR op_isN (pv 0) pe_non (nomark _))))) (pss_one (ps_ret (pe_and (pe_cmpR op_isN (pv 0) pe_non (nomark _)) (pe_one (pe_cmpR op_isN (pv 1) pe_non (nomark _)))))) pss_nil)
        (pss_cons (ps_if (PW.pt (pw_or (pt_cmpR op_ne (pe_callB call_isi (by rfl) B.isinstance (by decide +kernel) (pa_cons (pv 0) (pa_cons (pe_bltn (v := .ty "bool") (by rfl) B.bool (by decide +kernel) rfl) pa_nil))) (pe_callB call_isi (by rfl) B.isinstance (by decide +kernel) (pa_cons (pv 1) (pa_cons (pe_bltn (v := .ty "bool") (by rfl) B.bool (by decide +kernel) rfl) pa_nil))) (nomark _))
            (pw_or1 (pt_cmpR op_ne (pe_callB call_isi (by rfl) B.isinstance (by decide +kernel) (pa_cons (pv 0) (pa_cons (pe_bltn (v := .ty "int") (by rfl) B.int (by decide +kernel) rfl) pa_nil))) (pe_callB call_isi (by rfl) B.isinstance (by decide +kernel) (pa_cons (pv 1) (pa_cons (pe_bltn (v := .ty "int") (by rfl) B.int (by decide +kernel) rfl) pa_nil))) (nomark _))))) pss_never pss_nil)
        (pss_one (ps_ret (pe_and (pe_cmpR op_eq (pe_callB call_isi (by rfl) B.isinstance (by decide +kernel) (pa_cons (pv 0) (pa_cons (pe_bltn (v := .ty "str") (by rfl) B.str (by decide +kernel) rfl) pa_nil))) (pe_callB call_isi (by rfl) B.isinstance (by decide +kernel) (pa_cons (pv 1) (pa_cons (pe_bltn (v := .ty "str") (by rfl) B.str (by decide +kernel) rfl) pa_nil))) (nomark _)) (pe_one (pe_cmpR op_eq (pv 0) (pv 1) (nomark _)))))))), ?_⟩
      refine ⟨x, rfl, (by show 2 ≤ sizeLine; decide), fun p np => ?_⟩
      have s1 := same_upd (o := .tup [.ty "list", .ty "tuple"]) np
      have ty1 := TyX.same s1 fx ty
      refine ⟨x, p, _, _, [.type "list", .type "tuple"], false, rfl, upd_same, .cons (.ty _) (.cons (.ty _) .nil), ty1, kit2 k1 k2, _, rfl, iteF ?_⟩
      refine ⟨x, rfl, rfl, _, rfl, ite2 (fun e => ?_) (fun e => ?_)⟩
      · have ex : x = .non := of_decide_eq_true e
        subst ex
        refine iteT ⟨_, rfl, rfl, _, rfl, ite2 (fun _ => ⟨_, rfl, rfl, ?_⟩) (fun z => absurd (decide_eq_true rfl) z)⟩
        exact q _ s1
      · refine ⟨x, rfl, rfl, _, rfl, ite2 (fun e2 => absurd e2 e) (fun _ => ?_)⟩
        refine ⟨x, rfl, x, _, _, _, b1, rfl, .ty "bool", ty1, kit_ty k3, x, rfl, x, _, _, _, b1, rfl, .ty "bool", ty1, kit_ty k3, rfl, _, rfl, ite2 (fun z => ?_) (fun _ => ?_)⟩
        · rw [ne_bl] at z
          cases z
        · refine ⟨x, rfl, x, _, _, _, b2, rfl, .ty "int", ty1, kit_ty k4, x, rfl, x, _, _, _, b2, rfl, .ty "int", ty1, kit_ty k4, rfl, _, rfl, ite2 (fun z => ?_) (fun _ => ?_)⟩
          · rw [ne_bl] at z
            cases z
          · refine ⟨x, rfl, x, _, _, _, b3, rfl, .ty "str", ty1, kit_ty k5, x, rfl, x, _, _, _, b3, rfl, .ty "str", ty1, kit_ty k5, rfl, _, rfl, ite2 (fun z => ?_) (fun z => absurd (decide_eq_true rfl) z)⟩
            refine ⟨x, rfl, x, rfl, scal_flat fx, ?_⟩
            rw [decide_eq_true rfl]
            exact q _ s1
  | succ n ih =>
    obtain ⟨fR, fdR, gR, kR, bR, GR⟩ := ih
    refine F.has fun F => ?_
    refine F.ok sc_same (fun vs H Q E h => ?_) (fun cdv A outer s H vs Q E hr h => ?_)
    · obtain ⟨x, y, rfl, _⟩ := h
      rfl
    · obtain ⟨x, y, rfl, hE, q⟩ := h
      refine seq_by (fun σ H1 => σ = [some x, some x, none, none] ∧ flat4 x = true ∧ Same H H1) ?_ ?_
      · refine ⟨_, (pss_cons (ps_if (PW.pt (pw_or (pt_cmpR op_isN (pv 1) pe_non (nomark _)) (pw_or1 (pt_cmpR op_isN (pv 0) pe_non (nomark _))))) (pss_one (ps_ret (pe_and (pe_cmpR op_isN (pv 0) pe_non (nomark _)) (pe_one (pe_cmpR op_isN (pv 1) pe_non (nomark _)))))) pss_nil)
        (pss_cons (ps_if (PW.pt (pw_or (pt_cmpR op_ne (pe_callB call_isi (by rfl) B.isinstance (by decide +kernel) (pa_cons (pv 0) (pa_cons (pe_bltn (v := .ty "bool") (by rfl) B.bool (by decide +kernel) rfl) pa_nil))) (pe_callB call_isi (by rfl) B.isinstance (by decide +kernel) (pa_cons (pv 1) (pa_cons (pe_bltn (v := .ty "bool") (by rfl) B.bool (by decide +kernel) rfl) pa_nil))) (nomark _))
            (pw_or1 (pt_cmpR op_ne (pe_callB call_isi (by rfl) B.isinstance (by decide +kernel) (pa_cons (pv 0) (pa_cons (pe_bltn (v := .ty "int") (by rfl) B.int (by decide +kernel) rfl) pa_nil))) (pe_callB call_isi (by rfl) B.isinstance (by decide +kernel) (pa_cons (pv 1) (pa_cons (pe_bltn (v := .ty "int") (by rfl) B.int (by decide +kernel) rfl) pa_nil))) (nomark _))))) pss_never pss_nil)
        (pss_one (ps_ret (pe_and (pe_cmpR op_eq (pe_callB call_isi (by rfl) B.isinstance (by decide +kernel) (pa_cons (pv 0) (pa_cons (pe_bltn (v := .ty "str") (by rfl) B.str (by decide +kernel) rfl) pa_nil))) (pe_callB call_isi (by rfl) B.isinstance (by decide +kernel) (pa_cons (pv 1) (pa_cons (pe_bltn (v := .ty "str") (by rfl) B.str (by decide +kernel) rfl) pa_nil))) (nomark _)) (pe_one (pe_cmpR op_eq (pv 0) (pv 1) (nomark _)))))))), ?_⟩
        rintro σ H1 ⟨rfl, fx, s1⟩
        obtain ⟨T, b1, b2, b3, ty1, k1, k2, k3, k4, k5⟩ := flat_kit (K := K) (H := H1) fx
        refine ⟨x, rfl, rfl, _, rfl, ite2 (fun e => ?_) (fun e => ?_)⟩
        · have ex : x = .non := of_decide_eq_true e
          subst ex
          refine iteT ⟨_, rfl, rfl, _, rfl, ite2 (fun _ => ⟨_, rfl, rfl, ?_⟩) (fun z => absurd (decide_eq_true rfl) z)⟩
          exact q _ s1
        · refine ⟨x, rfl, rfl, _, rfl, ite2 (fun e2 => absurd e2 e) (fun _ => ?_)⟩
          refine ⟨x, rfl, x, _, _, _, b1, rfl, .ty "bool", ty1, kit_ty k3, x, rfl, x, _, _, _, b1, rfl, .ty "bool", ty1, kit_ty k3, rfl, _, rfl, ite2 (fun z => ?_) (fun _ => ?_)⟩
          · rw [ne_bl] at z
            cases z
          · refine ⟨x, rfl, x, _, _, _, b2, rfl, .ty "int", ty1, kit_ty k4, x, rfl, x, _, _, _, b2, rfl, .ty "int", ty1, kit_ty k4, rfl, _, rfl, ite2 (fun z => ?_) (fun _ => ?_)⟩
            · rw [ne_bl] at z
              cases z
            · refine ⟨x, rfl, x, _, _, _, b3, rfl, .ty "str", ty1, kit_ty k5, x, rfl, x, _, _, _, b3, rfl, .ty "str", ty1, kit_ty k5, rfl, _, rfl, ite2 (fun z => ?_) (fun z => absurd (decide_eq_true rfl) z)⟩
              refine ⟨x, rfl, x, rfl, scal_flat fx, ?_⟩
              rw [decide_eq_true rfl]
              exact q _ s1
      · intro u hu
        refine ⟨_, ps_if (pt_val (pe_callB call_isiT (by rfl) B.isinstance (by decide +kernel) (pa_cons (pv 1) (pa_cons (pe_tup (pa_cons (pe_bltn (v := .ty "list") (by rfl) B.list (by decide +kernel) rfl) (pa_cons (pe_bltn (v := .ty "tuple") (by rfl) B.tuple (by decide +kernel) rfl) pa_nil))) pa_nil))))
          (pss_cons (ps_if (PW.pt (pw_or (pt_cmpR op_ne (pe_callB call_isi (by rfl) B.isinstance (by decide +kernel) (pa_cons (pv 0) (pa_cons (pe_bltn (v := .ty "list") (by rfl) B.list (by decide +kernel) rfl) pa_nil))) (pe_callB call_isi (by rfl) B.isinstance (by decide +kernel) (pa_cons (pv 1) (pa_cons (pe_bltn (v := .ty "list") (by rfl) B.list (by decide +kernel) rfl) pa_nil))) (nomark _)) (pw_or1 (pt_cmpR op_ne (pe_callB call_isi (by rfl) B.isinstance (by decide +kernel) (pa_cons (pv 0) (pa_cons (pe_bltn (v := .ty "tuple") (by rfl) B.tuple (by decide +kernel) rfl) pa_nil))) (pe_callB call_isi (by rfl) B.isinstance (by decide +kernel) (pa_cons (pv 1) (pa_cons (pe_bltn (v := .ty "tuple") (by rfl) B.tuple (by decide +kernel) rfl) pa_nil))) (nomark _))))) pss_never pss_nil)
          (pss_one (ps_ret (pe_and (pe_cmpR op_eq (pe_callB call_len_seq (by rfl) B.len PySem.boot_len (pa_cons (pv 0) pa_nil)) (pe_callB call_len_seq (by rfl) B.len PySem.boot_len (pa_cons (pv 1) pa_nil)) (nomark _))
            (pe_one (pe_callB (cr_all rfl) (by rfl) B.all (by decide +kernel) (pa_cons (pe_lc (own := [("_law_one", 2), ("_law_other", 3)]) (g := gTup K 2 (gCons (gName 2) (gCons (gName 3) gNil))) (tt := tYes) (by rfl) sc_same.nd (RZ.pi_zipA (by rfl) B.zip (pa_cons (pv 0) (pa_cons (pv 1) pa_nil)))
              (blkOk_by (own := [("_law_one", 2), ("_law_other", 3)]) (N := ["_law_found", "_law_due", "_law_one", "_law_other"]) (sc := defScope s__law_same) (by decide +kernel))
              (fun _ _ _ _ _ => pg_tup rfl (pgs_cons (pg_name (i := 2) sc_same.nd rfl (.inl rfl)) (pgs_cons (pg_name (i := 3) sc_same.nd rfl (.inl rfl)) pgs_nil))) (fun _ _ _ _ _ => pts_nil)
              (fun _ _ _ _ _ => pe_call GR hr (by rfl) gR kR bR .nil pass0 (pa_cons (pv 2) (pa_cons (pv 3) pa_nil)))) pa_nil))))))) pss_nil, ?_⟩
        refine ⟨y, rfl, (by show 2 ≤ sizeLine; decide), fun p np => ?_⟩
        have s1 := same_upd (o := .tup [.ty "list", .ty "tuple"]) np
        rcases hE with ⟨fx, rfl⟩ | ⟨pa, pb, xs, ys, rfl, rfl, hxy, hlen, hsz, hEach⟩
        · obtain ⟨T, b1, b2, b3, ty, k1, k2, k3, k4, k5⟩ := flat_kit (K := K) (H := upd H p (.tup [.ty "list", .ty "tuple"])) fx
          exact ⟨x, p, _, _, [.type "list", .type "tuple"], false, rfl, upd_same, .cons (.ty _) (.cons (.ty _) .nil), ty, kit2 k1 k2, _, rfl, iteF (hu _ _ ⟨rfl, fx, s1⟩)⟩
        · obtain ⟨T, bl, bt, tyx, tyy, kany, kl, kt⟩ : ∃ (T : String) (bl bt : Bool), TyX K (upd H p (.tup [.ty "list", .ty "tuple"])) (.ref pa) (.type T) ∧ TyX K (upd H p (.tup [.ty "list", .ty "tuple"])) (.ref pb) (.type T) ∧
              PySem.W.kitAny K (.type T) [.type "list", .type "tuple"] = some true ∧ kitB T "list" = some bl ∧ kitB T "tuple" = some bt := by
            rcases hxy with ⟨ha, hb⟩ | ⟨ha, hb⟩
            · exact ⟨"list", true, false, .base (.lst (s1 _ _ ha)), .base (.lst (s1 _ _ hb)), kitAny_cons (kit_ty (b := "list") (r := true) (by decide +kernel)) (fun q => nomatch q) (fun _ => rfl), by decide +kernel, by decide +kernel⟩
            · exact ⟨"tuple", false, true, .base (.tup (s1 _ _ ha)), .base (.tup (s1 _ _ hb)), kitAny_cons (kit_ty (b := "list") (r := false) (by decide +kernel)) (fun _ => kitAny_cons (kit_ty (b := "tuple") (r := true) (by decide +kernel)) (fun q => nomatch q) (fun _ => rfl)) (fun q => nomatch q), by decide +kernel, by decide +kernel⟩
          refine ⟨_, p, _, _, [.type "list", .type "tuple"], true, rfl, upd_same, .cons (.ty _) (.cons (.ty _) .nil), tyy, kany, _, rfl, iteT ?_⟩
          refine ⟨_, rfl, _, _, _, _, bl, rfl, .ty "list", tyx, kit_ty kl, _, rfl, _, _, _, _, bl, rfl, .ty "list", tyy, kit_ty kl, rfl, _, rfl, ite2 (fun z => ?_) (fun _ => ?_)⟩
          · rw [ne_bl] at z
            cases z
          refine ⟨_, rfl, _, _, _, _, bt, rfl, .ty "tuple", tyx, kit_ty kt, _, rfl, _, _, _, _, bt, rfl, .ty "tuple", tyy, kit_ty kt, rfl, _, rfl, ite2 (fun z => ?_) (fun _ => ?_)⟩
          · rw [ne_bl] at z
            cases z
          have sqx : SqL K (upd H p (.tup [.ty "list", .ty "tuple"])) pa xs ∨ SqT K (upd H p (.tup [.ty "list", .ty "tuple"])) pa xs := hxy.elim (fun h => .inl (SqL.of (s1 _ _ h.1))) (fun h => .inr (SqT.of (s1 _ _ h.1)))
          have sqy : SqL K (upd H p (.tup [.ty "list", .ty "tuple"])) pb ys ∨ SqT K (upd H p (.tup [.ty "list", .ty "tuple"])) pb ys := hxy.elim (fun h => .inl (SqL.of (s1 _ _ h.2))) (fun h => .inr (SqT.of (s1 _ _ h.2)))
          refine ⟨_, rfl, pa, xs, rfl, sqx, _, rfl, pb, ys, rfl, sqy, rfl, _, rfl, ite2 (fun _ => ?_) (fun z => absurd (decide_eq_true (by rw [hlen])) z)⟩
          refine ⟨_, rfl, _, rfl, pa, pb, xs, ys, rfl, ?_⟩
          have turn : ∀ (i : Nat) (x y : V) (D T : Addr) (H2 : Hp), (upd H p (.tup [.ty "list", .ty "tuple"])) D = none → xs[i]? = some x → ys[i]? = some y → Same (upd H p (.tup [.ty "list", .ty "tuple"])) H2 → H2 D = some (.lst (List.replicate i (V.bl true))) → H2 T = none →
              ∃ x' y' : V, [x, y] ++ [] = [x', y'] ∧ Eqv (upd H2 T (.tup [x, y])) n x' y' ∧ ∀ H', Same (upd H2 T (.tup [x, y])) H' → ∃ acc, H' D = some (.lst acc) ∧ acc.length < sizeLine ∧ (Same (upd H p (.tup [.ty "list", .ty "tuple"])) (upd H' D (.lst (acc ++ [.bl true]))) ∧ (upd H' D (.lst (acc ++ [.bl true]))) D = some (.lst (List.replicate (i + 1) (V.bl true)))) := by
            intro i x y D T H2 nD hx hy s2 hD nT
            have s3 : Same H2 (upd H2 T (.tup [x, y])) := same_upd nT
            have hi : i < xs.length := (List.getElem?_eq_some_iff.mp hx).1
            refine ⟨x, y, rfl, (hEach i x y hx hy).same (s1.trans (s2.trans s3)), fun H' s4 => ⟨_, s4 _ _ (s3 _ _ hD), ?_, fun a o e => ?_, ?_⟩⟩
            · rw [List.length_replicate]
              exact lineLt_of (by omega)
            · rw [upd_ne (ne_of_none e nD)]
              exact s4 _ _ (s3 _ _ (s2 _ _ e))
            · rw [upd_same, List.replicate_succ']
          have fin : ∀ (D : Addr) (H2 : Hp), Same (upd H p (.tup [.ty "list", .ty "tuple"])) H2 → H2 D = some (.lst (List.replicate xs.length (V.bl true))) → ∃ (a : Addr) (bs : List Bool), [V.ref D] = [V.ref a] ∧ SqL K H2 a (bs.map V.bl) ∧ Q (.bl (bs.all id)) H2 := by
            intro D H2 s2 hD
            refine ⟨D, List.replicate xs.length true, rfl, SqL.of (by rw [hD, List.map_replicate]), ?_⟩
            rw [all_true]
            exact q _ (s1.trans s2)
          rcases hxy with ⟨ha, hb⟩ | ⟨ha, hb⟩
          · refine .inl ⟨SqL.of (s1 _ _ ha), SqL.of (s1 _ _ hb), fun D nD => ?_⟩
            refine lc_gen (n := xs.length) (fun i H2 => Same (upd H p (.tup [.ty "list", .ty "tuple"])) H2 ∧ H2 D = some (.lst (List.replicate i (V.bl true)))) ⟨same_upd nD, upd_same⟩ ?_ ?_ ?_ ?_
            · rintro i H2 hi ⟨s2, hD⟩
              exact ⟨xs, ys, _, _, SqL.of (s2 _ _ (s1 _ _ ha)), SqL.of (s2 _ _ (s1 _ _ hb)), List.getElem?_eq_getElem hi, List.getElem?_eq_getElem (by omega)⟩
            · rintro H2 ⟨s2, hD⟩
              exact ⟨xs, ys, SqL.of (s2 _ _ (s1 _ _ ha)), SqL.of (s2 _ _ (s1 _ _ hb)), .inl (Nat.le_refl _)⟩
            · rintro i v H2 H3 hi ⟨s2, hD⟩ ⟨T, x, y, rfl, nT, rfl, f1, f2⟩
              refine ⟨T, [x, y], rfl, .inl (.inl upd_same), rfl, x, [y], rfl, y, [], rfl, rfl, rfl, ?_⟩
              refine yes_if ?_
              exact ⟨_, rfl, _, rfl, turn i x y D T H2 nD (f1 xs (SqL.of (s2 _ _ (s1 _ _ ha)))) (f2 ys (SqL.of (s2 _ _ (s1 _ _ hb)))) s2 hD nT⟩
            · rintro H2 ⟨s2, hD⟩
              exact fin D H2 s2 hD
          · refine .inr ⟨SqT.of (s1 _ _ ha), SqT.of (s1 _ _ hb), fun D nD => ?_⟩
            refine lc_gen (n := xs.length) (fun i H2 => Same (upd H p (.tup [.ty "list", .ty "tuple"])) H2 ∧ H2 D = some (.lst (List.replicate i (V.bl true)))) ⟨same_upd nD, upd_same⟩ ?_ ?_ ?_ ?_
            · rintro i H2 hi ⟨s2, hD⟩
              exact ⟨xs, ys, _, _, SqT.of (s2 _ _ (s1 _ _ ha)), SqT.of (s2 _ _ (s1 _ _ hb)), List.getElem?_eq_getElem hi, List.getElem?_eq_getElem (by omega)⟩
            · rintro H2 ⟨s2, hD⟩
              exact ⟨xs, ys, SqT.of (s2 _ _ (s1 _ _ ha)), SqT.of (s2 _ _ (s1 _ _ hb)), .inl (Nat.le_refl _)⟩
            · rintro i v H2 H3 hi ⟨s2, hD⟩ ⟨T, x, y, rfl, nT, rfl, f1, f2⟩
              refine ⟨T, [x, y], rfl, .inl (.inl upd_same), rfl, x, [y], rfl, y, [], rfl, rfl, rfl, ?_⟩
              refine yes_if ?_
              exact ⟨_, rfl, _, rfl, turn i x y D T H2 nD (f1 xs (SqT.of (s2 _ _ (s1 _ _ ha)))) (f2 ys (SqT.of (s2 _ _ (s1 _ _ hb)))) s2 hD nT⟩
            · rintro H2 ⟨s2, hD⟩
              exact fin D H2 s2 hD
end
end Sf
namespace Sf
open PySem PySem.Spec PyProof.Rows L2 TL
section
variable {P : Program} {w : World} {K : PySem.W.Frag} {mg : Str → Option Value} {base : Heap}
/-! ### is_word -/
def isW (x : Str) : Bool := decide (x.length ≤ 60) && (tl x).all sgn
def spIsWord : Sp := fun vs H Q _ => ∃ x : Str, vs = [.str x] ∧ x.length ≤ 100000 ∧ ∀ H', Same H H' → Q (.bl (isW x)) H'
abbrev HasIsWord (P : Program) (w : World) (K : PySem.W.Frag) (mg : Str → Option Value) (base : Heap) : Prop := Has P w K mg base 1 "is_word" ["text"] spIsWord
theorem sc_isword : FnScope ["text", "sign"] ["text"] (defScope s_is_word) := ⟨rfl, rfl, rfl, by decide +kernel, rfl, by decide +kernel, by decide +kernel⟩
theorem dec_signs {c : Nat} : decide (c ∈ (Str.ofString "aAbBcCdDeEfFgGhH").cps.toList) = sgn c := by
  rw [Bool.eq_iff_iff, decide_eq_true_eq]
  exact in_signs
theorem getElem?_of_cps {x : Str} {i c : Nat} (h : x.cps[i]? = some c) : (tl x)[i]? = some c := by
  rw [← h]
  exact Array.getElem?_toList
theorem has_isword (F : FnAt K mg "is_word" s_is_word ["text"]) (B : Blt mg) {t1 t2 : Tok} (mM : mg "MOST_WORD" = some (.int 60 t1)) (mS : mg "SIGNS" = some (.str (Str.ofString "aAbBcCdDeEfFgGhH") t2)) : HasIsWord P w K mg base := F.has fun F => by
  refine F.ok sc_isword (fun vs H Q E h => ?_) (fun cdv A outer s H vs Q E hr h => ?_)
  · obtain ⟨x, rfl, _⟩ := h
    rfl
  · obtain ⟨x, rfl, hlen, q⟩ := h
    have hz : x.cps.size = (tl x).length := len_tl x
    refine ⟨_, pss_one (ps_ret (pe_and (pe_cmpR op_le (pe_callB call_len_str (by rfl) B.len PySem.boot_len (pa_cons (pv 0) pa_nil)) (pe_glob (v := .int 60) (by rfl) mM ⟨_, rfl⟩) (nomark _))
      (pe_one (pe_callB (cr_all rfl) (by rfl) B.all (by decide +kernel) (pa_cons (pe_lc (own := [("sign", 1)]) (g := gName 1) (tt := tYes) (by rfl) sc_isword.nd (pi_str (pv 0))
        (blkOk_by (own := [("sign", 1)]) (N := ["text", "sign"]) (sc := defScope s_is_word) (by decide +kernel)) (fun _ _ _ _ _ => pg_name (i := 1) sc_isword.nd rfl (.inl rfl)) (fun _ _ _ _ _ => pts_nil)
        (fun _ _ _ _ _ => pe_cmpR op_in_sign (pv 1) (pe_glob (v := .str (Str.ofString "aAbBcCdDeEfFgGhH")) (by rfl) mS ⟨_, rfl⟩) rfl)) pa_nil))))), ?_⟩
    refine ⟨_, rfl, x, rfl, line_of hlen, _, 60, rfl, rfl, _, rfl, ite2 (fun e => ?_) (fun e => ?_)⟩
    · refine ⟨_, rfl, x, rfl, fun D nD => ?_⟩
      refine lc_gen (n := x.cps.size) (fun i H2 => Same H H2 ∧ H2 D = some (.lst (((tl x).take i).map fun c => V.bl (sgn c)))) ⟨same_upd nD, upd_same⟩ ?_ ?_ ?_ ?_
      · rintro i H2 hi ⟨s2, hD⟩
        exact hi
      · rintro H2 ⟨s2, hD⟩
        exact Nat.le_refl _
      · rintro i v H2 H3 hi ⟨s2, hD⟩ ⟨rfl, c, hc, rfl⟩
        refine ⟨rfl, yes_if ?_⟩
        refine ⟨_, rfl, c, _, rfl, rfl, _, hD, ?_, fun a o e => ?_, ?_⟩
        · rw [List.length_map, List.length_take]
          exact lineLt_of (Nat.le_trans (Nat.min_le_right _ _) (by rw [← hz]; exact hlen))
        · rw [upd_ne (ne_of_none e nD)]
          exact s2 _ _ e
        · have ed : decide (c ∈ (Str.ofString "aAbBcCdDeEfFgGhH").cps.toList) = sgn c := dec_signs
          rw [upd_same, List.take_add_one, getElem?_of_cps hc, List.map_append, ed]
          rfl
      · rintro H2 ⟨s2, hD⟩
        refine ⟨D, (tl x).map sgn, rfl, SqL.of ?_, ?_⟩
        · rw [hD, List.take_of_length_le (by rw [hz]; exact Nat.le_refl _), List.map_map]
          rfl
        · have h1 := q H2 s2
          have e1 : decide (x.length ≤ 60) = true := decide_eq_true (by have := of_decide_eq_true e; omega)
          have e2 : ((tl x).map sgn).all id = (tl x).all sgn := by
            rw [List.all_map]
            rfl
          rw [e2]
          unfold isW at h1
          rw [e1, Bool.true_and] at h1
          exact h1
    · have h1 := q H (.refl H)
      have e1 : decide (x.length ≤ 60) = false := decide_eq_false (fun z => e (decide_eq_true (by omega)))
      unfold isW at h1
      rw [e1, Bool.false_and] at h1
      exact h1
theorem isW_true {x : Str} (h : Wd x) (hl : x.length ≤ 60) : isW x = true := by
  unfold isW
  rw [decide_eq_true hl, Bool.true_and, List.all_eq_true]
  exact h
end
end Sf
namespace Sf
open PySem PySem.Spec PyProof.Rows L2 TL
section
variable {X : Cx}
/-! ### text * int -/
theorem op_mul_str : OpR X (binaryOp .Mult) (fun x y H Q => ∃ (a : Str) (n : Int), x = .str a ∧ y = .int n ∧ 0 ≤ n ∧ n ≤ 1000 ∧ a.length ≤ 1000 ∧ Q (.str (Txt.mul a n)) H) := by
  intro pins s σ H x y v u Q I rx ry h
  obtain ⟨a, n, rfl, rfl, h0, h1, h2, q⟩ := h
  obtain ⟨t, rfl⟩ := rx
  obtain ⟨t', rfl⟩ := ry
  refine PySem.SB.mul ⟨?_, fun hn _ => ?_, fun _ _ => ?_⟩ fun t' k => ⟨.str _, H, I.tok k, ⟨t', rfl⟩, q⟩
  · rw [decide_eq_false (by omega), decide_eq_false (by omega)]
    rfl
  · have h3 : (2 ^ 63 - 1) / n ≥ 9223372036854775807 / 1000 := by
      show (9223372036854775807 : Int) / 1000 ≤ (2 ^ 63 - 1) / n
      have e : (2 ^ 63 - 1 : Int) = 9223372036854775807 := by decide
      rw [e]
      refine (Int.le_ediv_iff_mul_le (by omega)).mpr ?_
      have : (9223372036854775807 : Int) / 1000 * n ≤ (9223372036854775807 : Int) / 1000 * 1000 := Int.mul_le_mul_of_nonneg_left h1 (by decide)
      have e2 : (9223372036854775807 : Int) / 1000 * 1000 ≤ 9223372036854775807 := by decide
      omega
    have e3 : (9223372036854775807 : Int) / 1000 = 9223372036854775 := by decide
    omega
  · refine PyProof.Rows.short24 ?_
    have h5 : n.toNat ≤ 1000 := by omega
    exact Nat.le_trans (Nat.mul_le_mul h2 h5) (by decide)
theorem mul_len {a : Str} {n : Int} (h : 0 ≤ n) : (Txt.mul a n).length = a.length * n.toNat := by
  obtain ⟨m, rfl⟩ : ∃ m : Nat, n = (m : Int) := ⟨n.toNat, by omega⟩
  have h1 := PyProof.Rows.len_mul a (m : Int)
  rw [decide_eq_false (by omega)] at h1
  have e : (if false = true then (0 : Int) else (m : Int)) = (m : Int) := rfl
  rw [e, ← Int.natCast_mul] at h1
  rw [Int.toNat_natCast]
  exact Int.ofNat.inj h1
theorem foldl_app (a : Array Nat) : ∀ (k : Nat) (acc : Array Nat) (c : Nat), c ∈ ((List.replicate k a).foldl (· ++ ·) acc).toList → c ∈ acc.toList ∨ c ∈ a.toList
  | 0, acc, c, h => .inl h
  | k + 1, acc, c, h => by
    rw [List.replicate_succ, List.foldl_cons] at h
    rcases foldl_app a k (acc ++ a) c h with h | h
    · rw [Array.toList_append, List.mem_append] at h
      exact h
    · exact .inr h
theorem mul_mem {a : Str} {n : Int} {c : Nat} (h : c ∈ tl (Txt.mul a n)) : c ∈ tl a := by
  unfold Txt.mul at h
  split at h
  · cases h
  · split at h
    · exact h
    · rcases foldl_app a.cps n.toNat #[] c h with h | h
      · cases h
      · exact h
theorem Wd.mul {a : Str} {n : Int} (h : Wd a) : Wd (Txt.mul a n) := fun c hc => h c (mul_mem hc)
theorem tl_cut (z : Str) (lo hi : Option Int) : tl (cutS z lo hi) = ((tl z).drop (HT.sIx z.length 0 lo)).take (HT.sIx z.length z.length hi - HT.sIx z.length 0 lo) := by
  unfold cutS
  rfl
theorem Wd.cut {z : Str} {lo hi : Option Int} (h : Wd z) : Wd (cutS z lo hi) := fun c hc => by
  rw [tl_cut] at hc
  exact h c (List.mem_of_mem_drop (List.mem_of_mem_take hc))
end
end Sf
namespace Sf
open PySem PySem.Spec PyProof.Rows L2 TL
section
variable {X : Cx}
/-! ### text[::-1] -/
def revS (z : Str) : Str := ⟨(tl z).reverse.toArray⟩
theorem tl_revS (z : Str) : tl (revS z) = (tl z).reverse := rfl
theorem rev_picked (z : Str) : ((Builtin.Str.strSliceIndices none none (-1) z.length).filterMap (z.cps[·]?)) = (tl z).reverse := by
  rw [picked_rev]
  apply List.ext_getElem?
  intro i
  have hz : z.length = (tl z).length := len_tl z
  rw [PyProof.Rows.filterMap_get _ _ (fun k hk => by
    obtain ⟨j, hj, rfl⟩ := List.mem_map.mp hk
    have := List.mem_range.mp hj
    show z.length - 1 - j < z.length
    omega), List.map_map]
  by_cases h : i < z.length
  · rw [List.getElem?_reverse (by omega), List.getElem?_map, List.getElem?_range h]
    show some (z.cps.getD (z.length - 1 - i) 0) = _
    have h2 : z.length - 1 - i < z.cps.size := by show z.length - 1 - i < z.length; omega
    rw [← hz, Array.getElem?_toList]
    simp [Array.getD, h2]
  · rw [List.getElem?_eq_none (by rw [List.length_map, List.length_range]; omega), List.getElem?_eq_none (by rw [List.length_reverse, ← hz]; omega)]
def tRevS (te : TE) : TE := fun σ H Q => te σ H fun x H1 => ∃ z, x = .str z ∧ z.length ≤ sizeLine ∧ Q (.str (revS z)) H1
theorem pe_revS {e : Expr} {te : TE} {k : Nat} {p1 p2 p3 pos : Pos} (he : PE X e te) : PE X (.Subscript e (.Slice none none (some (.UnaryOp .USub (.Constant (.int 1) k p1) p2)) p3) pos) (tRevS te) := by
  refine ⟨fun pins s σ H Q I h => ?_⟩
  refine Subscript_ (thn (he.run pins s σ H _ I h) fun v s1 ⟨x, H1, I1, r1, q1⟩ => ?_)
  obtain ⟨z, ex, hz, q⟩ := q1
  subst ex
  obtain ⟨tz, rfl⟩ := r1
  have hst : PO X (some (.UnaryOp .USub (.Constant (.int 1) k p1) p2)) (tPart (tUn (rU fun i => .int (-i)) (tC (.int 1)))) := po_some (pe_un un_neg pe_int)
  refine wpAny_Slice (thn (po_none.run pins s1 σ H1 (fun o H2 => o = none ∧ H2 = H1) I1 ⟨rfl, rfl⟩) fun vl s2 ⟨l, H2, I2, pl, el, e2⟩ => ?_)
  subst el e2
  refine thn (po_none.run pins s2 σ H2 (fun o H3 => o = none ∧ H3 = H2) I2 ⟨rfl, rfl⟩) fun vu s3 ⟨u, H3, I3, pu, eu, e3⟩ => ?_
  subst eu e3
  refine thn (hst.run pins s3 σ H3 (fun o H4 => o = some (-1) ∧ H4 = H3) I3 ⟨1, rfl, -1, rfl, rfl, rfl⟩) fun vs s4 ⟨o, H4, I4, ps, eo, e4⟩ => ?_
  subst eo e4
  cases pl
  cases pu
  cases ps with
  | int _ ts =>
  have I5 : Inv X pins σ H4 { s4 with heap := s4.heap.push { cls := .type "slice", data := .fields #[.none, .none, .int (-1) ts] } } := I4.kept (t' := s4.toks) fun b ob q => Heap.get?_push_of_some _ q
  show wpAny (model X.prog X.w) X.A (subscriptTail e (.Slice none none (some (.UnaryOp .USub (.Constant (.int 1) k p1) p2)) p3) (.str z tz) (.ref s4.heap.objs.size)) (EP X pins σ Q) X.xe { s4 with heap := s4.heap.push { cls := .type "slice", data := .fields #[.none, .none, .int (-1) ts] } }
  refine tail_any (ops := [.str z tz, .ref s4.heap.objs.size]) (typeIs_str _ _ _) (PySem.F.slot_str_getitem.lookup) ?_ (by with_unfolding_all rfl)
  refine wpAny_getItem_str_slice (l := none) (u := none) (st := some (-1, ts)) ⟨_, Heap.get?_push_size _ rfl, rfl, rfl⟩ rfl ?_
  have e1 : sliceMade z tz none none (some (-1, ts)) = Made.str (revS z) := by
    unfold sliceMade slicePicked
    have h1 : ¬ (((((some ((-1 : Int), ts)).map (·.1)).getD 1 == 1) && ((Builtin.Str.strSliceIndices ((none : Option (Int × Tok)).map (·.1)) ((none : Option (Int × Tok)).map (·.1)) (((some ((-1 : Int), ts)).map (·.1)).getD 1) z.length).length == z.length)) = true) := by
      have : ((((some ((-1 : Int), ts)).map (·.1)).getD 1 == 1)) = false := rfl
      rw [this]
      simp
    rw [if_neg h1]
    show Made.str ⟨((Builtin.Str.strSliceIndices none none (-1) z.length).filterMap (z.cps[·]?)).toArray⟩ = _
    rw [rev_picked]
    rfl
  rw [e1]
  refine ⟨?_, .str _, H4, I5.tok _, ⟨_, rfl⟩, q⟩
  rw [len_tl, tl_revS, List.length_reverse, ← len_tl]
  exact hz
/-! ### text.swapcase() -/
theorem mt_swapcase : MtR X "str.swapcase" (fun x xs H Q => ∃ a, x = .str a ∧ xs = [] ∧ a.length ≤ 5592405 ∧ Q (.str (Txt.swapcase a)) H) :=
  mt0 (C := fun a => a.length ≤ 5592405) (g := fun a => .str (Txt.swapcase a)) fun a _ s _ hc h =>
    PySem.SC.swapcase (PyProof.Rows.fit_swapcase hc) (h _ (s.toks + 1) ⟨_, rfl⟩)
theorem pe_swapcase {o : Expr} {to : TE} {apos pos : Pos} (ho : PE X o to) (hbase : attributeBase o "swapcase" X.env (eval o X.env) = eval o X.env := by rfl) (hline : (apos.endLine == pos.line) = true := by rfl) :
    PE X (.Call (.Attribute o "swapcase" apos) [] [] pos) (tM0 (fun x xs H Q => ∃ a, x = .str a ∧ xs = [] ∧ a.length ≤ 5592405 ∧ Q (.str (Txt.swapcase a)) H) to) :=
  pe_m0 PySem.F.slot_str_swapcase PySem.F.type_str_swapcase mt_swapcase ho hbase hline
theorem case_sgn : ∀ c, c < 128 → sgn c = true → (if Unicode.isUpper c then PyProof.Rows.lo1 c else if Unicode.isLower c then PyProof.Rows.up1 c else c) = flipC c := by decide +kernel
theorem sgn_lt {c : Nat} (h : sgn c = true) : c < 128 := by
  rw [sgn_iff] at h
  omega
def flipS (x : Str) : Str := ⟨((tl x).map flipC).toArray⟩
theorem swap_wd {x : Str} (h : Wd x) : Txt.swapcase x = flipS x := by
  unfold Txt.swapcase
  rw [PyProof.Rows.placed_single x _ flipC fun i c hc => by
    have hc' : x.cps[i]? = some c := by simpa using hc
    have hs := h c (List.mem_of_getElem? hc)
    have hlt := sgn_lt hs
    have hk := case_sgn c hlt hs
    unfold Unicode.lowerAt
    rw [hc']
    have hne : (c == 0x3A3) = false := by rw [beq_eq_false_iff_ne]; omega
    simp only [hne, Bool.false_and, Bool.false_eq_true, if_false]
    rw [PyProof.Rows.lowerOf_ascii c hlt, PyProof.Rows.upperOf_ascii c hlt, ← hk]
    by_cases h1 : Unicode.isUpper c = true
    · rw [if_pos h1, if_pos h1]
    · rw [if_neg h1, if_neg h1]
      by_cases h2 : Unicode.isLower c = true
      · rw [if_pos h2, if_pos h2]
      · rw [if_neg h2, if_neg h2]]
  apply ext_tl
  show (x.cps.map flipC).toList = (tl x).map flipC
  rw [Array.toList_map]
theorem flipS_one (c : Nat) : flipS (one c) = one (flipC c) := rfl
theorem tl_flipS (x : Str) : tl (flipS x) = (tl x).map flipC := rfl
theorem rev_wd {x : Str} (h : Wd x) : Wd (revS x) := fun c hc => h c (List.mem_reverse.mp hc)
theorem revS_len (x : Str) : (revS x).length = x.length := by rw [len_tl, tl_revS, List.length_reverse, ← len_tl]
end
end Sf
namespace Sf
open PySem PySem.Spec PyProof.Rows L2 TL
/-! ### words as lists of codes; the stack of a walk (its head is the last sign) -/
abbrev Sg (l : List Nat) : Prop := ∀ c ∈ l, sgn c = true
theorem flip2 {c : Nat} (h : sgn c = true) : flipC (flipC c) = c := by
  rw [sgn_iff] at h
  unfold flipC
  by_cases h1 : 97 ≤ c
  · rw [if_pos h1, if_neg (by omega)]
    omega
  · rw [if_neg h1, if_pos (by omega)]
    omega
theorem flip_inj {c d : Nat} (hc : sgn c = true) (hd : sgn d = true) (h : flipC c = flipC d) : c = d := by
  rw [← flip2 hc, ← flip2 hd, h]
def pushS (s : List Nat) (c : Nat) : List Nat :=
  match s with
  | [] => [c]
  | x :: t => if x = flipC c then t else c :: x :: t
def RedS : List Nat → Prop
  | [] => True
  | [_] => True
  | x :: y :: t => y ≠ flipC x ∧ RedS (y :: t)
theorem RedS.tail {x : Nat} {t : List Nat} (h : RedS (x :: t)) : RedS t := by
  cases t with
  | nil => trivial
  | cons y t => exact h.2
theorem RedS.suffix : ∀ {a b : List Nat}, RedS (a ++ b) → RedS b
  | [], _, h => h
  | _ :: a, _, h => RedS.suffix (a := a) (RedS.tail h)
theorem pushS_red {s : List Nat} {c : Nat} (h : RedS s) : RedS (pushS s c) := by
  cases s with
  | nil => trivial
  | cons x t =>
    unfold pushS
    by_cases e : x = flipC c
    · simp only [if_pos e]
      exact h.tail
    · simp only [if_neg e]
      exact ⟨e, h⟩
theorem pushS_sg {s : List Nat} {c : Nat} (h : Sg s) (hc : sgn c = true) : Sg (pushS s c) := by
  cases s with
  | nil =>
    intro d hd
    rw [pushS, List.mem_singleton] at hd
    rw [hd]
    exact hc
  | cons x t =>
    unfold pushS
    by_cases e : x = flipC c
    · simp only [if_pos e]
      exact fun d hd => h d (List.mem_cons_of_mem _ hd)
    · simp only [if_neg e]
      intro d hd
      rcases List.mem_cons.mp hd with rfl | hd
      · exact hc
      · exact h d hd
theorem pushS_inv {s : List Nat} {c : Nat} (h : RedS s) (hs : Sg s) (hc : sgn c = true) : pushS (pushS s c) (flipC c) = s := by
  cases s with
  | nil =>
    show (if c = flipC (flipC c) then [] else _) = ([] : List Nat)
    rw [if_pos (flip2 hc).symm]
  | cons x t =>
    by_cases e : x = flipC c
    · have e1 : pushS (x :: t) c = t := by simp only [pushS, if_pos e]
      rw [e1, e]
      cases t with
      | nil => rfl
      | cons y t =>
        have hn : ¬ y = flipC (flipC c) := by
          rw [← e]
          exact h.1
        simp only [pushS, if_neg hn]
    · have e1 : pushS (x :: t) c = c :: x :: t := by simp only [pushS, if_neg e]
      rw [e1]
      simp only [pushS, if_pos (flip2 hc).symm]
def runS (s w : List Nat) : List Nat := w.foldl pushS s
theorem runS_cons (s : List Nat) (c : Nat) (w : List Nat) : runS s (c :: w) = runS (pushS s c) w := rfl
theorem runS_app (s u v : List Nat) : runS s (u ++ v) = runS (runS s u) v := List.foldl_append
theorem runS_red : ∀ {w s : List Nat}, RedS s → RedS (runS s w)
  | [], _, h => h
  | _ :: w, _, h => runS_red (w := w) (pushS_red h)
theorem runS_sg : ∀ {w s : List Nat}, Sg s → Sg w → Sg (runS s w)
  | [], _, h, _ => h
  | c :: w, _, h, hw => runS_sg (w := w) (pushS_sg h (hw c (List.mem_cons_self ..))) (fun d hd => hw d (List.mem_cons_of_mem _ hd))
def backL (w : List Nat) : List Nat := (w.map flipC).reverse
theorem backL_cons (c : Nat) (w : List Nat) : backL (c :: w) = backL w ++ [flipC c] := by
  unfold backL
  rw [List.map_cons, List.reverse_cons]
theorem backL_app (u v : List Nat) : backL (u ++ v) = backL v ++ backL u := by
  unfold backL
  rw [List.map_append, List.reverse_append]
theorem backL_sg {w : List Nat} (h : Sg w) : Sg (backL w) := fun c hc => by
  unfold backL at hc
  rw [List.mem_reverse, List.mem_map] at hc
  obtain ⟨d, hd, rfl⟩ := hc
  exact flip_sgn (h d hd)
theorem backL_back {w : List Nat} (h : Sg w) : backL (backL w) = w := by
  unfold backL
  rw [List.map_reverse, List.reverse_reverse, List.map_map]
  have e : w.map (flipC ∘ flipC) = w.map id := List.map_congr_left fun c hc => flip2 (h c hc)
  rw [e, List.map_id]
theorem run_back : ∀ {w s : List Nat}, RedS s → Sg s → Sg w → runS (runS s w) (backL w) = s
  | [], _, _, _, _ => rfl
  | c :: w, s, h, hs, hw => by
    have hc := hw c (List.mem_cons_self ..)
    rw [runS_cons, backL_cons, runS_app, run_back (w := w) (pushS_red h) (pushS_sg hs hc) (fun d hd => hw d (List.mem_cons_of_mem _ hd))]
    exact pushS_inv h hs hc
theorem pushS_of {s : List Nat} {c : Nat} (h : RedS (c :: s)) : pushS s c = c :: s := by
  cases s with
  | nil => rfl
  | cons x t => simp only [pushS, if_neg h.1]
theorem run_of_red : ∀ {w s : List Nat}, RedS (w.reverse ++ s) → runS s w = w.reverse ++ s
  | [], _, _ => rfl
  | c :: w, s, h => by
    rw [List.reverse_cons, List.append_assoc] at h ⊢
    rw [runS_cons, pushS_of (s := s) (RedS.suffix (b := c :: s) h)]
    exact run_of_red h
/-- a word reduced, as a list from its first sign -/
def shortL (w : List Nat) : List Nat := (runS [] w).reverse
theorem shortL_sg {w : List Nat} (h : Sg w) : Sg (shortL w) := fun c hc => runS_sg (s := []) (fun _ z => by cases z) h c (List.mem_reverse.mp hc)
def push (l : List Nat) (c : Nat) : List Nat := (pushS l.reverse c).reverse
theorem shortL_snoc (w : List Nat) (c : Nat) : shortL (w ++ [c]) = push (shortL w) c := by
  unfold shortL push
  rw [runS_app, List.reverse_reverse]
  rfl
theorem push_last {l : List Nat} {c : Nat} (x : Nat) : push (l ++ [x]) c = if x = flipC c then l else l ++ [x] ++ [c] := by
  unfold push
  rw [List.reverse_append]
  show (if x = flipC c then l.reverse else c :: x :: l.reverse).reverse = _
  by_cases e : x = flipC c
  · rw [if_pos e, if_pos e, List.reverse_reverse]
  · rw [if_neg e, if_neg e]
    simp
theorem push_nil (c : Nat) : push [] c = [c] := rfl
/-- two words put together where they meet -/
def glS : List Nat → List Nat → List Nat
  | x :: s, y :: b => if x = flipC y then glS s b else (y :: b).reverse ++ (x :: s)
  | [], b => b.reverse
  | x :: s, [] => x :: s
theorem RedS.join : ∀ {a : List Nat} {y : Nat} {s : List Nat}, RedS (a ++ [y]) → RedS (y :: s) → RedS (a ++ y :: s)
  | [], _, _, _, h => h
  | [x], y, s, h, k => ⟨h.1, k⟩
  | x :: z :: a, y, s, h, k => ⟨h.1, RedS.join (a := z :: a) h.2 k⟩
theorem glS_run : ∀ {b s : List Nat}, RedS b.reverse → RedS s → glS s b = runS s b
  | [], [], _, _ => rfl
  | [], _ :: _, _, _ => rfl
  | y :: b, [], h, _ => by
    have e := run_of_red (w := y :: b) (s := []) (by rw [List.append_nil]; exact h)
    rw [List.append_nil] at e
    exact e.symm
  | y :: b, x :: s, h, k => by
    rw [List.reverse_cons] at h
    by_cases e : x = flipC y
    · have e1 : pushS (x :: s) y = s := by simp only [pushS, if_pos e]
      rw [glS, if_pos e, runS_cons, e1]
      refine glS_run ?_ k.tail
      exact RedS.prefix h
    · have e1 : pushS (x :: s) y = y :: x :: s := by simp only [pushS, if_neg e]
      rw [glS, if_neg e, runS_cons, e1, List.reverse_cons, List.append_assoc]
      exact (run_of_red (RedS.join h (show RedS (y :: x :: s) from ⟨e, k⟩))).symm
where
  RedS.prefix : ∀ {a b : List Nat}, RedS (a ++ b) → RedS a
  | [], _, _ => trivial
  | [_], _, _ => trivial
  | _ :: y :: a, _, h => ⟨h.1, RedS.prefix (a := y :: a) h.2⟩
end Sf
namespace Sf
open PySem PySem.Spec PyProof.Rows L2 TL
/-! ### texts of words -/
def mkS (l : List Nat) : Str := ⟨l.toArray⟩
theorem tl_mkS (l : List Nat) : tl (mkS l) = l := rfl
theorem mkS_tl (x : Str) : mkS (tl x) = x := mk_tl x
theorem mkS_len (l : List Nat) : (mkS l).length = l.length := by rw [len_tl, tl_mkS]
theorem eq_mkS {x : Str} {l : List Nat} (h : tl x = l) : x = mkS l := ext_tl h
/-- a word undone, reduced, glued, as texts -/
def backT (x : Str) : Str := mkS (backL (tl x))
def shortT (x : Str) : Str := mkS (shortL (tl x))
def gluT (x y : Str) : Str := mkS (glS (tl x).reverse (tl y)).reverse
theorem glS_sg : ∀ {s b : List Nat}, Sg s → Sg b → Sg (glS s b)
  | x :: s, y :: b, hs, hb => by
    unfold glS
    by_cases e : x = flipC y
    · rw [if_pos e]
      exact glS_sg (fun c hc => hs c (List.mem_cons_of_mem _ hc)) (fun c hc => hb c (List.mem_cons_of_mem _ hc))
    · rw [if_neg e]
      intro c hc
      rcases List.mem_append.mp hc with hc | hc
      · exact hb c (List.mem_reverse.mp hc)
      · exact hs c hc
  | [], b, _, hb => fun c hc => hb c (List.mem_reverse.mp (by unfold glS at hc; exact hc))
  | x :: s, [], hs, _ => hs
theorem glS_len : ∀ {s b : List Nat}, (glS s b).length ≤ s.length + b.length
  | x :: s, y :: b => by
    unfold glS
    by_cases e : x = flipC y
    · rw [if_pos e]
      have := glS_len (s := s) (b := b)
      simp only [List.length_cons]
      omega
    · rw [if_neg e]
      simp only [List.length_append, List.length_reverse, List.length_cons]
      omega
  | [], b => by
    unfold glS
    simp
  | x :: s, [] => by
    unfold glS
    simp
theorem gluT_wd {x y : Str} (hx : Wd x) (hy : Wd y) : Wd (gluT x y) := fun c hc => by
  unfold gluT at hc
  rw [tl_mkS, List.mem_reverse] at hc
  exact glS_sg (fun d hd => hx d (List.mem_reverse.mp hd)) hy c hc
theorem gluT_len (x y : Str) : (gluT x y).length ≤ x.length + y.length := by
  unfold gluT
  rw [mkS_len, List.length_reverse, len_tl, len_tl]
  have := glS_len (s := (tl x).reverse) (b := tl y)
  rw [List.length_reverse] at this
  exact this
theorem backT_wd {x : Str} (h : Wd x) : Wd (backT x) := fun c hc => backL_sg h c hc
theorem backT_len (x : Str) : (backT x).length = x.length := by
  unfold backT backL
  rw [mkS_len, List.length_reverse, List.length_map, len_tl]
theorem backT_back {x : Str} (h : Wd x) : backT (backT x) = x := by
  unfold backT
  rw [tl_mkS, backL_back h, mkS_tl]
theorem runS_len : ∀ (w s : List Nat), (runS s w).length ≤ s.length + w.length
  | [], s => by simp [runS]
  | c :: w, s => by
    have h := runS_len w (pushS s c)
    rw [runS_cons]
    have h2 : (pushS s c).length ≤ s.length + 1 := by
      cases s with
      | nil => simp [pushS]
      | cons x t =>
        unfold pushS
        by_cases e : x = flipC c
        · simp only [if_pos e, List.length_cons]
          omega
        · simp only [if_neg e, List.length_cons]
          omega
    simp only [List.length_cons]
    omega
theorem shortL_len (w : List Nat) : (shortL w).length ≤ w.length := by
  unfold shortL
  rw [List.length_reverse]
  have := runS_len w []
  simpa using this
theorem glu_one {l : List Nat} {c : Nat} : (glS l.reverse [c]).reverse = push l c := by
  unfold push
  cases h : l.reverse with
  | nil => rfl
  | cons x t =>
    unfold glS pushS
    by_cases e : x = flipC c
    · simp only [if_pos e]
      cases t <;> rfl
    · simp only [if_neg e]
      rfl
end Sf
namespace Sf
open PySem PySem.Spec PyProof.Rows L2 TL
section
variable {P : Program} {w : World} {K : PySem.W.Frag} {mg : Str → Option Value} {base : Heap}
/-! ### need_word, turned, undone -/
def spNeed : Sp := fun vs H Q _ => ∃ x : Str, vs = [.str x] ∧ Wd x ∧ x.length ≤ 60 ∧ ∀ H', Same H H' → Q .non H'
abbrev HasNeed (P : Program) (w : World) (K : PySem.W.Frag) (mg : Str → Option Value) (base : Heap) : Prop := Has P w K mg base 2 "need_word" ["text"] spNeed
theorem sc_need : FnScope ["text"] ["text"] (defScope s_need_word) := ⟨rfl, rfl, rfl, by decide +kernel, rfl, by decide +kernel, by decide +kernel⟩
theorem has_need (F : FnAt K mg "need_word" s_need_word ["text"]) (hI : HasIsWord P w K mg base) : HasNeed P w K mg base := F.has fun F => by
  obtain ⟨fI, fdI, gI, kI, bI, GI⟩ := hI
  refine F.ok sc_need (fun vs H Q E h => ?_) (fun cdv A outer s H vs Q E hr h => ?_)
  · obtain ⟨x, rfl, _⟩ := h
    rfl
  · obtain ⟨x, rfl, hx, hl, q⟩ := h
    refine ⟨_, pss_one (ps_if (pt_not (pt_val (pe_call GI hr (by rfl) gI kI bI .nil pass0 (pa_cons (pv 0) pa_nil)))) pss_never pss_nil), ?_⟩
    refine ⟨_, rfl, x, rfl, by omega, fun H' s' => ⟨_, rfl, ?_⟩⟩
    rw [isW_true hx hl]
    exact iteF (q H' s')
end
end Sf
namespace Sf
open PySem PySem.Spec PyProof.Rows L2 TL
def MAt (K : PySem.W.Frag) (C : Addr) (m q : Str) (st : Stmt) (ps : List Str) : Prop := ∃ (f : Addr) (fd : FuncData), Meth K C m f ∧ Fun K m q st f fd ∧ Binds K fd ps []
def HasM (P : Program) (w : World) (K : PySem.W.Frag) (mg : Str → Option Value) (base : Heap) (C : Addr) (k : Nat) (m : Str) (ps : List Str) (sp : Sp) : Prop :=
  ∃ (f : Addr) (fd : FuncData), Meth K C m f ∧ Binds K fd ps [] ∧ FnOk P w K mg base CX0 k f fd ps sp
theorem MAt.has {P : Program} {w : World} {K : PySem.W.Frag} {mg : Str → Option Value} {base : Heap} {C : Addr} {k : Nat} {m q : Str} {st : Stmt} {ps : List Str} {sp : Sp} (h : MAt K C m q st ps)
    (ok : ∀ {f : Addr} {fd : FuncData}, Fun K m q st f fd → FnOk P w K mg base CX0 k f fd ps sp) : HasM P w K mg base C k m ps sp := by
  obtain ⟨f, fd, g, F, b⟩ := h
  exact ⟨f, fd, g, b, ok F⟩
theorem mAt_mk {K : PySem.W.Frag} {C : Addr} {m q : Str} {st : Stmt} {ps : List Str} {f : Addr} {oc : Value} {od an : Option Addr} {osl : Array (Option Value)} {kV doc pm cdv ct : Value}
    (a : PySem.W.findIn K (.ref C) m = some (some (.ref f))) (i : PySem.W.isFn K (.ref f) = true) (l : K.lookup f = some ⟨oc, od, .func (PySem.W.fnOf m q (defArgs st) (defBody st) (defScope st) .none kV doc pm an cdv ct), osl⟩)
    (c : PySem.W.codeIn K cdv q = true) (k : PySem.W.keepIn K (.ref f) = true)
    (b : ∀ (kV doc pm : Value) (an : Option Addr) (cdv ct : Value) (us : List Value), us.length = ps.length → bindArgs (PySem.W.fnOf m q (defArgs st) (defBody st) (defScope st) .none kV doc pm an cdv ct) ⟨us, []⟩ = pure (ps.zip us)) : MAt K C m q st ps :=
  ⟨f, _, ⟨a, i, k⟩, fun_mk l c k, (fun_mk l c k).binds b⟩
theorem dc_gen {J : It} {n : Nat} {g : TG} {tt : TT} {tk tv : TE} {vs : List Nat} {σ : L2.St} {H1 : Hp} {D : Addr} {Qd : Hp → Prop} (Pv : Nat → Hp → Prop) (h0 : Pv 0 (upd H1 D (.dK [])))
    (hgo : ∀ i H, i < n → Pv i H → J.go i H) (hst : ∀ H, Pv n H → J.stop n H)
    (hs : ∀ i x H H', i < n → Pv i H → J.yld i H x H' → g x (wipe σ vs) H' fun σ2 H2 => wipe σ2 vs = wipe σ vs ∧ tt σ2 H2 fun b H3 =>
      if b = true then tk σ2 H3 fun y H4 => tv σ2 H4 fun z H5 => ∃ kvs k, y = kV k ∧ H5 D = some (.dK kvs) ∧ kvs.length < sizeLine ∧ Pv (i + 1) (upd H5 D (.dK (putK kvs k z))) else Pv (i + 1) H3) (hd : ∀ H, Pv n H → Qd H) :
    ∃ W : Nat → Nat → Hp → Prop, (∃ m, W 0 m (upd H1 D (.dK []))) ∧ ∀ i m H, W i m H →
      (J.stop i H ∧ Qd H) ∨ (J.go i H ∧ ∃ Nx : Hp → Prop, (∀ H', Nx H' → ∃ m', m' < m ∧ W (i + 1) m' H') ∧ ∀ x H', J.yld i H x H' → g x (wipe σ vs) H' fun σ2 H2 => wipe σ2 vs = wipe σ vs ∧ tt σ2 H2 fun b H3 =>
        if b = true then tk σ2 H3 fun y H4 => tv σ2 H4 fun z H5 => ∃ kvs k, y = kV k ∧ H5 D = some (.dK kvs) ∧ kvs.length < sizeLine ∧ Nx (upd H5 D (.dK (putK kvs k z))) else Nx H3) := by
  refine ⟨fun i m H => m = n - i ∧ i ≤ n ∧ Pv i H, ⟨n, rfl, Nat.zero_le _, h0⟩, ?_⟩
  rintro i m H ⟨rfl, hi, p⟩
  by_cases hlt : i < n
  · exact .inr ⟨hgo i H hlt p, Pv (i + 1), fun H' p' => ⟨n - (i + 1), by omega, rfl, hlt, p'⟩, fun x H' y => hs i x H H' hlt p y⟩
  · have e : i = n := by omega
    subst e
    exact .inl ⟨hst H p, hd H p⟩
theorem kit_self {K : PySem.W.Frag} {t : Value} : PySem.W.kitOne K t t = some true := by
  unfold PySem.W.kitOne
  rw [if_pos (beq_self_eq_true t)]
end Sf
namespace Sf
open PySem PySem.Spec PyProof.Rows L2 TL
/-! ### ==, != and len of an own class -/
section
variable {X : Cx} {k : Nat} {f C : Addr} {fd : FuncData} {ps : List Str} {sp : Sp}
theorem run_fnA {A : Around} {Er : Value → Shared → Prop} {pins : List (Addr × Obj)} {σ : L2.St} {H : Hp} {s : Shared} {Q : VK} {us : List Value} {vs : List V} (F : FnOk X.prog X.w X.K X.mg X.base CX0 k f fd ps sp) (hr : Room k A) (e0 : Env0 X.prog X.w X.K X.mg X.base A X.stack s H) (hb : Binds X.K fd ps [])
    (I : Inv X pins σ H s) (r : Vals vs us) (h : sp vs H Q E0) : wpAny (model X.prog X.w) A (call (.ref f) us) (EP X pins σ Q) Er s := by
  have hl : (us ++ []).length = ps.length := by rw [List.append_nil, ← r.length]; exact F.len _ _ _ _ h
  have hbd := hb s us I.kIn hl
  rw [List.append_nil] at hbd
  refine wpAny_call (codeAny_mono (F.run A X.stack s H ⟨us, []⟩ us vs Q E0 hr e0 hbd r h) fun r s' hq => ?_)
  cases r with
  | error e => exact False.elim hq
  | ok fl =>
    cases fl with
    | ret u => exact I.after hq
    | next => exact False.elim hq
    | brk => exact False.elim hq
    | cont => exact False.elim hq
/-- a == b, both of the class at C, by its __eq__ -/
theorem op_eqOwn (F : FnOk X.prog X.w X.K X.mg X.base CX0 k f fd ps sp) (hs : PySem.W.findIn X.K (.ref C) "__eq__" = some (some (.ref f))) (hf : PySem.W.isFn X.K (.ref f) = true) (hb : Binds X.K fd ps []) (hr : Room k X.A) :
    OpR X (compareOp .Eq) (fun x y H Q => ∃ a b dx dy fs gs, x = .ref a ∧ y = .ref b ∧ H a = some (.ins C dx fs) ∧ H b = some (.ins C dy gs) ∧ sp [.ref a, .ref b] H (fun v H' => ∃ t, v = .bl t ∧ Q (.bl t) H') E0) := by
  intro pins s σ H x y v u Q I rx ry h
  obtain ⟨a, b, dx, dy, fs, gs, rfl, rfl, ha, hb', h⟩ := h
  cases rx
  cases ry
  obtain ⟨mA, J, _⟩ := ins_get I.hok ha
  obtain ⟨mB, J', _⟩ := ins_get I.hok hb'
  obtain ⟨od, J, _⟩ := J.look
  obtain ⟨od', J', _⟩ := J'.look
  obtain ⟨m, hF⟩ := I.fr
  refine PySem.W.cmp_K (op := .Eq) (tb := .ref C) hr.units0 hF I.ok.mod.kin J J'.type (by simp [PySem.W.notFirst]) hs hf ?_
  refine wpAny_mono (run_fnA (Er := X.xe) F hr I.env0 hb I (show Vals [V.ref a, V.ref b] [Value.ref a, Value.ref b] from .cons rfl (.cons rfl .nil)) h) (fun v s' hv => ?_) fun _ _ z => z
  obtain ⟨z, H', I', rz, t, rfl, q⟩ := hv
  cases rz
  exact ⟨.bl t, H', I', rfl, q⟩
theorem ifBound_ne {M : Model} {A : Around} {E : Value → Shared → Prop} {s : Shared} {K : PySem.W.Frag} {x : Addr} {ox : Obj} {od : Option Obj} {args : List Value} {Q : Option Value → Shared → Prop} (X : K.In s.heap) (I : PySem.W.InstAt s.heap x ox C od) (hs : PySem.W.findIn K (.ref C) "__ne__" = some (some (.builtin "object.__ne__")))
    (h : wpAny M A (call (.builtin "object.__ne__") (.ref x :: args)) (fun v => Q (some v)) E s) : wpAny M A (callSpecialIfBound? (.ref x) "__ne__" args) Q E s := by
  simp only [callSpecialIfBound?, bindSpecialIfBound?]
  refine wpAny_holding (wpAny_bind (wpAny_bind (wpAny_bind (I.type.here ((PySem.W.looks_findIn X hs).here ?_)))))
  refine wpAny_bind (wpAny_askSetting (wpAny_ite ?_))
  have fin : wpAny M A (call (.builtin "object.__ne__") ([.ref x] ++ args) >>= fun v => pure (some v)) Q E s := wpAny_bind (wpAny_mono h (fun v s' h' => wpAny_pure h') fun _ _ h' => h')
  split
  · exact wpAny_bind (wpAny_of_eq (PySem.F.cmp_object.ne.bind _) (wpAny_pure (by exact fin)))
  · exact wpAny_tryCatch (wpAny_bind (wpAny_of_eq (PySem.F.cmp_object.ne.bind _) (wpAny_pure (by exact fin))))
/-- a != b, both of the class at C, by its __eq__ -/
theorem op_neOwn (F : FnOk X.prog X.w X.K X.mg X.base CX0 k f fd ps sp) (hs : PySem.W.findIn X.K (.ref C) "__eq__" = some (some (.ref f))) (hf : PySem.W.isFn X.K (.ref f) = true) (hb : Binds X.K fd ps []) (hn : PySem.W.findIn X.K (.ref C) "__ne__" = some (some (.builtin "object.__ne__")))
    (hm : PySem.W.mroIn X.K C (.type "object") = some true) (hr : Room (k + 1) X.A) :
    OpR X (compareOp .NotEq) (fun x y H Q => ∃ a b dx dy fs gs, x = .ref a ∧ y = .ref b ∧ H a = some (.ins C dx fs) ∧ H b = some (.ins C dy gs) ∧ sp [.ref a, .ref b] H (fun v H' => ∃ t, v = .bl t ∧ Q (.bl (!t)) H') E0) := by
  intro pins s σ H x y v u Q I rx ry h
  obtain ⟨a, b, dx, dy, fs, gs, rfl, rfl, ha, hb', h⟩ := h
  cases rx
  cases ry
  obtain ⟨mA, J, _⟩ := ins_get I.hok ha
  obtain ⟨mB, J', _⟩ := ins_get I.hok hb'
  obtain ⟨od, J, _⟩ := J.look
  obtain ⟨od', J', _⟩ := J'.look
  have hu1 : X.A.in1.units < cLine := hr.in1.units0
  have one : wpAny (model X.prog X.w) X.A (tryCompare (.ref a) (cmpInfo .NotEq).2.1 (.ref b)) (fun r s' => ∃ v, r = some v ∧ EP X pins σ Q v s') X.xe s := by
    unfold tryCompare
    refine wpAny_bind (ifBound_ne I.kIn J hn ?_)
    refine wpAny_call (codeAny_call_builtin PySem.F.cmp_object.ne.plain PySem.F.cmpEntry_ne (PySem.W.check_slot PySem.F.cmpKind_ne PySem.F.cmpSplit_ne (J.type.andThen (PySem.W.looks_mroIn I.kIn hm)) (PySem.F.cmpArgs_ne _ _) ?_))
    unfold Builtin.«object.__ne__»
    refine wpAny_bind (wpAny_of_eq (a := (.ref a, [.ref b])) rfl ?_)
    dsimp only
    refine wpAny_bind (wpAny_cRoomFor hu1 ?_)
    refine wpAny_bind (PySem.W.ifBound_K I.kIn J hs hf ?_)
    refine wpAny_mono (run_fnA F hr.in1 I.env0.in1 hb I (show Vals [V.ref a, V.ref b] [Value.ref a, Value.ref b] from .cons rfl (.cons rfl .nil)) h) (fun v s' hv => ?_) fun _ _ z => z
    obtain ⟨z, H', I', rz, t, rfl, q⟩ := hv
    cases rz
    refine wpAny_bind (wpAny_truthy_bool ?_)
    exact wpAny_pure (wpAny_pure ⟨_, rfl, .bl (!t), H', I', rfl, q⟩)
  show wpAny (model X.prog X.w) X.A (richCompare .NotEq (.ref a) (.ref b)) _ _ _
  unfold richCompare
  simp only [oneThing_ref]
  refine wpAny_holding (wpAny_bind (wpAny_cRoomFor hr.units0 ?_))
  refine wpAny_bind (J.type.here (wpAny_bind (J'.type.here ?_)))
  split
  · rename_i q
    simp at q
  · refine wpAny_bind (wpAny_pure ?_)
    simp only [Bool.false_eq_true, if_false]
    refine wpAny_bind (wpAny_mono one (fun r s' z => ?_) fun _ _ e => e)
    obtain ⟨v, rfl, hq⟩ := z
    exact wpAny_pure hq
/-- len(a), a of the class at C, by its __len__ -/
theorem call_lenOwn (F : FnOk X.prog X.w X.K X.mg X.base CX0 k f fd ps sp) (hs : PySem.W.findIn X.K (.ref C) "__len__" = some (some (.ref f))) (hf : PySem.W.isFn X.K (.ref f) = true) (hb : Binds X.K fd ps []) (hr : Room (k + 1) X.A) :
    CallR X (.builtin "len") (fun xs H Q => ∃ a dx fs, xs = [.ref a] ∧ H a = some (.ins C dx fs) ∧ sp [.ref a] H (fun v H' => ∃ n : Nat, v = .int (n : Int) ∧ n ≤ sizeLine ∧ Q (.int (n : Int)) H') E0) := by
  intro pins s σ H xs us Q I r h
  obtain ⟨a, dx, fs, rfl, ha, h⟩ := h
  obtain ⟨u1, rfl, r1⟩ := vals1 r
  cases r1
  obtain ⟨mA, J, _⟩ := ins_get I.hok ha
  obtain ⟨od, J, _⟩ := J.look
  obtain ⟨m, hF⟩ := I.fr
  refine PySem.W.len_K hF I.ok.mod.kin J hs hf ?_
  refine wpAny_mono (run_fnA F hr.in1 I.env0.in1 hb I (show Vals [V.ref a] [Value.ref a] from .cons rfl .nil) h) (fun v s' hv => ?_) fun _ _ z => z
  obtain ⟨z, H', I', rz, n, rfl, hn, q⟩ := hv
  obtain ⟨t, rfl⟩ := rz
  have h63 : (n : Int) < 2 ^ 63 := by
    have := line63
    have : n < 2 ^ 63 := Nat.lt_of_le_of_lt hn this
    exact_mod_cast this
  exact ⟨⟨Int.natCast_nonneg n, h63⟩, .int (n : Int), H', I'.tok _, ⟨_, rfl⟩, q⟩
end
end Sf
namespace Sf
open PySem PySem.Spec PyProof.Rows L2 TL
section
variable {X : Cx}
/-! ### name = {k: v for ..} on one line, the name a local -/
theorem ps_setDc {i : Nat} {y : Str} {py : Pos} {kx vx tg iter : Expr} {ifs : List Expr} {scope : Scope} {own : List (Str × Nat)} {pos spos : Pos} {wi : TI} {g : TG} {tt : TT} {tk tv : TE} (hc : X.calm = true) (hN : X.N.Nodup) (hy : X.N[i]? = some y) (hyl : X.env.scope.names.lookup y = some .local)
    (hsw : swapsWith (.DictComp kx vx [⟨tg, iter, ifs, 0⟩] scope pos) (some (.Name y py)) spos.line X.env = pure true) (hi : PI X tg iter wi) (ok : BlkOk X.N X.env.scope scope own)
    (hg : ∀ (s : Shared) (H : Hp) (C : Addr) (cl : List (Str × Addr)) (fp : List Addr), PG (X.blk s H scope (compEnvC scope cl C X.env) fp) tg g) (ht : ∀ (s : Shared) (H : Hp) (C : Addr) (cl : List (Str × Addr)) (fp : List Addr), PTs (X.blk s H scope (compEnvC scope cl C X.env) fp) ifs tt)
    (hk : ∀ (s : Shared) (H : Hp) (C : Addr) (cl : List (Str × Addr)) (fp : List Addr), PE (X.blk s H scope (compEnvC scope cl C X.env) fp) kx tk)
    (he : ∀ (s : Shared) (H : Hp) (C : Addr) (cl : List (Str × Addr)) (fp : List Addr), PE (X.blk s H scope (compEnvC scope cl C X.env) fp) vx tv) (hs : ∀ x, foldedSetIterable iter X.env x = pure x := by intro _; rfl) :
    PS X (.Assign [.Name y py] (.DictComp kx vx [⟨tg, iter, ifs, 0⟩] scope pos) spos) (tAsg (tDc wi g tt tk tv (own.map (·.2))) (gName i)) := by
  refine ⟨fun pins s σ H D I h => ?_⟩
  rw [exec_Assign_Name_used _ _ _ _ hsw]
  refine wpAny_bind (wpAny_standAt (wpAny_bind ?_))
  show wpAny _ X.A (do let _ ← comprehension (.DictComp kx vx [⟨tg, iter, ifs, 0⟩] scope pos) scope X.env (firstIterPos [⟨tg, iter, ifs, 0⟩] pos) newDict false (eval iter X.env) (some (assign (.Name y py) X.env))) _ _ s
  have h : tDc wi g tt tk tv (own.map (·.2)) σ H (fun x H1 => gName i x σ H1 D.nx) := h
  refine wpAny_bind (thn (dc_core (Qf := fun _ s' => SP X pins D .next s') hc hN I hi ok hg ht hk he hs h fun L C s' m H' I' q hn f => ?_) fun _ s' hq => wpAny_pure (wpAny_pure hq))
  show wpAny _ _ (assign (.Name y py) X.env (.ref L)) _ _ _
  refine wpAny_assign_Name (store_ok2 (v := V.ref L) I' hN hy (.inl hyl) rfl (fun s2 I2 ⟨a, sb, ha⟩ => ?_) (.inr hyl))
  obtain ⟨f0, f1, f2, f3, f4, f5⟩ := f
  have haC : C ≠ a := by
    rcases ha with z | z
    · rw [z]; exact f1
    · exact fun e => f4 y a z e.symm
  refine ⟨m, hn.sameBut sb haC, fun h3 sb3 => ?_⟩
  exact ⟨_, H', I2.turned (t' := s2.toks) (fun b o hb e => (sb3.2 b hb).trans e) f0 f1 f3 f4 f5, q⟩
theorem swD_true {kx vx : Expr} {gs : List Comprehension} {scope : Scope} {pos py : Pos} {y : Str} {l : Nat} {env : Env} (hk : env.scope.kind = .function) (hy : env.scope.names.lookup y = some .local) (hl : (py.line == pos.line) = true)
    (ha : (scope.names.any fun (n, k) => n == y && (k == .local || k == .cell)) = false) : swapsWith (.DictComp kx vx gs scope pos) (some (.Name y py)) l env = pure true := by
  have ky : env.kindOf y = some .local := hy
  have hb : env.blockKind = .function := by unfold Env.blockKind; rw [hk]; rfl
  unfold swapsWith
  simp only [hb, ky, ha, Expr.pos, hl]
  rfl
end
end Sf
namespace Sf
open PySem PySem.Spec PyProof.Rows L2 TL
/-! ### the readings, step by step -/
theorem pe_gS {X : Cx} {x z : Str} {t : Tok} {pos : Pos} (hg : Gl X x) (hm : X.mg x = some (.str z t)) (hd : (x == ("__debug__" : Str)) = false := by decide) : PE X (.Name x pos) (tC (.str z)) := pe_glob (v := .str z) hg hm ⟨t, rfl⟩ hd
theorem pe_gI {X : Cx} {x : Str} {z : Int} {t : Tok} {pos : Pos} (hg : Gl X x) (hm : X.mg x = some (.int z t)) (hd : (x == ("__debug__" : Str)) = false := by decide) : PE X (.Name x pos) (tC (.int z)) := pe_glob (v := .int z) hg hm ⟨t, rfl⟩ hd
/-- a new object at p -/
structure Nw (p : Addr) (H H1 : Hp) : Prop where
  nn : H p = none
  off : ∀ a, a ≠ p → H1 a = H a
/-- all but what stands at p is as it was -/
def Of (p : Addr) (H H1 : Hp) : Prop := ∀ a, a ≠ p → H1 a = H a
theorem Nw.at {p a : Addr} {H H1 : Hp} {o : HO} (n : Nw p H H1) (h : H a = some o) : H1 a = some o := by
  rw [n.off a (ne_of_none h n.nn)]
  exact h
theorem Nw.same {p : Addr} {H H1 : Hp} (n : Nw p H H1) : Same H H1 := fun _ _ h => n.at h
theorem Nw.ne {p a : Addr} {H H1 : Hp} {o : HO} (n : Nw p H H1) (h : H a = some o) : a ≠ p := ne_of_none h n.nn
theorem _root_.L2.Same.at {a : Addr} {H H1 : Hp} {o : HO} (n : Same H H1) (h : H a = some o) : H1 a = some o := n _ _ h
theorem Of.at {p a : Addr} {H H1 : Hp} {o : HO} (n : Of p H H1) (ne : a ≠ p) (h : H a = some o) : H1 a = some o := by
  rw [n a ne]
  exact h
theorem Fx.at {b a : Addr} {H H1 : Hp} {o : HO} (n : Fx b H H1) (ne : a ≠ b) (h : H a = some o) : H1 a = some o := n _ _ h ne
theorem Nw.mk' {p : Addr} {H : Hp} {o : HO} (h : H p = none) : Nw p H (upd H p o) := ⟨h, fun _ n => upd_ne n⟩
theorem _root_.L2.Same.off {p : Addr} {H H1 H2 : Hp} (s : Same H H1) (o : Of p H1 H2) (n : H p = none) : Same H H2 := fun a u h => o.at (ne_of_none h n) (s _ _ h)
theorem _root_.L2.Same.nw {p : Addr} {H H1 H2 : Hp} (s : Same H H1) (o : Nw p H1 H2) : Same H H2 := s.trans o.same
theorem Of.mk' {p : Addr} {H : Hp} {o : HO} : Of p H (upd H p o) := fun _ n => upd_ne n
theorem Bag.nw {H H1 : Hp} {b l p : Addr} (h : Bag H b l) (n : Nw p H H1) : Bag H1 b l := h.same n.same
theorem Bag.off {H H1 : Hp} {b l p : Addr} (h : Bag H b l) (n1 : p ≠ b) (n2 : p ≠ l) (o : Of p H H1) : Bag H1 b l := by
  obtain ⟨ns, k, z, r, h⟩ := h
  exact ⟨ns, k, z, r, o.at n1.symm h.hb, o.at n2.symm h.hl, h.k0, h.z0, h.r0, h.r1⟩
theorem Fx.nw {b p : Addr} {H H1 H2 : Hp} (f : Fx b H H1) (n : Nw p H1 H2) : Fx b H H2 := f.same n.same
theorem Fx.off {b p : Addr} {H H1 H2 : Hp} (f : Fx b H H1) (o : Of p H1 H2) (n : H p = none) : Fx b H H2 := fun a u e hb => o.at (ne_of_none e n) (f a u e hb)
section
variable {σ : L2.St} {H : Hp} {Q : VK} {D : Ends} {K : PySem.W.Frag}
theorem w_var {i : Nat} {v : V} (h : σ[i]? = some (some v)) (q : Q v H) : tVar i σ H Q := ⟨v, h, q⟩
theorem w_c {v : V} (q : Q v H) : tC v σ H Q := q
theorem w_op {r : R2} {ta tb : TE} (q : ta σ H fun x H1 => tb σ H1 fun y H2 => r x y H2 Q) : tOp r ta tb σ H Q := q
theorem w_un {r : V → Hp → VK → Prop} {ta : TE} (q : ta σ H fun x H1 => r x H1 Q) : tUn r ta σ H Q := q
theorem w_i0 {g : Int → Int → V} {i j : Int} (q : Q (g i j) H) : rI0 g (.int i) (.int j) H Q := ⟨i, j, rfl, rfl, q⟩
theorem w_i {C : Int → Int → Prop} {g : Int → Int → V} {i j : Int} (c : C i j) (q : Q (g i j) H) : rI C g (.int i) (.int j) H Q := ⟨i, j, rfl, rfl, c, q⟩
theorem w_u {g : Int → V} {i : Int} (q : Q (g i) H) : rU g (.int i) H Q := ⟨i, rfl, q⟩
theorem dec_int (i j : Int) : decide (V.int i = V.int j) = decide (i = j) := by
  by_cases h : i = j
  · subst h; simp
  · rw [decide_eq_false h, decide_eq_false (fun e => h (V.int.inj e))]
theorem dec_str (i j : Str) : decide (V.str i = V.str j) = decide (i = j) := by
  by_cases h : i = j
  · subst h; simp
  · rw [decide_eq_false h, decide_eq_false (fun e => h (V.str.inj e))]
theorem dec_bl (i j : Bool) : decide (V.bl i = V.bl j) = decide (i = j) := by
  by_cases h : i = j
  · subst h; simp
  · rw [decide_eq_false h, decide_eq_false (fun e => h (V.bl.inj e))]
theorem w_eqI {i j : Int} (q : Q (.bl (decide (i = j))) H) : rEq (.int i) (.int j) H Q := ⟨rfl, by rw [dec_int]; exact q⟩
theorem w_neI {i j : Int} (q : Q (.bl (!decide (i = j))) H) : rNe (.int i) (.int j) H Q := ⟨rfl, by rw [dec_int]; exact q⟩
theorem w_eqS {i j : Str} (q : Q (.bl (decide (i = j))) H) : rEq (.str i) (.str j) H Q := ⟨rfl, by rw [dec_str]; exact q⟩
theorem w_neS {i j : Str} (q : Q (.bl (!decide (i = j))) H) : rNe (.str i) (.str j) H Q := ⟨rfl, by rw [dec_str]; exact q⟩
theorem w_eqB {i j : Bool} (q : Q (.bl (decide (i = j))) H) : rEq (.bl i) (.bl j) H Q := ⟨rfl, by rw [dec_bl]; exact q⟩
theorem w_neB {i j : Bool} (q : Q (.bl (!decide (i = j))) H) : rNe (.bl i) (.bl j) H Q := ⟨rfl, by rw [dec_bl]; exact q⟩
/-! texts -/
def rAddStr : R2 := fun x y H Q => ∃ i j, x = .str i ∧ y = .str j ∧ i.length + j.length ≤ sizeLine ∧ Q (.str (i ++ j)) H
theorem op_addS {X : Cx} : OpR X (binaryOp .Add) rAddStr := op_add_str
theorem w_addS {i j : Str} (h : i.length + j.length ≤ sizeLine) (q : Q (.str (i ++ j)) H) : rAddStr (.str i) (.str j) H Q := ⟨i, j, rfl, rfl, h, q⟩
def rInSign : R2 := fun x y H Q => ∃ (c : Nat) (z : Str), x = .str ⟨#[c]⟩ ∧ y = .str z ∧ Q (.bl (decide (c ∈ z.cps.toList))) H
theorem op_inSg {X : Cx} : OpR X (compareOp .In) rInSign := op_in_sign
theorem w_inSg {c : Nat} {z : Str} (q : Q (.bl (decide (c ∈ z.cps.toList))) H) : rInSign (.str (one c)) (.str z) H Q := ⟨c, z, rfl, rfl, q⟩
def rNotInSign : R2 := fun x y H Q => ∃ (c : Nat) (z : Str), x = .str ⟨#[c]⟩ ∧ y = .str z ∧ Q (.bl (!decide (c ∈ z.cps.toList))) H
theorem op_notInSg {X : Cx} : OpR X (compareOp .NotIn) rNotInSign := op_notIn_sign
theorem w_notInSg {c : Nat} {z : Str} (q : Q (.bl (!decide (c ∈ z.cps.toList))) H) : rNotInSign (.str (one c)) (.str z) H Q := ⟨c, z, rfl, rfl, q⟩
def rIsNone : R2 := fun x y H Q => y = .non ∧ Q (.bl (decide (x = .non))) H
theorem op_isNn {X : Cx} : OpR X (compareOp .Is) rIsNone := op_isN
theorem w_isN {x : V} (q : Q (.bl (decide (x = .non))) H) : rIsNone x .non H Q := ⟨rfl, q⟩
theorem w_isNI {i : Int} (q : Q (.bl false) H) : rIsNone (.int i) .non H Q := ⟨rfl, by rw [decide_eq_false (fun z => nomatch z)]; exact q⟩
theorem w_isNN (q : Q (.bl true) H) : rIsNone .non .non H Q := ⟨rfl, by rw [decide_eq_true rfl]; exact q⟩
def rNotNone : R2 := fun x y H Q => y = .non ∧ Q (.bl (!decide (x = .non))) H
theorem op_notNn {X : Cx} : OpR X (compareOp .IsNot) rNotNone := op_notN
theorem w_notN {x : V} (q : Q (.bl (!decide (x = .non))) H) : rNotNone x .non H Q := ⟨rfl, q⟩
theorem w_notNI {i : Int} (q : Q (.bl true) H) : rNotNone (.int i) .non H Q := ⟨rfl, by rw [decide_eq_false (fun z => nomatch z)]; exact q⟩
theorem w_notNN (q : Q (.bl false) H) : rNotNone .non .non H Q := ⟨rfl, by rw [decide_eq_true rfl]; exact q⟩
theorem w_slS {z : Str} {lo hi : Option Int} (h : z.length ≤ sizeLine) (q : Q (.str (cutS z lo hi)) H) : rSlS (.str z) lo hi H Q := ⟨z, rfl, h, q⟩
theorem w_sl {r : V → Option Int → Option Int → Hp → VK → Prop} {te : TE} {tl th : TO} (q : te σ H fun x H1 => tl σ H1 fun l H2 => th σ H2 fun u H3 => r x l u H3 Q) : tSl r te tl th σ H Q := q
theorem w_nopart {Q : Option Int → Hp → Prop} (q : Q none H) : tNoPart σ H Q := q
def kPart (Q : Option Int → Hp → Prop) : VK := fun x H1 => ∃ i, x = .int i ∧ Q (some i) H1
theorem w_part {t : TE} {Q : Option Int → Hp → Prop} (q : t σ H (kPart Q)) : tPart t σ H Q := q
theorem w_kpart {i : Int} {Q : Option Int → Hp → Prop} (q : Q (some i) H) : kPart Q (.int i) H := ⟨i, rfl, q⟩
theorem w_ixS {z : Str} {i : Int} {c : Nat} (hl : z.length ≤ sizeLine) (h : atI z.cps.toList i = some c) (q : Q (.str (one c)) H) : rIxS (.str z) (.int i) H Q := ⟨z, i, c, rfl, rfl, hl, h, q⟩
theorem w_ixL {p : Addr} {xs : List V} {i : Int} {v : V} (h : H p = some (.lst xs)) (e : atI xs i = some v) (q : Q v H) : rIxL K (.ref p) (.int i) H Q := ⟨p, xs, i, v, rfl, rfl, SqL.of h, e, q⟩
theorem w_ixT {p : Addr} {xs : List V} {i : Int} {v : V} (h : H p = some (.tup xs)) (e : atI xs i = some v) (q : Q v H) : rIxT K (.ref p) (.int i) H Q := ⟨p, xs, i, v, rfl, rfl, SqT.of h, e, q⟩
/-! truth -/
def kB (Q : Bool → Hp → Prop) : VK := fun x H' => ∃ k, x = .bl k ∧ Q k H'
theorem w_test {t : TE} {Q : Bool → Hp → Prop} (q : t σ H (kB Q)) : tTest t σ H Q := q
theorem w_tB {t : TE} {Q : Bool → Hp → Prop} (q : t σ H (kB Q)) : tB t σ H Q := q
theorem w_kB {c : Bool} {Q : Bool → Hp → Prop} (q : Q c H) : kB Q (.bl c) H := ⟨c, rfl, q⟩
def kAnd (u : TT) (σ : L2.St) (Q : Bool → Hp → Prop) : Bool → Hp → Prop := fun c H1 => if c = true then u σ H1 Q else Q false H1
theorem w_and {t u : TT} {Q : Bool → Hp → Prop} (q : t σ H (kAnd u σ Q)) : tAnd t u σ H Q := q
theorem w_andT {u : TT} {Q : Bool → Hp → Prop} (q : u σ H Q) : kAnd u σ Q true H := iteT q
theorem w_andF {u : TT} {Q : Bool → Hp → Prop} (q : Q false H) : kAnd u σ Q false H := iteF q
theorem w_and2 {p : Prop} [Decidable p] {u : TT} {Q : Bool → Hp → Prop} (h1 : p → u σ H Q) (h2 : ¬ p → Q false H) : kAnd u σ Q (decide p) H :=
  ite2 (fun e => h1 (of_decide_eq_true e)) fun e => h2 fun z => e (decide_eq_true z)
theorem w_andN2 {p : Prop} [Decidable p] {u : TT} {Q : Bool → Hp → Prop} (h1 : ¬ p → u σ H Q) (h2 : p → Q false H) : kAnd u σ Q (!decide p) H := by
  by_cases h : p
  · rw [decide_eq_true h]; exact iteF (h2 h)
  · rw [decide_eq_false h]; exact iteT (h1 h)
theorem w_andB {b : Bool} {u : TT} {Q : Bool → Hp → Prop} (h1 : b = true → u σ H Q) (h2 : b = false → Q false H) : kAnd u σ Q b H := by
  cases b with
  | true => exact iteT (h1 rfl)
  | false => exact iteF (h2 rfl)
def kOr (u : TT) (σ : L2.St) (Q : Bool → Hp → Prop) : Bool → Hp → Prop := fun c H1 => if c = true then Q true H1 else u σ H1 Q
theorem w_or {t u : TT} {Q : Bool → Hp → Prop} (q : t σ H (kOr u σ Q)) : tOr t u σ H Q := q
theorem w_orT {u : TT} {Q : Bool → Hp → Prop} (q : Q true H) : kOr u σ Q true H := iteT q
theorem w_orF {u : TT} {Q : Bool → Hp → Prop} (q : u σ H Q) : kOr u σ Q false H := iteF q
theorem w_or2 {p : Prop} [Decidable p] {u : TT} {Q : Bool → Hp → Prop} (h1 : p → Q true H) (h2 : ¬ p → u σ H Q) : kOr u σ Q (decide p) H :=
  ite2 (fun e => h1 (of_decide_eq_true e)) fun e => h2 fun z => e (decide_eq_true z)
theorem w_orN2 {p : Prop} [Decidable p] {u : TT} {Q : Bool → Hp → Prop} (h1 : ¬ p → Q true H) (h2 : p → u σ H Q) : kOr u σ Q (!decide p) H := by
  by_cases h : p
  · rw [decide_eq_true h]; exact iteF (h2 h)
  · rw [decide_eq_false h]; exact iteT (h1 h)
theorem w_orB {b : Bool} {u : TT} {Q : Bool → Hp → Prop} (h1 : b = true → Q true H) (h2 : b = false → u σ H Q) : kOr u σ Q b H := by
  cases b with
  | true => exact iteT (h1 rfl)
  | false => exact iteF (h2 rfl)
def kNot (Q : Bool → Hp → Prop) : Bool → Hp → Prop := fun c H1 => Q (!c) H1
theorem w_not {t : TT} {Q : Bool → Hp → Prop} (q : t σ H (kNot Q)) : tNot t σ H Q := q
theorem w_kNot {c : Bool} {Q : Bool → Hp → Prop} (q : Q (!c) H) : kNot Q c H := q
theorem w_kNotT {Q : Bool → Hp → Prop} (q : Q false H) : kNot Q true H := q
theorem w_kNotF {Q : Bool → Hp → Prop} (q : Q true H) : kNot Q false H := q
theorem w_kNotN {p : Prop} [Decidable p] {Q : Bool → Hp → Prop} (q : Q (decide p) H) : kNot Q (!decide p) H := by
  show Q (!!decide p) H
  rw [Bool.not_not]
  exact q
/-! truth as values -/
def kAndV (tb : TE) (σ : L2.St) (Q : VK) : VK := fun x H1 => ∃ c, x = .bl c ∧ if c = true then tb σ H1 Q else Q (.bl false) H1
theorem w_andV {ta tb : TE} (q : ta σ H (kAndV tb σ Q)) : tAndV ta tb σ H Q := q
theorem w_andVT {tb : TE} (q : tb σ H Q) : kAndV tb σ Q (.bl true) H := ⟨true, rfl, iteT q⟩
theorem w_andVF {tb : TE} (q : Q (.bl false) H) : kAndV tb σ Q (.bl false) H := ⟨false, rfl, iteF q⟩
theorem w_andV2 {p : Prop} [Decidable p] {tb : TE} (h1 : p → tb σ H Q) (h2 : ¬ p → Q (.bl false) H) : kAndV tb σ Q (.bl (decide p)) H :=
  ⟨_, rfl, ite2 (fun e => h1 (of_decide_eq_true e)) fun e => h2 fun z => e (decide_eq_true z)⟩
theorem w_andVB {b : Bool} {tb : TE} (h1 : b = true → tb σ H Q) (h2 : b = false → Q (.bl false) H) : kAndV tb σ Q (.bl b) H := by
  cases b with
  | true => exact w_andVT (h1 rfl)
  | false => exact w_andVF (h2 rfl)
def kOrV (tb : TE) (σ : L2.St) (Q : VK) : VK := fun x H1 => ∃ c, x = .bl c ∧ if c = true then Q (.bl true) H1 else tb σ H1 Q
theorem w_orV {ta tb : TE} (q : ta σ H (kOrV tb σ Q)) : tOrV ta tb σ H Q := q
theorem w_orVB {b : Bool} {tb : TE} (h1 : b = true → Q (.bl true) H) (h2 : b = false → tb σ H Q) : kOrV tb σ Q (.bl b) H := by
  cases b with
  | true => exact ⟨true, rfl, iteT (h1 rfl)⟩
  | false => exact ⟨false, rfl, iteF (h2 rfl)⟩
def kNotV (Q : VK) : VK := fun x H1 => ∃ c, x = .bl c ∧ Q (.bl (!c)) H1
theorem w_notV {ta : TE} (q : ta σ H (kNotV Q)) : tNotV ta σ H Q := q
theorem w_kNotV {c : Bool} (q : Q (.bl (!c)) H) : kNotV Q (.bl c) H := ⟨c, rfl, q⟩
theorem w_kNotVF (q : Q (.bl true) H) : kNotV Q (.bl false) H := ⟨false, rfl, q⟩
theorem w_kNotVT (q : Q (.bl false) H) : kNotV Q (.bl true) H := ⟨true, rfl, q⟩
def kIfE (ta tb : TE) (σ : L2.St) (Q : VK) : Bool → Hp → Prop := fun c H1 => if c = true then ta σ H1 Q else tb σ H1 Q
theorem w_ifE {t : TT} {ta tb : TE} (q : t σ H (kIfE ta tb σ Q)) : tIf t ta tb σ H Q := q
theorem w_ifET {ta tb : TE} (q : ta σ H Q) : kIfE ta tb σ Q true H := iteT q
theorem w_ifEF {ta tb : TE} (q : tb σ H Q) : kIfE ta tb σ Q false H := iteF q
theorem w_ifE2 {p : Prop} [Decidable p] {ta tb : TE} (h1 : p → ta σ H Q) (h2 : ¬ p → tb σ H Q) : kIfE ta tb σ Q (decide p) H :=
  ite2 (fun e => h1 (of_decide_eq_true e)) fun e => h2 fun z => e (decide_eq_true z)
theorem w_ifEN2 {p : Prop} [Decidable p] {ta tb : TE} (h1 : ¬ p → ta σ H Q) (h2 : p → tb σ H Q) : kIfE ta tb σ Q (!decide p) H := by
  by_cases h : p
  · rw [decide_eq_true h]; exact iteF (h2 h)
  · rw [decide_eq_false h]; exact iteT (h1 h)
theorem w_ifEB {b : Bool} {ta tb : TE} (h1 : b = true → ta σ H Q) (h2 : b = false → tb σ H Q) : kIfE ta tb σ Q b H := by
  cases b with
  | true => exact iteT (h1 rfl)
  | false => exact iteF (h2 rfl)
def kChain (r' : R2) (tc : TE) (y : V) (σ : L2.St) (Q : VK) : VK := fun z H3 => ∃ k, z = .bl k ∧ (if k = true then tc σ H3 fun w' H4 => r' y w' H4 Q else Q (.bl false) H3)
theorem w_chain {r r' : R2} {ta tb tc : TE} (q : ta σ H fun x H1 => tb σ H1 fun y H2 => r x y H2 (kChain r' tc y σ Q)) : tChain r r' ta tb tc σ H Q := q
theorem w_chain2 {p : Prop} [Decidable p] {r' : R2} {tc : TE} {y : V} (h1 : p → tc σ H fun w' H4 => r' y w' H4 Q) (h2 : ¬ p → Q (.bl false) H) : kChain r' tc y σ Q (.bl (decide p)) H :=
  ⟨_, rfl, ite2 (fun e => h1 (of_decide_eq_true e)) fun e => h2 fun z => e (decide_eq_true z)⟩
/-! arguments, displays -/
theorem w_nil {Q : List V → Hp → Prop} (q : Q [] H) : tNil σ H Q := q
theorem w_cons {ta : TE} {tr : TA} {Q : List V → Hp → Prop} (q : ta σ H fun x H1 => tr σ H1 fun xs H2 => Q (x :: xs) H2) : tCons ta tr σ H Q := q
def kNewL (Q : VK) : List V → Hp → Prop := fun xs H1 => xs.length ≤ sizeLine ∧ ∀ p, H1 p = none → Q (.ref p) (upd H1 p (.lst xs))
def kNewT (Q : VK) : List V → Hp → Prop := fun xs H1 => xs.length ≤ sizeLine ∧ ∀ p, H1 p = none → Q (.ref p) (upd H1 p (.tup xs))
theorem w_lst {t : TA} (q : t σ H (kNewL Q)) : tLst t σ H Q := q
theorem w_tup {t : TA} (q : t σ H (kNewT Q)) : tTup t σ H Q := q
theorem w_newL {xs : List V} (hl : xs.length ≤ sizeLine) (k : ∀ p H1, H1 p = some (.lst xs) → Nw p H H1 → Q (.ref p) H1) : kNewL Q xs H := ⟨hl, fun _ n => k _ _ upd_same (.mk' n)⟩
theorem w_newT {xs : List V} (hl : xs.length ≤ sizeLine) (k : ∀ p H1, H1 p = some (.tup xs) → Nw p H H1 → Q (.ref p) H1) : kNewT Q xs H := ⟨hl, fun _ n => k _ _ upd_same (.mk' n)⟩
theorem w_slL {p : Addr} {xs : List V} {lo hi : Option Int} (h : H p = some (.lst xs)) (k : ∀ q H1, H1 q = some (.lst (cutV xs lo hi)) → Nw q H H1 → Q (.ref q) H1) : rSlL K (.ref p) lo hi H Q :=
  ⟨p, xs, rfl, SqL.of h, fun _ n => k _ _ upd_same (.mk' n)⟩
theorem w_cat {l b : Addr} {xs zs : List V} (h1 : H l = some (.lst xs)) (h2 : H b = some (.lst zs)) (hl : xs.length + zs.length ≤ sizeLine) (k : ∀ q H1, H1 q = some (.lst (xs ++ zs)) → Nw q H H1 → Q (.ref q) H1) : rCat (.ref l) (.ref b) H Q :=
  ⟨l, b, xs, zs, rfl, rfl, h1, h2, hl, fun _ n => k _ _ upd_same (.mk' n)⟩
/-! calls -/
theorem w_cb {r : List V → Hp → VK → Prop} {t : TA} (q : t σ H fun vs H1 => r vs H1 Q) : tCB r t σ H Q := q
theorem w_call {sp : Sp} {dvs : List V} {E : XK} {t : TA} (q : t σ H fun vs H1 => sp (vs ++ dvs) H1 Q E) : tCall sp dvs E t σ H Q := q
def kMeth (C : Addr) (m : Str) (sp : Sp) (dvs : List V) (E : XK) (t : TA) (σ : L2.St) (Q : VK) : VK := fun x H1 => ∃ a dx fs, x = .ref a ∧ H1 a = some (.ins C dx fs) ∧ fs.lookup m = none ∧ t σ H1 fun vs H2 => sp (x :: (vs ++ dvs)) H2 Q E
theorem w_meth {C : Addr} {m : Str} {sp : Sp} {dvs : List V} {E : XK} {ta : TE} {t : TA} (q : ta σ H (kMeth C m sp dvs E t σ Q)) : tMeth C m sp dvs E ta t σ H Q := q
theorem w_kMeth {C a dx : Addr} {fs : List (Str × V)} {m : Str} {sp : Sp} {dvs : List V} {E : XK} {t : TA} (h : H a = some (.ins C dx fs)) (hm : fs.lookup m = none) (q : t σ H fun vs H2 => sp (.ref a :: (vs ++ dvs)) H2 Q E) : kMeth C m sp dvs E t σ Q (.ref a) H := ⟨a, dx, fs, rfl, h, hm, q⟩
def kMake (C : Addr) (sp : Sp) (dvs : List V) (E : XK) (Q : VK) : List V → Hp → Prop := fun vs H1 => ∀ x dx, H1 x = none → H1 dx = none → dx ≠ x →
  sp (.ref x :: (vs ++ dvs)) (upd (upd H1 dx (.own x)) x (.ins C dx [])) (fun v H2 => v = .non ∧ Q (.ref x) H2) E
theorem w_make {C : Addr} {sp : Sp} {dvs : List V} {E : XK} {t : TA} (q : t σ H (kMake C sp dvs E Q)) : tMake C sp dvs E t σ H Q := q
def kFld (K : PySem.W.Frag) (f : Str) (Q : VK) : VK := fun x H1 => ∃ a C dx fs v, x = .ref a ∧ H1 a = some (.ins C dx fs) ∧ Cls K C ∧ NoAttr K C f ∧ fs.lookup f = some v ∧ Q v H1
theorem w_fld {ta : TE} {f : Str} (q : ta σ H (kFld K f Q)) : tFld K ta f σ H Q := q
theorem w_kFld {a C dx : Addr} {fs : List (Str × V)} {f : Str} {v : V} (h : H a = some (.ins C dx fs)) (c : Cls K C) (n : NoAttr K C f) (e : fs.lookup f = some v) (q : Q v H) : kFld K f Q (.ref a) H := ⟨a, C, dx, fs, v, rfl, h, c, n, e, q⟩
def rLenSeq (K : PySem.W.Frag) : List V → Hp → VK → Prop := fun xs H Q => ∃ p ys, xs = [.ref p] ∧ (SqL K H p ys ∨ SqT K H p ys) ∧ Q (.int ys.length) H
theorem call_lenQ {X : Cx} : CallR X (.builtin "len") (rLenSeq X.K) := call_len_seq
theorem w_lenL {p : Addr} {ys : List V} (h : H p = some (.lst ys)) (q : Q (.int ys.length) H) : rLenSeq K [.ref p] H Q := ⟨p, ys, rfl, .inl (SqL.of h), q⟩
theorem w_lenT {p : Addr} {ys : List V} (h : H p = some (.tup ys)) (q : Q (.int ys.length) H) : rLenSeq K [.ref p] H Q := ⟨p, ys, rfl, .inr (SqT.of h), q⟩
def rLenStr : List V → Hp → VK → Prop := fun xs H Q => ∃ z, xs = [.str z] ∧ z.length ≤ sizeLine ∧ Q (.int z.length) H
theorem call_lenS {X : Cx} : CallR X (.builtin "len") rLenStr := call_len_str
theorem w_lenS {z : Str} (h : z.length ≤ sizeLine) (q : Q (.int z.length) H) : rLenStr [.str z] H Q := ⟨z, rfl, h, q⟩
def rLenDct : List V → Hp → VK → Prop := fun xs H Q => ∃ a kvs, xs = [V.ref a] ∧ H a = some (.dK kvs) ∧ Q (.int kvs.length) H
theorem call_lenDc {X : Cx} : CallR X (.builtin "len") rLenDct := call_lenD
theorem w_lenD {p : Addr} {kvs : List (Key × V)} (h : H p = some (.dK kvs)) (q : Q (.int kvs.length) H) : rLenDct [.ref p] H Q := ⟨p, kvs, rfl, h, q⟩
def rMin2 : List V → Hp → VK → Prop := fun xs H Q => ∃ i j, xs = [.int i, .int j] ∧ Q (.int (if j < i then j else i)) H
theorem call_min2N {X : Cx} (hc : X.calm = true) : CallR X (.builtin "min") rMin2 := call_min2 hc
theorem w_min2 {i j : Int} (q : Q (.int (if j < i then j else i)) H) : rMin2 [.int i, .int j] H Q := ⟨i, j, rfl, q⟩
def rMax2 : List V → Hp → VK → Prop := fun xs H Q => ∃ i j, xs = [.int i, .int j] ∧ Q (.int (if j > i then j else i)) H
theorem call_max2N {X : Cx} (hc : X.calm = true) : CallR X (.builtin "max") rMax2 := call_max2 hc
theorem w_max2 {i j : Int} (q : Q (.int (if j > i then j else i)) H) : rMax2 [.int i, .int j] H Q := ⟨i, j, rfl, q⟩
def rListOf (K : PySem.W.Frag) : List V → Hp → VK → Prop := fun xs H Q => ∃ p ys, xs = [.ref p] ∧ (SqL K H p ys ∨ SqT K H p ys) ∧ ∀ l, H l = none → Q (.ref l) (upd H l (.lst ys))
theorem call_listO {X : Cx} : CallR X (.type "list") (rListOf X.K) := call_list_of
theorem w_listL {p : Addr} {ys : List V} (h : H p = some (.lst ys)) (k : ∀ l H1, H1 l = some (.lst ys) → Nw l H H1 → Q (.ref l) H1) : rListOf K [.ref p] H Q := ⟨p, ys, rfl, .inl (SqL.of h), fun _ n => k _ _ upd_same (.mk' n)⟩
theorem w_listT {p : Addr} {ys : List V} (h : H p = some (.tup ys)) (k : ∀ l H1, H1 l = some (.lst ys) → Nw l H H1 → Q (.ref l) H1) : rListOf K [.ref p] H Q := ⟨p, ys, rfl, .inr (SqT.of h), fun _ n => k _ _ upd_same (.mk' n)⟩
def rTupOf (K : PySem.W.Frag) : List V → Hp → VK → Prop := fun xs H Q => ∃ p ys, xs = [.ref p] ∧ ((SqL K H p ys ∧ ∀ l, H l = none → Q (.ref l) (upd H l (.tup ys))) ∨ (SqT K H p ys ∧ Q (.ref p) H))
theorem call_tupO {X : Cx} : CallR X (.type "tuple") (rTupOf X.K) := call_tuple_of
theorem w_tupL {p : Addr} {ys : List V} (h : H p = some (.lst ys)) (k : ∀ l H1, H1 l = some (.tup ys) → Nw l H H1 → Q (.ref l) H1) : rTupOf K [.ref p] H Q := ⟨p, ys, rfl, .inl ⟨SqL.of h, fun _ n => k _ _ upd_same (.mk' n)⟩⟩
theorem w_all {p : Addr} {bs : List Bool} (h : H p = some (.lst (bs.map V.bl))) (q : Q (.bl (bs.all id)) H) : rAll K [.ref p] H Q := ⟨p, bs, rfl, SqL.of h, q⟩
theorem w_any {p : Addr} {bs : List Bool} (h : H p = some (.lst (bs.map V.bl))) (q : Q (.bl (bs.any id)) H) : rAny K [.ref p] H Q := ⟨p, bs, rfl, SqL.of h, q⟩
theorem w_isi_int_int {i : Int} (q : Q (.bl true) H) : rIsi K [(.int i), .ty "int"] H Q := ⟨_, _, _, _, true, rfl, .ty "int", .base (.int i), kit_ty (by decide +kernel), q⟩
theorem w_isi_int_bool {i : Int} (q : Q (.bl false) H) : rIsi K [(.int i), .ty "bool"] H Q := ⟨_, _, _, _, false, rfl, .ty "bool", .base (.int i), kit_ty (by decide +kernel), q⟩
theorem w_isi_int_str {i : Int} (q : Q (.bl false) H) : rIsi K [(.int i), .ty "str"] H Q := ⟨_, _, _, _, false, rfl, .ty "str", .base (.int i), kit_ty (by decide +kernel), q⟩
theorem w_isi_str_int {i : Str} (q : Q (.bl false) H) : rIsi K [(.str i), .ty "int"] H Q := ⟨_, _, _, _, false, rfl, .ty "int", .base (.str i), kit_ty (by decide +kernel), q⟩
theorem w_isi_str_bool {i : Str} (q : Q (.bl false) H) : rIsi K [(.str i), .ty "bool"] H Q := ⟨_, _, _, _, false, rfl, .ty "bool", .base (.str i), kit_ty (by decide +kernel), q⟩
theorem w_isi_str_str {i : Str} (q : Q (.bl true) H) : rIsi K [(.str i), .ty "str"] H Q := ⟨_, _, _, _, true, rfl, .ty "str", .base (.str i), kit_ty (by decide +kernel), q⟩
theorem w_isi_bool_int {i : Bool} (q : Q (.bl true) H) : rIsi K [(.bl i), .ty "int"] H Q := ⟨_, _, _, _, true, rfl, .ty "int", .base (.bl i), kit_ty (by decide +kernel), q⟩
theorem w_isi_bool_bool {i : Bool} (q : Q (.bl true) H) : rIsi K [(.bl i), .ty "bool"] H Q := ⟨_, _, _, _, true, rfl, .ty "bool", .base (.bl i), kit_ty (by decide +kernel), q⟩
theorem w_isi_bool_str {i : Bool} (q : Q (.bl false) H) : rIsi K [(.bl i), .ty "str"] H Q := ⟨_, _, _, _, false, rfl, .ty "str", .base (.bl i), kit_ty (by decide +kernel), q⟩
theorem w_isi_NoneType_int  (q : Q (.bl false) H) : rIsi K [.non, .ty "int"] H Q := ⟨_, _, _, _, false, rfl, .ty "int", .base .non, kit_ty (by decide +kernel), q⟩
theorem w_isi_NoneType_str  (q : Q (.bl false) H) : rIsi K [.non, .ty "str"] H Q := ⟨_, _, _, _, false, rfl, .ty "str", .base .non, kit_ty (by decide +kernel), q⟩
theorem w_isi_NoneType_bool  (q : Q (.bl false) H) : rIsi K [.non, .ty "bool"] H Q := ⟨_, _, _, _, false, rfl, .ty "bool", .base .non, kit_ty (by decide +kernel), q⟩
/-! methods of lists, texts -/
def kBM (K : PySem.W.Frag) (T : String) (r : V → List V → Hp → VK → Prop) (t : TA) (σ : L2.St) (Q : VK) : VK := fun x H1 => tyV K T x H1 ∧ t σ H1 fun xs H2 => r x xs H2 Q
theorem w_bm {T : String} {r : V → List V → Hp → VK → Prop} {to : TE} {t : TA} (q : to σ H (kBM K T r t σ Q)) : tBM K T r to t σ H Q := q
theorem w_bm0 {T : String} {r : V → List V → Hp → VK → Prop} {to : TE} (q : to σ H (kBM K T r tNil σ Q)) : tBM0 K T r to σ H Q := q
theorem w_kbmL {p : Addr} {xs : List V} {r : V → List V → Hp → VK → Prop} {t : TA} (h : H p = some (.lst xs)) (q : t σ H fun xs H2 => r (.ref p) xs H2 Q) : kBM K "list" r t σ Q (.ref p) H := ⟨.inl ⟨rfl, _, SqL.of h⟩, q⟩
theorem w_append {p : Addr} {xs : List V} {v : V} (h : H p = some (.lst xs)) (hl : xs.length < sizeLine) (k : ∀ H1, H1 p = some (.lst (xs ++ [v])) → Of p H H1 → Q .non H1) : rAppend (.ref p) [v] H Q := ⟨p, xs, v, rfl, rfl, h, hl, k _ upd_same .mk'⟩
theorem perm_erase {α : Type} : ∀ (l : List α) (i : Nat) (h : i < l.length), l.Perm (l[i] :: l.eraseIdx i)
  | x :: r, 0, _ => by exact .refl _
  | x :: r, i + 1, h => by
    have ih := perm_erase r i (by simpa using h)
    exact (ih.cons x).trans (.swap _ _ _)
theorem w_popV {p : Addr} {xs : List V} {i : Int} (h : H p = some (.lst xs)) (h0 : 0 ≤ i) (h1 : i < xs.length) (hz : xs.length ≤ 100000) (k : ∀ x ys H1, xs.Perm (x :: ys) → H1 p = some (.lst ys) → Of p H H1 → Q x H1) : rPopAt (.ref p) [.int i] H Q := by
  have hi : i.toNat < xs.length := by omega
  refine ⟨p, xs, i, i.toNat, xs[i.toNat], rfl, rfl, h, by omega, by omega, ?_, List.getElem?_eq_getElem hi, k _ (xs.eraseIdx i.toNat) _ (perm_erase xs _ hi) upd_same .mk'⟩
  unfold seqIndex?
  simp only [if_neg (show ¬ i < 0 by omega), Bool.and_eq_true, decide_eq_true_eq]
  rw [if_pos ⟨h0, h1⟩]
theorem erase_map {α β : Type} (f : α → β) : ∀ (l : List α) (i : Nat), (l.map f).eraseIdx i = (l.eraseIdx i).map f
  | [], _ => rfl
  | x :: r, 0 => rfl
  | x :: r, i + 1 => by
    show f x :: (r.map f).eraseIdx i = f x :: (r.eraseIdx i).map f
    rw [erase_map f r i]
theorem w_popI {p : Addr} {ns : List Int} {i : Int} (h : H p = some (.lst (ns.map V.int))) (h0 : 0 ≤ i) (h1 : i < ns.length) (hz : ns.length ≤ 100000) (k : ∀ x ms H1, ns.Perm (x :: ms) → H1 p = some (.lst (ms.map V.int)) → Of p H H1 → Q (.int x) H1) : rPopAt (.ref p) [.int i] H Q := by
  have hi : i.toNat < ns.length := by omega
  have e : (ns.map V.int)[i.toNat]? = some (.int ns[i.toNat]) := by rw [List.getElem?_map, List.getElem?_eq_getElem hi]; rfl
  refine ⟨p, _, i, i.toNat, .int ns[i.toNat], rfl, rfl, h, by omega, by omega, ?_, e, k _ (ns.eraseIdx i.toNat) _ (perm_erase ns _ hi) ?_ .mk'⟩
  · unfold seqIndex?
    simp only [if_neg (show ¬ i < 0 by omega), Bool.and_eq_true, decide_eq_true_eq, List.length_map]
    rw [if_pos ⟨h0, h1⟩]
  · rw [upd_same, erase_map]
theorem w_clear {p : Addr} {xs : List V} (h : H p = some (.lst xs)) (k : ∀ H1, H1 p = some (.lst []) → Of p H H1 → Q .non H1) : rClear (.ref p) [] H Q := ⟨p, xs, rfl, rfl, h, k _ upd_same .mk'⟩
def kM0 (r : V → List V → Hp → VK → Prop) (Q : VK) : VK := fun x H1 => (∃ a, x = .str a) ∧ r x [] H1 Q
theorem w_m0 {r : V → List V → Hp → VK → Prop} {to : TE} (q : to σ H (kM0 r Q)) : tM0 r to σ H Q := q
theorem w_kM0 {r : V → List V → Hp → VK → Prop} {x : Str} (q : r (.str x) [] H Q) : kM0 r Q (.str x) H := ⟨⟨x, rfl⟩, q⟩
def kM1 (r : V → List V → Hp → VK → Prop) (te : TE) (σ : L2.St) (Q : VK) : VK := fun x H1 => (∃ a, x = .str a) ∧ te σ H1 fun y H2 => r x [y] H2 Q
theorem w_m1 {r : V → List V → Hp → VK → Prop} {to te : TE} (q : to σ H (kM1 r te σ Q)) : tM1 r to te σ H Q := q
theorem w_kM1 {r : V → List V → Hp → VK → Prop} {te : TE} {x : Str} (q : te σ H fun y H2 => r (.str x) [y] H2 Q) : kM1 r te σ Q (.str x) H := ⟨⟨x, rfl⟩, q⟩
/-! methods of texts, by name -/
def rUpper : V → List V → Hp → VK → Prop := fun x xs H Q => ∃ a, x = .str a ∧ xs = [] ∧ a.length ≤ 5592405 ∧ Q (.str (Txt.upper a)) H
theorem mt_upN {X : Cx} : MtR X "str.upper" rUpper := mt_upper
theorem w_upper {a : Str} (h : a.length ≤ 5592405) (q : Q (.str (Txt.upper a)) H) : rUpper (.str a) [] H Q := ⟨a, rfl, rfl, h, q⟩
theorem w_up1 {c : Nat} (h : 97 ≤ c ∧ c ≤ 104) (q : Q (.str (one (c - 32))) H) : rUpper (.str (one c)) [] H Q := ⟨_, rfl, rfl, by rw [len_one]; decide, by rw [upper_one h]; exact q⟩
def rLower : V → List V → Hp → VK → Prop := fun x xs H Q => ∃ a, x = .str a ∧ xs = [] ∧ a.length ≤ 5592405 ∧ Q (.str (Txt.lower a)) H
theorem mt_loN {X : Cx} : MtR X "str.lower" rLower := mt_lower
theorem w_lower {a : Str} (h : a.length ≤ 5592405) (q : Q (.str (Txt.lower a)) H) : rLower (.str a) [] H Q := ⟨a, rfl, rfl, h, q⟩
theorem w_lo1 {c : Nat} (h : 65 ≤ c ∧ c ≤ 72) (q : Q (.str (one (c + 32))) H) : rLower (.str (one c)) [] H Q := ⟨_, rfl, rfl, by rw [len_one]; decide, by rw [lower_one h]; exact q⟩
def rSwap : V → List V → Hp → VK → Prop := fun x xs H Q => ∃ a, x = .str a ∧ xs = [] ∧ a.length ≤ 5592405 ∧ Q (.str (Txt.swapcase a)) H
theorem pe_swapN {X : Cx} {o : Expr} {to : TE} {apos pos : Pos} (ho : PE X o to) (hbase : attributeBase o "swapcase" X.env (eval o X.env) = eval o X.env := by rfl) (hline : (apos.endLine == pos.line) = true := by rfl) : PE X (.Call (.Attribute o "swapcase" apos) [] [] pos) (tM0 rSwap to) := pe_swapcase ho hbase hline
theorem w_swap {a : Str} (hw : Wd a) (h : a.length ≤ 5592405) (q : Q (.str (flipS a)) H) : rSwap (.str a) [] H Q := ⟨a, rfl, rfl, h, by rw [swap_wd hw]; exact q⟩
theorem w_swap1 {c : Nat} (hc : sgn c = true) (q : Q (.str (one (flipC c))) H) : rSwap (.str (one c)) [] H Q := w_swap (wd_one hc) (by rw [len_one]; decide) q
theorem w_revS {te : TE} (q : te σ H fun x H1 => ∃ z, x = .str z ∧ z.length ≤ sizeLine ∧ Q (.str (revS z)) H1) : tRevS te σ H Q := q
def rJoin (K : PySem.W.Frag) : V → List V → Hp → VK → Prop := fun x xs H Q => ∃ a p, ∃ ys : List Str, x = .str a ∧ xs = [.ref p] ∧ (SqL K H p (ys.map V.str) ∨ SqT K H p (ys.map V.str)) ∧ (ys.map (·.length)).sum + ys.length * a.length ≤ 16777216 ∧ Q (.str (Txt.join a ys)) H
theorem mt_joinN {X : Cx} : MtR X "str.join" (rJoin X.K) := mt_join
theorem w_join {a : Str} {p : Addr} {ys : List Str} (h : H p = some (.lst (ys.map V.str))) (hl : (ys.map (·.length)).sum + ys.length * a.length ≤ 16777216) (q : Q (.str (Txt.join a ys)) H) : rJoin K (.str a) [.ref p] H Q := ⟨a, p, ys, rfl, rfl, .inl (SqL.of h), hl, q⟩
def rStarts : V → List V → Hp → VK → Prop := fun x xs H Q => ∃ a b, x = .str a ∧ xs = [.str b] ∧ Q (.bl (Txt.startswith a b)) H
theorem mt_startN {X : Cx} : MtR X "str.startswith" rStarts := mt_startswith
theorem w_starts {a b : Str} (q : Q (.bl (Txt.startswith a b)) H) : rStarts (.str a) [.str b] H Q := ⟨a, b, rfl, rfl, q⟩
def rEnds : V → List V → Hp → VK → Prop := fun x xs H Q => ∃ a b, x = .str a ∧ xs = [.str b] ∧ Q (.bl (Txt.endswith a b)) H
theorem mt_endN {X : Cx} : MtR X "str.endswith" rEnds := mt_endswith
theorem w_ends {a b : Str} (q : Q (.bl (Txt.endswith a b)) H) : rEnds (.str a) [.str b] H Q := ⟨a, b, rfl, rfl, q⟩
def rMulStr : R2 := fun x y H Q => ∃ (a : Str) (n : Int), x = .str a ∧ y = .int n ∧ 0 ≤ n ∧ n ≤ 1000 ∧ a.length ≤ 1000 ∧ Q (.str (Txt.mul a n)) H
theorem op_mulS {X : Cx} : OpR X (binaryOp .Mult) rMulStr := op_mul_str
theorem w_mulS {a : Str} {n : Int} (h0 : 0 ≤ n) (h1 : n ≤ 1000) (h2 : a.length ≤ 1000) (q : Q (.str (Txt.mul a n)) H) : rMulStr (.str a) (.int n) H Q := ⟨a, n, rfl, rfl, h0, h1, h2, q⟩
/-! dicts -/
def kDGet (x y : V) (Q : VK) : Hp → Prop := fun H2 => ∃ a v, x = .ref a ∧ DGet H2 a y (some v) ∧ Q v H2
theorem w_dget {td ty : TE} (q : td σ H fun x H1 => ty σ H1 fun y H2 => kDGet x y Q H2) : tDGet td ty σ H Q := q
theorem w_kDGetI {a : Addr} {kvs : List (Key × V)} {i : Int} {v : V} (h : H a = some (.dK kvs)) (e : valV kvs (Sum.inl i) = some v) (q : Q v H) : kDGet (.ref a) (.int i) Q H := ⟨a, v, rfl, by rw [← e]; exact DGet.k (k := Sum.inl i) h, q⟩
theorem w_kDGetS {a : Addr} {kvs : List (Key × V)} {i : Str} {v : V} (h : H a = some (.dK kvs)) (e : valV kvs (Sum.inr i) = some v) (q : Q v H) : kDGet (.ref a) (.str i) Q H := ⟨a, v, rfl, by rw [← e]; exact DGet.k (k := Sum.inr i) h, q⟩
def kDIn (y x : V) (Q : VK) : Hp → Prop := fun H2 => ∃ a o, x = .ref a ∧ DGet H2 a y o ∧ Q (.bl o.isSome) H2
theorem w_din {ty td : TE} (q : ty σ H fun y H1 => td σ H1 fun x H2 => kDIn y x Q H2) : tDIn ty td σ H Q := q
theorem w_kDInI {a : Addr} {kvs : List (Key × V)} {i : Int} (h : H a = some (.dK kvs)) (q : Q (.bl (valV kvs (Sum.inl i)).isSome) H) : kDIn (.int i) (.ref a) Q H := ⟨a, _, rfl, DGet.k (k := Sum.inl i) h, q⟩
theorem w_kDInS {a : Addr} {kvs : List (Key × V)} {i : Str} (h : H a = some (.dK kvs)) (q : Q (.bl (valV kvs (Sum.inr i)).isSome) H) : kDIn (.str i) (.ref a) Q H := ⟨a, _, rfl, DGet.k (k := Sum.inr i) h, q⟩
def kDNotIn (y x : V) (Q : VK) : Hp → Prop := fun H2 => ∃ a o, x = .ref a ∧ DGet H2 a y o ∧ Q (.bl (!o.isSome)) H2
theorem w_dnotin {ty td : TE} (q : ty σ H fun y H1 => td σ H1 fun x H2 => kDNotIn y x Q H2) : tDNotIn ty td σ H Q := q
theorem w_kDNotInI {a : Addr} {kvs : List (Key × V)} {i : Int} (h : H a = some (.dK kvs)) (q : Q (.bl (!(valV kvs (Sum.inl i)).isSome)) H) : kDNotIn (.int i) (.ref a) Q H := ⟨a, _, rfl, DGet.k (k := Sum.inl i) h, q⟩
theorem w_kDNotInS {a : Addr} {kvs : List (Key × V)} {i : Str} (h : H a = some (.dK kvs)) (q : Q (.bl (!(valV kvs (Sum.inr i)).isSome)) H) : kDNotIn (.str i) (.ref a) Q H := ⟨a, _, rfl, DGet.k (k := Sum.inr i) h, q⟩
def kDGet1 (ty : TE) (σ : L2.St) (Q : VK) : VK := fun x H1 => ∃ a, x = .ref a ∧ IsD H1 a ∧ ty σ H1 fun y H2 => ∃ o, DGet H2 a y o ∧ Q (o.getD .non) H2
def kDGet1b (a : Addr) (Q : VK) : VK := fun y H2 => ∃ o, DGet H2 a y o ∧ Q (o.getD .non) H2
theorem w_dget1 {td ty : TE} (q : td σ H (kDGet1 ty σ Q)) : tDGet1 td ty σ H Q := q
theorem w_kDGet1 {a : Addr} {kvs : List (Key × V)} {ty : TE} (h : H a = some (.dK kvs)) (q : ty σ H (kDGet1b a Q)) : kDGet1 ty σ Q (.ref a) H := ⟨a, rfl, .inl ⟨kvs, .of h⟩, q⟩
theorem w_kDGet1I {a : Addr} {kvs : List (Key × V)} {i : Int} (h : H a = some (.dK kvs)) (q : Q ((valV kvs (Sum.inl i)).getD .non) H) : kDGet1b a Q (.int i) H := ⟨_, DGet.k (k := Sum.inl i) h, q⟩
theorem w_kDGet1S {a : Addr} {kvs : List (Key × V)} {i : Str} (h : H a = some (.dK kvs)) (q : Q ((valV kvs (Sum.inr i)).getD .non) H) : kDGet1b a Q (.str i) H := ⟨_, DGet.k (k := Sum.inr i) h, q⟩
theorem w_dnewK (k : ∀ p H1, H1 p = some (.dK []) → Nw p H H1 → Q (.ref p) H1) : tDNewK σ H Q := fun _ n => k _ _ upd_same (.mk' n)
def kDPut (n : L2.St → Hp → Prop) (σ : L2.St) (x y v : V) : Hp → Prop := fun H3 => ∃ a H4, x = .ref a ∧ DPut H3 a y v H4 ∧ n σ H4
theorem w_sdput {td ty tv : TE} {n : L2.St → Hp → Prop} {rt : VK} {bk ct : L2.St → Hp → Prop} (q : tv σ H fun v H1 => td σ H1 fun x H2 => ty σ H2 fun y H3 => kDPut n σ x y v H3) : sDPut td ty tv ⟨n, rt, bk, ct⟩ σ H := q
theorem w_kDPutI {a : Addr} {kvs : List (Key × V)} {i : Int} {v : V} {n : L2.St → Hp → Prop} (h : H a = some (.dK kvs)) (hl : kvs.length < sizeLine) (k : ∀ H1, H1 a = some (.dK (putK kvs (Sum.inl i) v)) → Of a H H1 → n σ H1) : kDPut n σ (.ref a) (.int i) v H := ⟨a, _, rfl, DPut.k (k := Sum.inl i) h hl, k _ upd_same .mk'⟩
theorem w_kDPutS {a : Addr} {kvs : List (Key × V)} {i : Str} {v : V} {n : L2.St → Hp → Prop} (h : H a = some (.dK kvs)) (hl : kvs.length < sizeLine) (k : ∀ H1, H1 a = some (.dK (putK kvs (Sum.inr i) v)) → Of a H H1 → n σ H1) : kDPut n σ (.ref a) (.str i) v H := ⟨a, _, rfl, DPut.k (k := Sum.inr i) h hl, k _ upd_same .mk'⟩
/-! a dict made by a comprehension -/
def kDc (g : TG) (tt : TT) (tk tv : TE) (vs : List Nat) (σ : L2.St) (Q : VK) : It → Hp → Prop := fun J H1 => ∀ D, H1 D = none → ∃ W : Nat → Nat → Hp → Prop, (∃ m, W 0 m (upd H1 D (.dK []))) ∧ ∀ i m H, W i m H →
  (J.stop i H ∧ Q (.ref D) H) ∨ (J.go i H ∧ ∃ Nx : Hp → Prop, (∀ H', Nx H' → ∃ m', m' < m ∧ W (i + 1) m' H') ∧ ∀ x H', J.yld i H x H' → g x (wipe σ vs) H' fun σ2 H2 => wipe σ2 vs = wipe σ vs ∧ tt σ2 H2 fun b H3 =>
    if b = true then tk σ2 H3 fun y H4 => tv σ2 H4 fun z H5 => ∃ kvs k, y = kV k ∧ H5 D = some (.dK kvs) ∧ kvs.length < sizeLine ∧ Nx (upd H5 D (.dK (putK kvs k z))) else Nx H3)
theorem w_dc {wi : TI} {g : TG} {tt : TT} {tk tv : TE} {vs : List Nat} (q : wi σ H (kDc g tt tk tv vs σ Q)) : tDc wi g tt tk tv vs σ H Q := q
def kItD (D : Addr) (N : Hp → Prop) (y z : V) : Hp → Prop := fun H5 => ∃ kvs k, y = kV k ∧ H5 D = some (.dK kvs) ∧ kvs.length < sizeLine ∧ N (upd H5 D (.dK (putK kvs k z)))
theorem w_kItDS {p : Addr} {N : Hp → Prop} {kvs : List (Key × V)} {y : Str} {z : V} (h : H p = some (.dK kvs)) (hl : kvs.length < sizeLine) (k : ∀ H5, H5 p = some (.dK (putK kvs (Sum.inr y) z)) → Of p H H5 → N H5) : kItD p N (.str y) z H := ⟨kvs, Sum.inr y, rfl, h, hl, k _ upd_same .mk'⟩
theorem w_kItDI {p : Addr} {N : Hp → Prop} {kvs : List (Key × V)} {y : Int} {z : V} (h : H p = some (.dK kvs)) (hl : kvs.length < sizeLine) (k : ∀ H5, H5 p = some (.dK (putK kvs (Sum.inl y) z)) → Of p H H5 → N H5) : kItD p N (.int y) z H := ⟨kvs, Sum.inl y, rfl, h, hl, k _ upd_same .mk'⟩
def kTstD (tk tv : TE) (σ : L2.St) (D : Addr) (N : Hp → Prop) : Bool → Hp → Prop := fun b H3 => if b = true then tk σ H3 fun y H4 => tv σ H4 fun z H5 => kItD D N y z H5 else N H3
theorem w_tstDT {tk tv : TE} {p : Addr} {N : Hp → Prop} (q : tk σ H fun y H4 => tv σ H4 fun z H5 => kItD p N y z H5) : kTstD tk tv σ p N true H := iteT q
theorem w_tstDB {b : Bool} {tk tv : TE} {p : Addr} {N : Hp → Prop} (h1 : b = true → tk σ H fun y H4 => tv σ H4 fun z H5 => kItD p N y z H5) (h2 : b = false → N H) : kTstD tk tv σ p N b H := by
  cases b with
  | true => exact iteT (h1 rfl)
  | false => exact iteF (h2 rfl)
def kEachD (tt : TT) (tk tv : TE) (vs : List Nat) (σ : L2.St) (D : Addr) (N : Hp → Prop) : L2.St → Hp → Prop := fun σ2 H2 => wipe σ2 vs = wipe σ vs ∧ tt σ2 H2 (kTstD tk tv σ2 D N)
theorem w_eachD {tt : TT} {tk tv : TE} {vs : List Nat} {σ σ2 : L2.St} {p : Addr} {N : Hp → Prop} (e : wipe σ2 vs = wipe σ vs) (q : tt σ2 H (kTstD tk tv σ2 p N)) : kEachD tt tk tv vs σ p N σ2 H := ⟨e, q⟩
theorem w_dcG {J : It} {n : Nat} {g : TG} {tt : TT} {tk tv : TE} {vs : List Nat} (Pv : Addr → Nat → Hp → Prop) (h0 : ∀ p H1, H1 p = some (.dK []) → Nw p H H1 → Pv p 0 H1)
    (hgo : ∀ p i H, i < n → Pv p i H → J.go i H) (hst : ∀ p H, Pv p n H → J.stop n H)
    (hs : ∀ p i x H H', i < n → Pv p i H → J.yld i H x H' → g x (wipe σ vs) H' (kEachD tt tk tv vs σ p (Pv p (i + 1)))) (hd : ∀ p H, Pv p n H → Q (.ref p) H) : kDc g tt tk tv vs σ Q J H := fun p np => by
  refine ⟨fun i m H => m = n - i ∧ i ≤ n ∧ Pv p i H, ⟨n, rfl, Nat.zero_le _, h0 p _ upd_same (.mk' np)⟩, ?_⟩
  rintro i m H ⟨rfl, hi, h⟩
  by_cases hlt : i < n
  · exact .inr ⟨hgo p i H hlt h, Pv p (i + 1), fun H' p' => ⟨n - (i + 1), by omega, rfl, hlt, p'⟩, fun x H' y => hs p i x H H' hlt h y⟩
  · have e : i = n := by omega
    subst e
    exact .inl ⟨hst p H h, hd p H h⟩
theorem w_dcS {x : Str} {g : TG} {tt : TT} {tk tv : TE} {vs : List Nat} (Pv : Addr → Nat → Hp → Prop) (h0 : ∀ p H1, H1 p = some (.dK []) → Nw p H H1 → Pv p 0 H1)
    (hs : ∀ p i c H, (tl x)[i]? = some c → Pv p i H → g (.str (one c)) (wipe σ vs) H (kEachD tt tk tv vs σ p (Pv p (i + 1)))) (hd : ∀ p H, Pv p (tl x).length H → Q (.ref p) H) : kDc g tt tk tv vs σ Q (Its x) H := by
  have hz : x.cps.size = (tl x).length := len_tl x
  refine w_dcG (n := x.cps.size) Pv h0 (fun p i H hi h => hi) (fun p H h => Nat.le_refl _) ?_ (fun p H h => hd p H (by rw [← hz]; exact h))
  rintro p i v H H' hi h ⟨rfl, c, hc, rfl⟩
  exact hs p i c H' (getElem?_of_cps hc) h
/-! list(range(n)) -/
def kRg1 (Q : Int → Int → Hp → Prop) : VK := fun x H1 => ∃ n, x = .int n ∧ Q 0 n H1
theorem w_rg1 {ta : TE} {Q : Int → Int → Hp → Prop} (q : ta σ H (kRg1 Q)) : tRg1 ta σ H Q := q
theorem w_kRg1 {n : Int} {Q : Int → Int → Hp → Prop} (q : Q 0 n H) : kRg1 Q (.int n) H := ⟨n, rfl, q⟩
def kRgL (Q : VK) (a b : Int) : Hp → Prop := fun H1 => RgOk a b ∧ ∀ q, H1 q = none → Q (.ref q) (upd H1 q (.lst (rgV a b)))
theorem w_lstRg {te : L2.St → Hp → (Int → Int → Hp → Prop) → Prop} (q : te σ H fun a b H1 => kRgL Q a b H1) : tLstRg te σ H Q := q
theorem w_kRgL {a b : Int} (h : RgOk a b) (k : ∀ p H1, H1 p = some (.lst (rgV a b)) → Nw p H H1 → Q (.ref p) H1) : kRgL Q a b H := ⟨h, fun _ n => k _ _ upd_same (.mk' n)⟩
/-! statements -/
theorem w_seq {t u : TS} {n : L2.St → Hp → Prop} {rt : VK} {bk ct : L2.St → Hp → Prop} (q : t ⟨u ⟨n, rt, bk, ct⟩, rt, bk, ct⟩ σ H) : tSeq t u ⟨n, rt, bk, ct⟩ σ H := q
/-- a statement, and what holds behind it -/
theorem w_seqJ {t u : TS} {n : L2.St → Hp → Prop} {rt : VK} {bk ct : L2.St → Hp → Prop} (J : L2.St → Hp → Prop) (q : ∀ N : L2.St → Hp → Prop, (∀ σ' H', J σ' H' → N σ' H') → t ⟨N, rt, bk, ct⟩ σ H) (hr : ∀ σ' H', J σ' H' → u ⟨n, rt, bk, ct⟩ σ' H') : tSeq t u ⟨n, rt, bk, ct⟩ σ H := q _ hr
theorem w_next {n : L2.St → Hp → Prop} {rt : VK} {bk ct : L2.St → Hp → Prop} (q : n σ H) : tNext ⟨n, rt, bk, ct⟩ σ H := q
theorem w_break {n : L2.St → Hp → Prop} {rt : VK} {bk ct : L2.St → Hp → Prop} (q : bk σ H) : tBreak ⟨n, rt, bk, ct⟩ σ H := q
theorem w_cont {n : L2.St → Hp → Prop} {rt : VK} {bk ct : L2.St → Hp → Prop} (q : ct σ H) : tCont ⟨n, rt, bk, ct⟩ σ H := q
theorem w_drop {te : TE} {n : L2.St → Hp → Prop} {rt : VK} {bk ct : L2.St → Hp → Prop} (q : te σ H fun _ H1 => n σ H1) : tDrop te ⟨n, rt, bk, ct⟩ σ H := q
theorem w_ret {te : TE} {n : L2.St → Hp → Prop} {rt : VK} {bk ct : L2.St → Hp → Prop} (q : te σ H rt) : tRet te ⟨n, rt, bk, ct⟩ σ H := q
theorem w_retN {n : L2.St → Hp → Prop} {rt : VK} {bk ct : L2.St → Hp → Prop} (q : rt .non H) : tRetN ⟨n, rt, bk, ct⟩ σ H := q
def kIf (t u : TS) (D : Ends) (σ : L2.St) : Bool → Hp → Prop := fun b H1 => if b = true then t D σ H1 else u D σ H1
theorem w_if {c : TT} {t u : TS} (q : c σ H (kIf t u D σ)) : tIfS c t u D σ H := q
theorem w_ifT {t u : TS} (q : t D σ H) : kIf t u D σ true H := iteT q
theorem w_ifF {t u : TS} (q : u D σ H) : kIf t u D σ false H := iteF q
theorem w_if2 {p : Prop} [Decidable p] {t u : TS} (h1 : p → t D σ H) (h2 : ¬ p → u D σ H) : kIf t u D σ (decide p) H :=
  ite2 (fun e => h1 (of_decide_eq_true e)) fun e => h2 fun z => e (decide_eq_true z)
theorem w_ifN2 {p : Prop} [Decidable p] {t u : TS} (h1 : ¬ p → t D σ H) (h2 : p → u D σ H) : kIf t u D σ (!decide p) H := by
  by_cases h : p
  · rw [decide_eq_true h]; exact iteF (h2 h)
  · rw [decide_eq_false h]; exact iteT (h1 h)
theorem w_ifB {b : Bool} {t u : TS} (h1 : b = true → t D σ H) (h2 : b = false → u D σ H) : kIf t u D σ b H := by
  cases b with
  | true => exact iteT (h1 rfl)
  | false => exact iteF (h2 rfl)
theorem w_asg {te : TE} {g : TG} {n : L2.St → Hp → Prop} {rt : VK} {bk ct : L2.St → Hp → Prop} (q : te σ H fun x H1 => g x σ H1 n) : tAsg te g ⟨n, rt, bk, ct⟩ σ H := q
theorem w_gn {i : Nat} {v : V} {Q : L2.St → Hp → Prop} (q : Q (σ.set i (some v)) H) : gName i v σ H Q := q
def kPar (i j : Nat) (σ : L2.St) (n : L2.St → Hp → Prop) : List V → Hp → Prop := fun vs H1 => ∃ v w, vs = [v, w] ∧ n ((σ.set i (some v)).set j (some w)) H1
theorem w_par {i j : Nat} {ta : TA} {n : L2.St → Hp → Prop} {rt : VK} {bk ct : L2.St → Hp → Prop} (q : ta σ H (kPar i j σ n)) : tPar i j ta ⟨n, rt, bk, ct⟩ σ H := q
theorem w_kPar {i j : Nat} {v w : V} {n : L2.St → Hp → Prop} (q : n ((σ.set i (some v)).set j (some w)) H) : kPar i j σ n [v, w] H := ⟨v, w, rfl, q⟩
theorem w_gtup {a : Addr} {xs : List V} {n : Nat} {t : TGs} {Q : L2.St → Hp → Prop} (h : H a = some (.tup xs)) (hl : xs.length = n) (q : t xs σ H Q) : gTup K n t (.ref a) σ H Q := ⟨a, xs, rfl, SqT.of h, hl, q⟩
theorem w_gcons {t : TG} {u : TGs} {v : V} {r : List V} {Q : L2.St → Hp → Prop} (q : t v σ H fun σ' H' => u r σ' H' Q) : gCons t u (v :: r) σ H Q := ⟨v, r, rfl, q⟩
theorem w_gnil {Q : L2.St → Hp → Prop} (q : Q σ H) : gNil [] σ H Q := ⟨rfl, q⟩
theorem w_gsub {to ti : TE} {t : TSet} {v : V} {Q : L2.St → Hp → Prop} (q : to σ H fun o H1 => ti σ H1 fun i H2 => t o i v H2 fun H3 => Q σ H3) : gSub to ti t v σ H Q := q
theorem w_setL {p : Addr} {xs : List V} {k : Int} {j : Nat} {v : V} {Q : Hp → Prop} (h : H p = some (.lst xs)) (e : ixN xs.length k = some j) (q : ∀ H1, H1 p = some (.lst (xs.set j v)) → Of p H H1 → Q H1) : rSetL (.ref p) (.int k) v H Q := ⟨p, xs, k, j, rfl, rfl, h, e, q _ upd_same .mk'⟩
def kSFld (K : PySem.W.Frag) (f : Str) (y : V) (n : L2.St → Hp → Prop) (σ : L2.St) : VK := fun x H2 => ∃ a C dx fs, x = .ref a ∧ H2 a = some (.ins C dx fs) ∧ Cls K C ∧ NoAttr K C f ∧ fs.length < 1000 ∧ n σ (upd H2 a (.ins C dx (putF f y fs)))
theorem w_sfld {ta tv : TE} {f : Str} {n : L2.St → Hp → Prop} {rt : VK} {bk ct : L2.St → Hp → Prop} (q : tv σ H fun y H1 => ta σ H1 (kSFld K f y n σ)) : sFld K ta tv f ⟨n, rt, bk, ct⟩ σ H := q
theorem w_kSFld {a C dx : Addr} {fs : List (Str × V)} {f : Str} {y : V} {n : L2.St → Hp → Prop} (h : H a = some (.ins C dx fs)) (c : Cls K C) (na : NoAttr K C f) (hl : fs.length < 1000) (k : ∀ H1, H1 a = some (.ins C dx (putF f y fs)) → Of a H H1 → n σ H1) : kSFld K f y n σ (.ref a) H :=
  ⟨a, C, dx, fs, rfl, h, c, na, hl, k _ upd_same .mk'⟩
theorem w_aug {i : Nat} {x : V} {te : TE} {ti : TIp} {n : L2.St → Hp → Prop} {rt : VK} {bk ct : L2.St → Hp → Prop} (h : σ[i]? = some (some x)) (q : te σ H fun y H1 => ti x y H1 fun z H2 => n (σ.set i (some z)) H2) : tAug i te ti ⟨n, rt, bk, ct⟩ σ H := ⟨x, h, q⟩
theorem w_ipI {f : Int → Int → Int} {i j : Int} (q : Q (.int (f i j)) H) : ipI f (.int i) (.int j) H Q := ⟨i, j, rfl, rfl, q⟩
/-! loops -/
def kFor (g : TG) (tb : TS) (D : Ends) (σ : L2.St) : It → Hp → Prop := fun J H1 => ∃ W : Nat → Nat → L2.St → Hp → Prop, (∃ m, W 0 m σ H1) ∧ ∀ i m σ H, W i m σ H →
  (J.stop i H ∧ D.nx σ H) ∨ (J.go i H ∧ ∃ N : L2.St → Hp → Prop, (∀ σ' H', N σ' H' → ∃ m', m' < m ∧ W (i + 1) m' σ' H') ∧ ∀ x H', J.yld i H x H' → g x σ H' fun σ2 H2 => tb { D with nx := N, ct := N, bk := D.nx } σ2 H2)
theorem w_for {wi : TI} {g : TG} {tb : TS} (q : wi σ H (kFor g tb D σ)) : tFor wi g tb D σ H := q
def kRng1 (R : It → Hp → Prop) : List V → Hp → Prop := fun vs H1 => ∃ j : Int, vs = [.int j] ∧ -(2 ^ 62) ≤ j ∧ j < 2 ^ 62 ∧ R (Itr 0 j.toNat) H1
theorem w_rng1 {ta : TA} {R : It → Hp → Prop} (q : ta σ H (kRng1 R)) : iRng1 ta σ H R := q
theorem w_kRng1 {j : Int} {R : It → Hp → Prop} (h0 : -(2 ^ 62) ≤ j) (h1 : j < 2 ^ 62) (q : R (Itr 0 j.toNat) H) : kRng1 R [.int j] H := ⟨j, rfl, h0, h1, q⟩
def kList (K : PySem.W.Frag) (R : It → Hp → Prop) : VK := fun x H1 => ∃ a, x = .ref a ∧ (∃ xs, SqL K H1 a xs) ∧ R (Itl K a) H1
theorem w_ilist {tl : TE} {R : It → Hp → Prop} (q : tl σ H (kList K R)) : iList K tl σ H R := q
theorem w_kList {a : Addr} {xs : List V} {R : It → Hp → Prop} (h : H a = some (.lst xs)) (q : R (Itl K a) H) : kList K R (.ref a) H := ⟨a, rfl, ⟨xs, SqL.of h⟩, q⟩
def kTupI (K : PySem.W.Frag) (R : It → Hp → Prop) : VK := fun x H1 => ∃ a, x = .ref a ∧ (∃ xs, SqT K H1 a xs) ∧ R (Itt K a) H1
theorem w_itup {tl : TE} {R : It → Hp → Prop} (q : tl σ H (kTupI K R)) : iTup K tl σ H R := q
theorem w_kTupI {a : Addr} {xs : List V} {R : It → Hp → Prop} (h : H a = some (.tup xs)) (q : R (Itt K a) H) : kTupI K R (.ref a) H := ⟨a, rfl, ⟨xs, SqT.of h⟩, q⟩
def kStr (R : It → Hp → Prop) : VK := fun v H1 => ∃ x, v = .str x ∧ R (Its x) H1
theorem w_istr {te : TE} {R : It → Hp → Prop} (q : te σ H (kStr R)) : iStr te σ H R := q
theorem w_kStr {x : Str} {R : It → Hp → Prop} (q : R (Its x) H) : kStr R (.str x) H := ⟨x, rfl, q⟩
def kEnum (K : PySem.W.Frag) (R : It → Hp → Prop) : List V → Hp → Prop := fun vs H1 => ∃ a xs, vs = [.ref a] ∧ SqL K H1 a xs ∧ R (Ite K a) H1
theorem w_ienum {ta : TA} {R : It → Hp → Prop} (q : ta σ H (kEnum K R)) : iEnum K ta σ H R := q
theorem w_kEnum {a : Addr} {xs : List V} {R : It → Hp → Prop} (h : H a = some (.lst xs)) (q : R (Ite K a) H) : kEnum K R [.ref a] H := ⟨a, xs, rfl, SqL.of h, q⟩
/-- a loop: what holds ahead of turn i -/
theorem w_range {lo : Int} {n : Nat} {g : TG} {tb : TS} {nx : L2.St → Hp → Prop} {rt : VK} {bk ct : L2.St → Hp → Prop} (Pv : Nat → L2.St → Hp → Prop) (h0 : Pv 0 σ H)
    (hs : ∀ i σ H, i < n → Pv i σ H → g (.int (lo + i)) σ H fun σ2 H2 => tb ⟨Pv (i + 1), rt, nx, Pv (i + 1)⟩ σ2 H2) (hd : ∀ σ H, Pv n σ H → nx σ H) : kFor g tb ⟨nx, rt, bk, ct⟩ σ (Itr lo n) H :=
  for_range (lo := lo) (n := n) Pv h0 hs hd
theorem w_list {a : Addr} {xs : List V} {g : TG} {tb : TS} {nx : L2.St → Hp → Prop} {rt : VK} {bk ct : L2.St → Hp → Prop} (Pv : Nat → L2.St → Hp → Prop) (h0 : Pv 0 σ H) (hl : ∀ i σ H, i ≤ xs.length → Pv i σ H → H a = some (.lst xs))
    (hs : ∀ i x σ H, xs[i]? = some x → Pv i σ H → g x σ H fun σ2 H2 => tb ⟨Pv (i + 1), rt, nx, Pv (i + 1)⟩ σ2 H2) (hd : ∀ σ H, Pv xs.length σ H → nx σ H) : kFor g tb ⟨nx, rt, bk, ct⟩ σ (Itl K a) H :=
  for_list (K := K) (a := a) (xs := xs) Pv h0 (fun i σ H hi p => SqL.of (hl i σ H hi p)) hs hd
theorem w_tupF {a : Addr} {xs : List V} {g : TG} {tb : TS} {nx : L2.St → Hp → Prop} {rt : VK} {bk ct : L2.St → Hp → Prop} (Pv : Nat → L2.St → Hp → Prop) (h0 : Pv 0 σ H) (hl : ∀ i σ H, i ≤ xs.length → Pv i σ H → H a = some (.tup xs))
    (hs : ∀ i x σ H, xs[i]? = some x → Pv i σ H → g x σ H fun σ2 H2 => tb ⟨Pv (i + 1), rt, nx, Pv (i + 1)⟩ σ2 H2) (hd : ∀ σ H, Pv xs.length σ H → nx σ H) : kFor g tb ⟨nx, rt, bk, ct⟩ σ (Itt K a) H := by
  refine for_gen (n := xs.length) Pv h0 (fun i σ H hi p => ⟨xs, xs[i], SqT.of (hl i σ H (Nat.le_of_lt hi) p), List.getElem?_eq_getElem hi⟩) (fun σ H p => ⟨xs, SqT.of (hl _ σ H (Nat.le_refl _) p), Nat.le_refl _⟩) ?_ hd
  rintro i v σ H H' hi p ⟨rfl, hx⟩
  exact hs i v σ H' (hx xs (SqT.of (hl i σ H' (Nat.le_of_lt hi) p))) p
theorem w_str {x : Str} {g : TG} {tb : TS} {nx : L2.St → Hp → Prop} {rt : VK} {bk ct : L2.St → Hp → Prop} (Pv : Nat → L2.St → Hp → Prop) (h0 : Pv 0 σ H)
    (hs : ∀ i c σ H, (tl x)[i]? = some c → Pv i σ H → g (.str (one c)) σ H fun σ2 H2 => tb ⟨Pv (i + 1), rt, nx, Pv (i + 1)⟩ σ2 H2) (hd : ∀ σ H, Pv (tl x).length σ H → nx σ H) : kFor g tb ⟨nx, rt, bk, ct⟩ σ (Its x) H := by
  have hz : x.cps.size = (tl x).length := len_tl x
  refine for_gen (n := x.cps.size) Pv h0 (fun i σ H hi _ => hi) (fun σ H _ => Nat.le_refl _) ?_ (fun σ H p => hd σ H (by rw [← hz]; exact p))
  rintro i v σ H H' hi p ⟨rfl, c, hc, rfl⟩
  exact hs i c σ H' (getElem?_of_cps hc) p
theorem w_enum {a : Addr} {xs : List V} {g : TG} {tb : TS} {nx : L2.St → Hp → Prop} {rt : VK} {bk ct : L2.St → Hp → Prop} (Pv : Nat → L2.St → Hp → Prop) (h0 : Pv 0 σ H) (hl : ∀ i σ H, i ≤ xs.length → Pv i σ H → H a = some (.lst xs))
    (hs : ∀ i x t σ H H1, xs[i]? = some x → Pv i σ H → H1 t = some (.tup [.int (i : Nat), x]) → Nw t H H1 → g (.ref t) σ H1 fun σ2 H2 => tb ⟨Pv (i + 1), rt, nx, Pv (i + 1)⟩ σ2 H2) (hd : ∀ σ H, Pv xs.length σ H → nx σ H) : kFor g tb ⟨nx, rt, bk, ct⟩ σ (Ite K a) H := by
  refine for_gen (n := xs.length) Pv h0 (fun i σ H hi p => ⟨xs, xs[i], SqL.of (hl i σ H (Nat.le_of_lt hi) p), List.getElem?_eq_getElem hi⟩) (fun σ H p => ⟨xs, SqL.of (hl _ σ H (Nat.le_refl _) p), Nat.le_refl _⟩) ?_ hd
  rintro i v σ H H' hi p ⟨t, x, rfl, nt, rfl, hx⟩
  exact hs i x t σ H _ (hx xs (SqL.of (hl i σ H (Nat.le_of_lt hi) p))) p upd_same (.mk' nt)
/-! comprehensions -/
def kLc (g : TG) (tt : TT) (te : TE) (vs : List Nat) (σ : L2.St) (Q : VK) : It → Hp → Prop := fun J H1 => ∀ D, H1 D = none → ∃ W : Nat → Nat → Hp → Prop, (∃ m, W 0 m (upd H1 D (.lst []))) ∧ ∀ i m H, W i m H →
  (J.stop i H ∧ Q (.ref D) H) ∨ (J.go i H ∧ ∃ Nx : Hp → Prop, (∀ H', Nx H' → ∃ m', m' < m ∧ W (i + 1) m' H') ∧ ∀ x H', J.yld i H x H' → g x (wipe σ vs) H' fun σ2 H2 => wipe σ2 vs = wipe σ vs ∧ tt σ2 H2 fun b H3 =>
    if b = true then te σ2 H3 fun y H4 => ∃ acc, H4 D = some (.lst acc) ∧ acc.length < sizeLine ∧ Nx (upd H4 D (.lst (acc ++ [y]))) else Nx H3)
theorem w_lc {wi : TI} {g : TG} {tt : TT} {te : TE} {vs : List Nat} (q : wi σ H (kLc g tt te vs σ Q)) : tLc wi g tt te vs σ H Q := q
/-- what an item of the list does: the item, then the list -/
def kIt (D : Addr) (N : Hp → Prop) : VK := fun y H4 => ∃ acc, H4 D = some (.lst acc) ∧ acc.length < sizeLine ∧ N (upd H4 D (.lst (acc ++ [y])))
theorem w_kIt {p : Addr} {N : Hp → Prop} {acc : List V} {y : V} (h : H p = some (.lst acc)) (hl : acc.length < sizeLine) (k : ∀ H5, H5 p = some (.lst (acc ++ [y])) → Of p H H5 → N H5) : kIt p N y H := ⟨acc, h, hl, k _ upd_same .mk'⟩
def kTst (te : TE) (σ : L2.St) (D : Addr) (N : Hp → Prop) : Bool → Hp → Prop := fun b H3 => if b = true then te σ H3 (kIt D N) else N H3
theorem w_yes {Q : Bool → Hp → Prop} (q : Q true H) : tYes σ H Q := q
theorem w_tstT {te : TE} {p : Addr} {N : Hp → Prop} (q : te σ H (kIt p N)) : kTst te σ p N true H := iteT q
theorem w_tstF {te : TE} {p : Addr} {N : Hp → Prop} (q : N H) : kTst te σ p N false H := iteF q
theorem w_tst2 {c : Prop} [Decidable c] {te : TE} {p : Addr} {N : Hp → Prop} (h1 : c → te σ H (kIt p N)) (h2 : ¬ c → N H) : kTst te σ p N (decide c) H :=
  ite2 (fun e => h1 (of_decide_eq_true e)) fun e => h2 fun z => e (decide_eq_true z)
theorem w_tstB {b : Bool} {te : TE} {p : Addr} {N : Hp → Prop} (h1 : b = true → te σ H (kIt p N)) (h2 : b = false → N H) : kTst te σ p N b H := by
  cases b with
  | true => exact iteT (h1 rfl)
  | false => exact iteF (h2 rfl)
def kEach (tt : TT) (te : TE) (vs : List Nat) (σ : L2.St) (D : Addr) (N : Hp → Prop) : L2.St → Hp → Prop := fun σ2 H2 => wipe σ2 vs = wipe σ vs ∧ tt σ2 H2 (kTst te σ2 D N)
theorem w_each {tt : TT} {te : TE} {vs : List Nat} {σ σ2 : L2.St} {p : Addr} {N : Hp → Prop} (e : wipe σ2 vs = wipe σ vs) (q : tt σ2 H (kTst te σ2 p N)) : kEach tt te vs σ p N σ2 H := ⟨e, q⟩
/-- a comprehension by what holds ahead of item i; p: where the made list stands -/
theorem w_lcG {J : It} {n : Nat} {g : TG} {tt : TT} {te : TE} {vs : List Nat} (Pv : Addr → Nat → Hp → Prop) (h0 : ∀ p H1, H1 p = some (.lst []) → Nw p H H1 → Pv p 0 H1)
    (hgo : ∀ p i H, i < n → Pv p i H → J.go i H) (hst : ∀ p H, Pv p n H → J.stop n H)
    (hs : ∀ p i x H H', i < n → Pv p i H → J.yld i H x H' → g x (wipe σ vs) H' (kEach tt te vs σ p (Pv p (i + 1)))) (hd : ∀ p H, Pv p n H → Q (.ref p) H) : kLc g tt te vs σ Q J H := fun p np =>
  lc_gen (n := n) (Pv p) (h0 p _ upd_same (.mk' np)) (hgo p) (hst p) (hs p) (hd p)
theorem w_lcL {a : Addr} {xs : List V} {g : TG} {tt : TT} {te : TE} {vs : List Nat} (Pv : Addr → Nat → Hp → Prop) (h0 : ∀ p H1, H1 p = some (.lst []) → Nw p H H1 → Pv p 0 H1)
    (hl : ∀ p i H, i ≤ xs.length → Pv p i H → H a = some (.lst xs)) (hs : ∀ p i x H, xs[i]? = some x → Pv p i H → g x (wipe σ vs) H (kEach tt te vs σ p (Pv p (i + 1)))) (hd : ∀ p H, Pv p xs.length H → Q (.ref p) H) : kLc g tt te vs σ Q (Itl K a) H := by
  refine w_lcG (n := xs.length) Pv h0 (fun p i H hi h => ⟨xs, xs[i], SqL.of (hl p i H (Nat.le_of_lt hi) h), List.getElem?_eq_getElem hi⟩) (fun p H h => ⟨xs, SqL.of (hl p _ H (Nat.le_refl _) h), Nat.le_refl _⟩) ?_ hd
  rintro p i x H H' hi h ⟨rfl, hx⟩
  exact hs p i x H' (hx xs (SqL.of (hl p i H' (Nat.le_of_lt hi) h))) h
theorem w_lcR {lo : Int} {n : Nat} {g : TG} {tt : TT} {te : TE} {vs : List Nat} (Pv : Addr → Nat → Hp → Prop) (h0 : ∀ p H1, H1 p = some (.lst []) → Nw p H H1 → Pv p 0 H1)
    (hs : ∀ p i H, i < n → Pv p i H → g (.int (lo + i)) (wipe σ vs) H (kEach tt te vs σ p (Pv p (i + 1)))) (hd : ∀ p H, Pv p n H → Q (.ref p) H) : kLc g tt te vs σ Q (Itr lo n) H := by
  refine w_lcG (n := n) Pv h0 (fun p i H hi h => hi) (fun p H h => Nat.le_refl _) ?_ hd
  rintro p i x H H' hi h ⟨rfl, rfl⟩
  exact hs p i H' hi h
theorem w_lcS {x : Str} {g : TG} {tt : TT} {te : TE} {vs : List Nat} (Pv : Addr → Nat → Hp → Prop) (h0 : ∀ p H1, H1 p = some (.lst []) → Nw p H H1 → Pv p 0 H1)
    (hs : ∀ p i c H, (tl x)[i]? = some c → Pv p i H → g (.str (one c)) (wipe σ vs) H (kEach tt te vs σ p (Pv p (i + 1)))) (hd : ∀ p H, Pv p (tl x).length H → Q (.ref p) H) : kLc g tt te vs σ Q (Its x) H := by
  have hz : x.cps.size = (tl x).length := len_tl x
  refine w_lcG (n := x.cps.size) Pv h0 (fun p i H hi h => hi) (fun p H h => Nat.le_refl _) ?_ (fun p H h => hd p H (by rw [← hz]; exact h))
  rintro p i v H H' hi h ⟨rfl, c, hc, rfl⟩
  exact hs p i c H' (getElem?_of_cps hc) h
end
end Sf
namespace Sf
open PySem PySem.Spec PyProof.Rows L2 TL
section
variable {X : Cx} {σ : L2.St} {H : Hp} {Q : VK}
def rNeOwn (C : Addr) (sp : Sp) : R2 := fun x y H Q => ∃ a b dx dy fs gs, x = .ref a ∧ y = .ref b ∧ H a = some (.ins C dx fs) ∧ H b = some (.ins C dy gs) ∧ sp [.ref a, .ref b] H (fun v H' => ∃ t, v = .bl t ∧ Q (.bl (!t)) H') E0
theorem op_neN {C f : Addr} {fd : FuncData} {ps : List Str} {k : Nat} {sp : Sp} (F : FnOk X.prog X.w X.K X.mg X.base CX0 k f fd ps sp) (hs : PySem.W.findIn X.K (.ref C) "__eq__" = some (some (.ref f))) (hf : PySem.W.isFn X.K (.ref f) = true) (hb : Binds X.K fd ps []) (hn : PySem.W.findIn X.K (.ref C) "__ne__" = some (some (.builtin "object.__ne__")))
    (hm : PySem.W.mroIn X.K C (.type "object") = some true) (hr : Room (k + 1) X.A) : OpR X (compareOp .NotEq) (rNeOwn C sp) := op_neOwn F hs hf hb hn hm hr
def kNeOwn (Q : VK) : VK := fun v H' => ∃ t, v = .bl t ∧ Q (.bl (!t)) H'
theorem w_neOwn {C a b dx dy : Addr} {fs gs : List (Str × V)} {sp : Sp} (ha : H a = some (.ins C dx fs)) (hb : H b = some (.ins C dy gs)) (q : sp [.ref a, .ref b] H (kNeOwn Q) E0) : rNeOwn C sp (.ref a) (.ref b) H Q := ⟨a, b, dx, dy, fs, gs, rfl, rfl, ha, hb, q⟩
theorem w_kNeOwn {t : Bool} (q : Q (.bl (!t)) H) : kNeOwn Q (.bl t) H := ⟨t, rfl, q⟩
theorem w_kNeOwnT (q : Q (.bl false) H) : kNeOwn Q (.bl true) H := ⟨true, rfl, q⟩
theorem w_kNeOwnF (q : Q (.bl true) H) : kNeOwn Q (.bl false) H := ⟨false, rfl, q⟩
def rEqOwn (C : Addr) (sp : Sp) : R2 := fun x y H Q => ∃ a b dx dy fs gs, x = .ref a ∧ y = .ref b ∧ H a = some (.ins C dx fs) ∧ H b = some (.ins C dy gs) ∧ sp [.ref a, .ref b] H (fun v H' => ∃ t, v = .bl t ∧ Q (.bl t) H') E0
end
end Sf
namespace Sf
open PySem PySem.Spec PyProof.Rows L2 TL
/-! ### worlds: the mathematics -/
/-- a move: the code of its letter, from, to -/
abbrev Mv := Nat × Int × Int
def sgs : List Nat := [97, 65, 98, 66, 99, 67, 100, 68, 101, 69, 102, 70, 103, 71, 104, 72]
theorem sgs_iff {c : Nat} : c ∈ sgs ↔ sgn c = true := by
  rw [sgn_iff]
  unfold sgs
  simp only [List.mem_cons, List.not_mem_nil, or_false]
  omega
theorem sgs_nd : sgs.Nodup := by decide
def mvOn (c : Nat) (m : Mv) : Option (Int × Int) := if m.1 = c then some (m.2.1, m.2.2) else if m.1 = c + 32 then some (m.2.2, m.2.1) else none
def LM (ms : List Mv) (c : Nat) : List (Int × Int) := ms.filterMap (mvOn c)
def lk (l : List (Int × Int)) (x : Int) : Option Int := (l.find? fun p => decide (p.1 = x)).map (·.2)
def kvI (l : List (Int × Int)) : List (Key × V) := l.map fun p => (Sum.inl p.1, V.int p.2)
def oV : Option Int → V
  | none => .non
  | some i => .int i
theorem kvI_len (l : List (Int × Int)) : (kvI l).length = l.length := List.length_map ..
theorem val_kvI (x : Int) : ∀ l : List (Int × Int), valV (kvI l) (Sum.inl x) = (lk l x).map V.int
  | [] => rfl
  | (a, b) :: r => by
    unfold kvI lk
    rw [List.map_cons, List.find?_cons]
    by_cases h : a = x
    · rw [valV_pos (by show (Sum.inl a : Key) = Sum.inl x; rw [h]), decide_eq_true h]
      rfl
    · rw [valV_neg (fun e => h (Sum.inl.inj e)), decide_eq_false h]
      exact val_kvI x r
theorem getD_kvI (x : Int) (l : List (Int × Int)) : (valV (kvI l) (Sum.inl x)).getD .non = oV (lk l x) := by
  rw [val_kvI]
  cases lk l x <;> rfl
theorem lk_none {l : List (Int × Int)} {x : Int} (h : ∀ p ∈ l, p.1 ≠ x) : lk l x = none := by
  unfold lk
  rw [List.find?_eq_none.mpr fun p hp => by simp [h p hp]]
  rfl
theorem lk_mem {l : List (Int × Int)} {x y : Int} (h : lk l x = some y) : (x, y) ∈ l := by
  unfold lk at h
  rw [Option.map_eq_some_iff] at h
  obtain ⟨p, hp, rfl⟩ := h
  have h1 := List.find?_some hp
  have h2 := List.mem_of_find?_eq_some hp
  rw [decide_eq_true_eq] at h1
  rw [← h1]
  exact h2
theorem lk_of {l : List (Int × Int)} {x y : Int} (hu : ∀ p ∈ l, ∀ q ∈ l, p.1 = q.1 → p = q) (h : (x, y) ∈ l) : lk l x = some y := by
  cases e : lk l x with
  | none =>
    unfold lk at e
    rw [Option.map_eq_none_iff, List.find?_eq_none] at e
    exact absurd (decide_eq_true rfl) (e _ h)
  | some z =>
    have := hu _ (lk_mem e) _ h rfl
    exact congrArg some (congrArg Prod.snd this)
structure WOk (n : Int) (ms : List Mv) : Prop where
  rg : ∀ m ∈ ms, 97 ≤ m.1 ∧ m.1 ≤ 104 ∧ 0 ≤ m.2.1 ∧ m.2.1 < n ∧ 0 ≤ m.2.2 ∧ m.2.2 < n
  pw : ms.Pairwise fun m k => m.1 = k.1 → m.2.1 ≠ k.2.1 ∧ m.2.2 ≠ k.2.2
theorem WOk.pre {n : Int} {ms : List Mv} {m : Mv} (h : WOk n (ms ++ [m])) : WOk n ms ∧ ∀ k ∈ ms, k.1 = m.1 → k.2.1 ≠ m.2.1 ∧ k.2.2 ≠ m.2.2 :=
  ⟨⟨fun k hk => h.rg k (List.mem_append_left _ hk), (List.pairwise_append.mp h.pw).1⟩, fun k hk => (List.pairwise_append.mp h.pw).2.2 k hk m (List.mem_singleton.mpr rfl)⟩
theorem WOk.take {n : Int} {ms : List Mv} (h : WOk n ms) (i : Nat) : WOk n (ms.take i) := ⟨fun m hm => h.rg m (List.mem_of_mem_take hm), h.pw.sublist (List.take_sublist i ms)⟩
theorem take_snoc {α : Type} {l : List α} {i : Nat} {x : α} (h : l[i]? = some x) : l.take (i + 1) = l.take i ++ [x] := by
  rw [List.take_add_one, h]
  rfl
theorem LM_snoc (ms : List Mv) (m : Mv) (c : Nat) : LM (ms ++ [m]) c = LM ms c ++ (mvOn c m).toList := by
  unfold LM
  rw [List.filterMap_append, List.filterMap_cons]
  cases mvOn c m <;> rfl
theorem LM_mem {ms : List Mv} {c : Nat} {p : Int × Int} : p ∈ LM ms c ↔ ∃ m ∈ ms, (m.1 = c ∧ m.2.1 = p.1 ∧ m.2.2 = p.2) ∨ (m.1 ≠ c ∧ m.1 = c + 32 ∧ m.2.2 = p.1 ∧ m.2.1 = p.2) := by
  unfold LM
  rw [List.mem_filterMap]
  constructor
  · rintro ⟨m, hm, e⟩
    refine ⟨m, hm, ?_⟩
    unfold mvOn at e
    split at e
    · rename_i h
      cases e
      exact .inl ⟨h, rfl, rfl⟩
    · rename_i h
      split at e
      · rename_i h2
        cases e
        exact .inr ⟨h, h2, rfl, rfl⟩
      · cases e
  · rintro ⟨m, hm, e⟩
    refine ⟨m, hm, ?_⟩
    unfold mvOn
    rcases e with ⟨h1, h2, h3⟩ | ⟨h0, h1, h2, h3⟩
    · rw [if_pos h1, h2, h3]
    · rw [if_neg h0, if_pos h1, h2, h3]
/-- the step at a new move: its start is free, its end too -/
theorem new_start {n : Int} {ms : List Mv} {m : Mv} (h : WOk n (ms ++ [m])) : lk (LM ms m.1) m.2.1 = none := lk_none fun p hp => by
  obtain ⟨k, hk, e⟩ := LM_mem.mp hp
  have hr := h.rg k (List.mem_append_left _ hk)
  have hm := h.rg m (List.mem_append_right _ (List.mem_singleton.mpr rfl))
  rcases e with ⟨h1, h2, _⟩ | ⟨_, h1, _⟩
  · rw [← h2]
    exact (h.pre.2 k hk h1).1
  · omega
theorem new_end {n : Int} {ms : List Mv} {m : Mv} (h : WOk n (ms ++ [m])) : lk (LM ms (m.1 - 32)) m.2.2 = none := lk_none fun p hp => by
  obtain ⟨k, hk, e⟩ := LM_mem.mp hp
  have hr := h.rg k (List.mem_append_left _ hk)
  have hm := h.rg m (List.mem_append_right _ (List.mem_singleton.mpr rfl))
  rcases e with ⟨h1, h2, _⟩ | ⟨_, h1, h2, _⟩
  · omega
  · rw [← h2]
    exact (h.pre.2 k hk (by omega)).2
theorem mvOn_self (m : Mv) : mvOn m.1 m = some (m.2.1, m.2.2) := by
  unfold mvOn
  rw [if_pos rfl]
theorem mvOn_great {m : Mv} (h : 97 ≤ m.1) : mvOn (m.1 - 32) m = some (m.2.2, m.2.1) := by
  unfold mvOn
  rw [if_neg (by omega), if_pos (by omega)]
theorem mvOn_other {m : Mv} {c : Nat} (h1 : c ≠ m.1) (h2 : c ≠ m.1 - 32) (h : 97 ≤ m.1) : mvOn c m = none := by
  unfold mvOn
  rw [if_neg (Ne.symm h1), if_neg (by omega)]
theorem LM_len (ms : List Mv) (c : Nat) : (LM ms c).length ≤ ms.length := List.length_filterMap_le ..
/-- where a word leads -/
def ledM (st : Nat → Int → Option Int) : List Nat → Int → Option Int
  | [], x => some x
  | c :: r, x => (st c x).bind (ledM st r)
theorem ledM_app (st : Nat → Int → Option Int) : ∀ (l r : List Nat) (x : Int), ledM st (l ++ r) x = (ledM st l x).bind (ledM st r)
  | [], r, x => rfl
  | c :: l, r, x => by
    show (st c x).bind (ledM st (l ++ r)) = ((st c x).bind (ledM st l)).bind (ledM st r)
    cases st c x with
    | none => rfl
    | some y => exact ledM_app st l r y
theorem ledM_snoc {st : Nat → Int → Option Int} {l : List Nat} {i c : Nat} {x : Int} (h : l[i]? = some c) : ledM st (l.take (i + 1)) x = (ledM st (l.take i) x).bind (st c) := by
  rw [take_snoc h, ledM_app]
  cases ledM st (l.take i) x with
  | none => rfl
  | some y =>
    show (st c y).bind (fun z => some z) = st c y
    cases st c y <;> rfl
theorem ledM_none {st : Nat → Int → Option Int} {l : List Nat} {i : Nat} {x : Int} (h : ledM st (l.take i) x = none) : ledM st l x = none := by
  have e := ledM_app st (l.take i) (l.drop i) x
  rw [List.take_append_drop, h] at e
  exact e
theorem one_inj {a b : Nat} (h : one a = one b) : a = b := by
  have h2 : tl (one a) = tl (one b) := by rw [h]
  exact (List.cons.inj h2).1
def stp (L : Nat → List (Int × Int)) (c : Nat) (x : Int) : Option Int := lk (L c) x
theorem val_sgs {f : Nat → V} {c : Nat} : ∀ {l : List Nat}, c ∈ l → valV (l.map fun c => ((Sum.inr (one c) : Key), f c)) (Sum.inr (one c)) = some (f c)
  | a :: r, h => by
    rw [List.map_cons]
    by_cases e : a = c
    · subst e
      exact valV_pos rfl
    · rw [valV_neg fun z => e (by
        have := Sum.inr.inj z
        have h2 : tl (one a) = tl (one c) := by rw [this]
        exact List.cons.inj h2 |>.1)]
      exact val_sgs ((List.mem_cons.mp h).resolve_left fun z => e z.symm)
theorem val_sgs_none {f : Nat → V} {c : Nat} : ∀ {l : List Nat}, c ∉ l → valV (l.map fun c => ((Sum.inr (one c) : Key), f c)) (Sum.inr (one c)) = none
  | [], _ => rfl
  | a :: r, h => by
    rw [List.map_cons, valV_neg fun z => h (by
        have := Sum.inr.inj z
        have h2 : tl (one a) = tl (one c) := by rw [this]
        rw [(List.cons.inj h2).1]
        exact List.mem_cons_self)]
    exact val_sgs_none fun z => h (List.mem_cons_of_mem _ z)
end Sf
namespace Sf
open PySem PySem.Spec PyProof.Rows L2 TL
/-! ### data: lists, tuples compared -/
section
variable {K : PySem.W.Frag} {H : Hp}
theorem lay_all {α : Type} {f : α → PyData} : ∀ {l : List α}, (∀ x ∈ l, PyData.canLay0 (f x) = true) → PyData.canLayAll0 (l.map f) = true
  | [], _ => rfl
  | x :: l, h => by
    rw [List.map_cons, PyData.canLayAll0, h x List.mem_cons_self, lay_all fun y hy => h y (List.mem_cons_of_mem _ hy)]
    rfl
theorem depth_all {α : Type} {f : α → PyData} {k : Nat} : ∀ {l : List α}, (∀ x ∈ l, (f x).depth ≤ k) → PyData.depthAll (l.map f) ≤ k
  | [], _ => Nat.zero_le _
  | x :: l, h => by
    rw [List.map_cons, PyData.depthAll]
    exact Nat.max_le.mpr ⟨h x List.mem_cons_self, depth_all fun y hy => h y (List.mem_cons_of_mem _ hy)⟩
theorem dp_map {α : Type} {f : α → PyData} {vs : List V} {l : List α} (h : Paired (fun v x => Dp K H v (f x)) vs l) : DpAll K H vs (l.map f) := by
  induction h with
  | nil => exact .nil
  | cons r _ ih => exact .cons r ih
theorem shaped_list {α : Type} {f : α → PyData} {l : List α} (h1 : ∀ x ∈ l, PyData.canLay0 (f x) = true) (h2 : ∀ x ∈ l, (f x).depth ≤ 60) : SeqAt.shaped (.list (l.map f)) = true := by
  unfold SeqAt.shaped
  rw [PyData.canLay0, lay_all h1, Bool.true_and, PyData.depth]
  have := depth_all h2
  exact decide_eq_true (by omega)
theorem strOk_wd {x : Str} (h : Wd x) : PyData.canLay0 (.str x) = true := by
  rw [PyData.canLay0]
  unfold PyData.strOk
  rw [Array.all_eq_true']
  intro c hc
  have := sgn_lt (h c (Array.mem_def.mp hc))
  exact decide_eq_true (by omega)
theorem eqv_nil {ds : List PyData} : PyData.eqv (.list ds) (.list []) = ds.isEmpty := by
  cases ds <;> simp [PyData.eqv, PyData.eqvAll]
/-- l != [] -/
theorem w_neNil {Q : VK} {p q : Addr} {ds : List PyData} {vs : List V} (h : H p = some (.lst vs)) (hd : DpAll K H vs ds) (hs : SeqAt.shaped (.list ds) = true) (hq : H q = some (.lst [])) (k : Q (.bl (!ds.isEmpty)) H) : rNeD K (.ref p) (.ref q) H Q :=
  ⟨_, _, .lst (SqL.of h) hd, .lst (SqL.of hq) .nil, hs, by decide +kernel, by rw [eqv_nil]; exact k⟩
theorem dpI : ∀ l : List Int, DpAll K H (l.map V.int) (l.map .int)
  | [] => .nil
  | _ :: l => .cons (.int _) (dpI l)
theorem shapedI (l : List Int) : SeqAt.shaped (.list (l.map .int)) = true := shaped_list (fun x _ => by rw [PyData.canLay0]) (fun x _ => by rw [PyData.depth]; omega)
theorem w_neNilI {Q : VK} {p q : Addr} {ns : List Int} (h : H p = some (.lst (ns.map V.int))) (hq : H q = some (.lst [])) (k : Q (.bl (!ns.isEmpty)) H) : rNeD K (.ref p) (.ref q) H Q :=
  w_neNil h (dpI ns) (shapedI ns) hq (by rw [List.isEmpty_map]; exact k)
/-- two lists of the same data -/
theorem w_neSame {Q : VK} {x y : V} {d : PyData} (h1 : Dp K H x d) (h2 : Dp K H y d) (hs : SeqAt.shaped d = true) (k : Q (.bl false) H) : rNeD K x y H Q :=
  ⟨d, d, h1, h2, hs, hs, by rw [SeqAt.eqv_refl d (SeqAt.canLay_of_shaped hs)]; exact k⟩
theorem w_eqSame {Q : VK} {x y : V} {d : PyData} (h1 : Dp K H x d) (h2 : Dp K H y d) (hs : SeqAt.shaped d = true) (k : Q (.bl true) H) : rEqD K x y H Q :=
  ⟨d, d, h1, h2, hs, hs, by rw [SeqAt.eqv_refl d (SeqAt.canLay_of_shaped hs)]; exact k⟩
end
end Sf
namespace Sf
open PySem PySem.Spec PyProof.Rows L2 TL
theorem passes_len {X : Cx} {W : WX} (n : Nat) (hn : X.N.length = n) (tk : Takes X W) : Passes (L2.CX X.prog X.w) X (fun cls d H => ∀ σ : L2.St, σ.length = n → W cls d σ H) := fun _ σ _ _ e s' I c => tk e s' (XE.of_call I (fun _ _ _ h => h σ (I.len.trans hn)) c)
section
variable {X : Cx} {CX : CXT} {k : Nat} {f C : Addr} {fd : FuncData} {ps : List Str} {sp : Sp} {E : XK} {x m : Str} {p pos apos : Pos} {e o : Expr} {es : List Expr} {te ta : TE} {t : TA} {mc : Value}
/-! ### C(), C an own exception whose __init__ is walked -/
theorem pmk_oex0 {fI : Addr} (T : OexC X.K C) (iC : PySem.W.findIn X.K (.ref C) "__init__" = some (some (.ref fI))) (tI : PySem.W.typeIn X.K (.ref fI) = some (.type "function"))
    (F1 : FnOk X.prog X.w X.K X.mg X.base CX k fI fd ps sp) (hr : Room (k + 1) X.A) (hb : Binds X.K fd ps []) (hx : Passes CX X (fun _ _ _ => False)) (hg : Gl X x) (hm : X.mg x = some (.ref C))
    (hdb : (x == ("__debug__" : Str)) = false := by decide) : PMk X (.Call (.Name x p) [] [] pos) (tMkO C sp [] tNil) := by
  intro pins s σ H Q I h
  obtain ⟨nm, q, N, bs, bm, sn, sub, ab, col, dd, k0, k1, k2, k3, k5, hC, hbm⟩ := T.cls
  refine wpAny_Call_Name_kw (ld_glob I hg hm ?_ hdb)
  refine PySem.W.callWith_K0 I.kIn T.kC ?_
  show wpAny _ _ (call (.ref C) []) _ _ _
  obtain ⟨hz, q1⟩ := h
  obtain ⟨hp, g, dr, tk, os⟩ := s
  have hsz : hp.objs.size ≤ hp.objs.size + 1 := Nat.le_succ _
  have hn : H (hp.objs.size + 1) = none := I.hok.fresh hsz
  have hq := q1 (hp.objs.size + 1) hn
  have kk : ∀ b o, hp.get? b = some o → ((hp.push (PySem.W.kdv_tup [])).push (PySem.HandSPX.excO C hp.objs.size)).get? b = some o := fun b o e => Heap.get?_push_of_some _ (Heap.get?_push_of_some _ e)
  have hget : ((hp.push (PySem.W.kdv_tup [])).push (PySem.HandSPX.excO C hp.objs.size)).get? (hp.objs.size + 1) = some (PySem.HandSPX.excO C hp.objs.size) := by heap_get
  have I2 : Inv X pins σ (upd H (hp.objs.size + 1) (exo (hp.objs.size + 1) C none)) ⟨(hp.push (PySem.W.kdv_tup [])).push (PySem.HandSPX.excO C hp.objs.size), g, dr, tk, os⟩ :=
    I.laid (t' := tk) (a := hp.objs.size + 1) (o := exo (hp.objs.size + 1) C none) (h' := (hp.push (PySem.W.kdv_tup [])).push (PySem.HandSPX.excO C hp.objs.size)) kk hsz (exo_ok hget)
  have r2 : Vals [V.ref (hp.objs.size + 1)] [Value.ref (hp.objs.size + 1)] := .cons rfl .nil
  have hl : [Value.ref (hp.objs.size + 1)].length = ps.length := by
    have e : [V.ref (hp.objs.size + 1)].length = ps.length := F1.len _ _ _ _ hq
    exact e
  refine wpAny_call (PySem.HandSPX.call_own F.excBase_ValueError (fun Y => PySem.HandSPX.refsVE_contains Y bm hbm) (I.kIn _ _ hC) (PySem.W.looks_findIn I.kIn iC) (fun self => PySem.W.bind_fn I.kIn self tI) (by decide)
    (codeAny_mono (F1.run _ X.stack _ _ ⟨[Value.ref (hp.objs.size + 1)], []⟩ [Value.ref (hp.objs.size + 1)] _ _ (fun _ _ _ => False) (hr.make C [] []) (I2.env0.make C [] []) (hb _ [Value.ref (hp.objs.size + 1)] I2.kIn hl) r2 hq) fun r s' hq' => ?_))
  cases r with
  | error er => exact hx pins σ _ _ er s' I2 hq'
  | ok fl =>
    cases fl with
    | ret u =>
      obtain ⟨v, H2, os2, bare2, un2, hok2, rv, ev, d, fs, ea, ed, hd1, q2⟩ := hq'
      subst ev
      obtain ⟨h2, g2, d2, t2, os'⟩ := s'
      exact ⟨rv, mk_end (raises_own T.exC T.tyC) I hsz kk un2 hok2 os2 bare2 ea ed hd1 q2⟩
    | next => exact False.elim hq'
    | brk => exact False.elim hq'
    | cont => exact False.elim hq'
/-! ### C.m(..), C an own class, m a def of it -/
def tClsFn (C : Addr) (sp : Sp) (E : XK) (ta : TE) (t : TA) : TE := fun σ H Q => ta σ H fun x H1 => x = .ref C ∧ t σ H1 fun vs H2 => sp vs H2 Q E
theorem pe_clsFn {pl : Sem Bool} (he : PE X o ta) (rd : PySem.W.readsIn X.K C mc = true) (ga : PySem.W.specialIn X.K (.ref C) "__getattribute__" = some (some (.builtin "type.__getattribute__"))) (at_ : PySem.W.findCls X.K (.ref C) mc m = some (.val (.ref f)))
    (F : FnOk X.prog X.w X.K X.mg X.base CX k f fd ps sp) (hr : Room k X.A) (kp : PySem.W.keepIn X.K (.ref f) = true) (hb : Binds X.K fd ps []) (hx : Passes CX X E) (ha : PA X (e :: es) t)
    (hst : starEach (e :: es) X.env = (false, eval e X.env) :: starEach es X.env := by rfl) (hpl : (backTo pos (starEach es X.env)).any (·.1) = false := by rfl)
    (ht : eval (.Call (.Attribute o m apos) (e :: es) [] pos) X.env = (do
      let ov ← eval o X.env
      standAt apos.atName
      let (f, first) ← holding [ov] (getMethod ov m pl)
      callWith pos f first (backTo pos (starEach (e :: es) X.env)) (backToKw pos (keywordEach [] X.env))) := by rfl) :
    PE X (.Call (.Attribute o m apos) (e :: es) [] pos) (tClsFn C sp E ta t) := by
  refine ⟨fun pins s σ H Q I h => ?_⟩
  refine PySem.W.methodCall_KW (pl := pl) (thn (he.run pins s σ H _ I h) fun u s1 ⟨x, H1, I1, rx, ex, q⟩ => ?_) ht
  subst ex
  obtain rfl : u = Value.ref C := rx
  refine PySem.W.method_cls I1.kIn ga (PySem.W.cls_value I1.kIn rd at_ rfl ?_)
  refine PySem.W.callWith_K (h₀ := X.base) I1.ok.mod.kin kp (thn (ha.run pos pins _ σ H1 _ (I1.tok _) q) fun us s3 ⟨vs, H2, I3, rv, q2⟩ => ⟨I3.kIn, ?_⟩) hst hpl
  exact run_fn F hr hb (dvs := []) .nil hx I3 rv (by rw [List.append_nil]; exact q2)
end
end Sf
namespace Sf
open PySem PySem.Spec PyProof.Rows L2 TL
/-! ### a def with defaults -/
structure FunD (K : PySem.W.Frag) (x qual : Str) (st : Stmt) (f : Addr) (fd : FuncData) : Prop where
  ex : ∃ (oc : Value) (od : Option Addr) (dV kV doc pm : Value) (an : Option Addr) (cdv ct : Value) (osl : Array (Option Value)),
    fd = PySem.W.fnOf x qual (defArgs st) (defBody st) (defScope st) dV kV doc pm an cdv ct ∧ K.lookup f = some ⟨oc, od, .func fd, osl⟩ ∧ PySem.W.codeIn K cdv qual = true
  kp : PySem.W.keepIn K (.ref f) = true
theorem FunD.ok {P : Program} {w : World} {K : PySem.W.Frag} {mg : Str → Option Value} {base : Heap} {x qual : Str} {st : Stmt} {f : Addr} {fd : FuncData} {N ps : List Str} {k : Nat} {sp : Sp} (F : FunD K x qual st f fd) (S : FnScope N ps (defScope st)) (len : ∀ vs H Q E, sp vs H Q E → vs.length = ps.length)
    (hbody : ∀ (cdv : Value) (A : Around) (outer : List Env) (s : Shared) (H : Hp) (vs : List V) (Q : VK) (E : XK), Room k (A.deeper (envOfC qual (defScope st) s.heap.objs.size f cdv)) → sp vs H Q E →
      ∃ t, PSs (cxOf CX0 P w K mg base N qual (defScope st) f cdv A outer s H E).nox (defBody st) t ∧ t { nx := fun _ H' => Q .non H', rt := Q } (start N vs) H) : FnOk P w K mg base CX0 (k + 1) f fd ps sp := by
  obtain ⟨oc, od, dV, kV, doc, pm, an, cdv, ct, osl, rfl, lk, hcd⟩ := F.ex
  refine fn_of lk hcd S len fun A outer s H vs Q E hr hsp => ?_
  obtain ⟨t, h, q⟩ := hbody cdv A outer s H vs Q E hr hsp
  exact ⟨t, h.nox, q⟩
def FbD (K : PySem.W.Frag) (x qual : Str) (st : Stmt) (f : Addr) (ps : List Str) : Prop := ∃ fd, FunD K x qual st f fd ∧ Binds K fd ps []
def Fb (K : PySem.W.Frag) (x qual : Str) (st : Stmt) (f : Addr) (ps : List Str) : Prop := ∃ fd, Fun K x qual st f fd ∧ Binds K fd ps []
theorem fbD_mk {K : PySem.W.Frag} {x qual : Str} {st : Stmt} {f T : Addr} {ps : List Str} {oc : Value} {od an : Option Addr} {osl : Array (Option Value)} {kV doc pm cdv ct : Value} (l : K.lookup f = some ⟨oc, od, .func (PySem.W.fnOf x qual (defArgs st) (defBody st) (defScope st) (.ref T) kV doc pm an cdv ct), osl⟩)
    (c : PySem.W.codeIn K cdv qual = true) (k : PySem.W.keepIn K (.ref f) = true)
    (b : ∀ (kV doc pm : Value) (an : Option Addr) (cdv ct : Value) (s : Shared) (us : List Value), K.In s.heap → us.length = ps.length → BindsTo s (PySem.W.fnOf x qual (defArgs st) (defBody st) (defScope st) (.ref T) kV doc pm an cdv ct) ⟨us, []⟩ (ps.zip us)) : FbD K x qual st f ps :=
  ⟨_, ⟨⟨oc, od, .ref T, kV, doc, pm, an, cdv, ct, osl, rfl, l, c⟩, k⟩, fun s us X hl => by
    rw [List.append_nil] at hl ⊢
    exact b kV doc pm an cdv ct s us X hl⟩
theorem se_binds {K : PySem.W.Frag} {T : Addr} {o : Obj} {v1 v2 : Value} {n : Nat} (ho : K.lookup T = some o) (hs : o.data = .seq #[v1, v2] n) (kV doc pm : Value) (an : Option Addr) (cdv ct : Value) (s : Shared) (us : List Value) (X : K.In s.heap) (hl : us.length = 3) :
    BindsTo s (PySem.W.fnOf "__init__" "SpoorError.__init__" (defArgs s_SpoorError___init__) (defBody s_SpoorError___init__) (defScope s_SpoorError___init__) (.ref T) kV doc pm an cdv ct) ⟨us, []⟩ ((["self", "word", "message"] : List Str).zip us) := by
  match us, hl with
  | [_, _, _], _ => exact PySem.W.binds_K X rfl ho hs rfl rfl
theorem fb_mk {K : PySem.W.Frag} {x qual : Str} {st : Stmt} {f : Addr} {ps : List Str} {oc : Value} {od an : Option Addr} {osl : Array (Option Value)} {kV doc pm cdv ct : Value} (l : K.lookup f = some ⟨oc, od, .func (PySem.W.fnOf x qual (defArgs st) (defBody st) (defScope st) .none kV doc pm an cdv ct), osl⟩)
    (c : PySem.W.codeIn K cdv qual = true) (k : PySem.W.keepIn K (.ref f) = true) (b : ∀ (kV doc pm : Value) (an : Option Addr) (cdv ct : Value) (us : List Value), us.length = ps.length → bindArgs (PySem.W.fnOf x qual (defArgs st) (defBody st) (defScope st) .none kV doc pm an cdv ct) ⟨us, []⟩ = pure (ps.zip us)) : Fb K x qual st f ps :=
  ⟨_, fun_mk l c k, (fun_mk l c k).binds b⟩
theorem exm_self {K : PySem.W.Frag} {C : Addr} (h0 : PySem.W.subIn K (.ref C) (.type "BaseException") = some true) (h1 : PySem.W.isClsIn K C = true) (h2 : PySem.W.typeIn K (.ref C) = some (.type "type")) (h3 : PySem.W.subIn K (.ref C) (.ref C) = some true) : PySem.W.exmOne K (.ref C) (.ref C) = some true := by
  unfold PySem.W.exmOne
  rw [if_pos (by rw [h0]; rfl)]
  unfold PySem.W.isClsIn at h1
  unfold PySem.W.kitCls
  dsimp only
  rw [h1, h2, if_pos (by simp), h3]
/-! ### the refusals -/
/-- an own refusal, the class at C, its __init__ at f -/
structure EC (K : PySem.W.Frag) (mg : Str → Option Value) (nm : Str) (C f : Addr) : Prop where
  ox : OexC K C
  iC : PySem.W.findIn K (.ref C) "__init__" = some (some (.ref f))
  tI : PySem.W.typeIn K (.ref f) = some (.type "function")
  gC : mg nm = some (.ref C)
  xf : XfC K C
  nw : PySem.W.findIn K (.ref C) "word" = some none
  te : PySem.W.exmOne K (.ref C) (.ref C) = some true
theorem oex_mk {K : PySem.W.Frag} {C : Addr} {nm q : Str} {N : Addr} {bs bm : List Value} {sn : List Str} {sub : List Value} {ab : Bool} {col : Option Bool} {dd : Option Addr} {k0 k1 k2 k3 k5 : Option Value}
    (lk : K.lookup C = some (excClassObj nm q C N bs bm true sn sub ab col dd k0 k1 k2 k3 k5 "ValueError.__new__")) (rv : PySem.HandSPX.refsVE bm = true) (sa : PySem.W.findIn K (.ref C) "__setattr__" = some (some (.builtin "object.__setattr__"))) (ex : PySem.W.subIn K (.ref C) (.type "BaseException") = some true)
    (ty : PySem.W.typeIn K (.ref C) = some (.type "type")) (kC : PySem.W.keepIn K (.ref C) = true) : OexC K C := ⟨⟨nm, q, N, bs, bm, sn, sub, ab, col, dd, k0, k1, k2, k3, k5, lk, rv⟩, sa, ex, ty, kC⟩
/-- SpoorError itself -/
structure SE (K : PySem.W.Frag) (mg : Str → Option Value) (C f : Addr) : Prop where
  gC : mg "SpoorError" = some (.ref C)
  rd : PySem.W.readsIn K C (.type "type") = true
  ga : PySem.W.specialIn K (.ref C) "__getattribute__" = some (some (.builtin "type.__getattribute__"))
  at_ : PySem.W.findCls K (.ref C) (.type "type") "__init__" = some (.val (.ref f))
  vV : PySem.W.findCls K (.type "ValueError") (.type "type") "__init__" = some (.val (.builtin "ValueError.__init__"))
  mV : mg "ValueError" = none
section
variable {P : Program} {w : World} {K : PySem.W.Frag} {mg : Str → Option Value} {base : Heap} {C CS fS : Addr}
def spSE (K : PySem.W.Frag) : Sp := fun vs H Q _ => ∃ (a C : Addr) (z m : Str), vs = [.ref a, .str z, .str m] ∧ OexC K C ∧ PySem.W.findIn K (.ref C) "word" = some none ∧ H a = some (exo a C none) ∧
  ∀ dx, H dx = none → dx ≠ a → Q .non (upd (upd H dx (exd dx [(("word" : Str), .str z)])) a (exo a C (some dx)))
theorem sc_se : FnScope ["self", "word", "message"] ["self", "word", "message"] (defScope s_SpoorError___init__) := ⟨rfl, rfl, rfl, by decide +kernel, rfl, by decide +kernel, by decide +kernel⟩
theorem ok_se {f : Addr} {fd : FuncData} {j : Nat} (F : FunD K "__init__" "SpoorError.__init__" s_SpoorError___init__ f fd) (S : SE K mg CS fS) : FnOk P w K mg base CX0 (j + 1) f fd ["self", "word", "message"] (spSE K) := by
  refine F.ok sc_se (fun vs H Q E h => ?_) (fun cdv A outer s H vs Q E hr h => ?_)
  · obtain ⟨a, C, z, m, rfl, _⟩ := h
    rfl
  · obtain ⟨a, C, z, m, rfl, ox, nw, ha, q⟩ := h
    refine ⟨_, pss_cons (ps_expr (pe_veinit (by rfl) S.mV S.vV (pa_cons (pv 0) (pa_cons (pv 2) pa_nil)))) (pss_one (ps_ost (pv 0) (pv 1))), ?_⟩
    refine ⟨_, rfl, _, rfl, a, C, _, rfl, (by show 1 ≤ 1000; decide), ox, ha, ?_⟩
    exact ⟨_, rfl, _, rfl, a, C, rfl, ox, nw, .inl ⟨ha, fun dx n ne => q dx n ne⟩⟩
/-- X.__init__(self): the word of X -/
def spEx (K : PySem.W.Frag) (z : Str) : Sp := fun vs H Q _ => ∃ (a C : Addr), vs = [.ref a] ∧ OexC K C ∧ PySem.W.findIn K (.ref C) "word" = some none ∧ H a = some (exo a C none) ∧
  ∀ dx, H dx = none → dx ≠ a → Q .non (upd (upd H dx (exd dx [(("word" : Str), .str z)])) a (exo a C (some dx)))
theorem w_mkO {H : Hp} {σ : L2.St} {W : XK} {z nm : Str} {f : Addr} (T : EC K mg nm C f) (k : ∀ (d : Addr) (H' : Hp), H d = none → H' d = some (.xd [(("word" : Str), .str z)]) → Same H H' → W (.ref C) (some d) H') : tMkO C (spEx K z) [] tNil σ H W := by
  refine ⟨by show 0 ≤ 1000; decide, fun a na => ⟨a, C, rfl, T.ox, T.nw, upd_same, fun dx n ne => ⟨rfl, dx, _, upd_same, ?_, ?_, k dx _ ?_ upd_same fun b o e => ?_⟩⟩⟩
  · rw [upd_ne ne, upd_same]
  · rw [upd_ne ne] at n
    exact n
  · rw [upd_ne ne] at n
    exact n
  · rw [upd_ne ne] at n
    rw [upd_ne (ne_of_none e n), del_ne (ne_of_none e na), upd_ne (ne_of_none e na), upd_ne (ne_of_none e n), upd_ne (ne_of_none e na)]
    exact e
end
end Sf
namespace Sf
open PySem PySem.Spec PyProof.Rows L2 TL
/-! ### own refusals under LookupError -/
abbrev leT : List Value := [.type "LookupError", .type "Exception", .type "BaseException", .type "object"]
structure OexL (K : PySem.W.Frag) (C : Addr) : Prop where
  ini : PySem.W.excInitIn K C leT "LookupError.__new__" = true
  ovr : PySem.W.excOver K C leT = true
  dct : PySem.W.hasDictIn K C = true
  sa : PySem.W.findIn K (.ref C) "__setattr__" = some (some (.builtin "object.__setattr__"))
  exC : PySem.W.subIn K (.ref C) (.type "BaseException") = some true
  tyC : PySem.W.typeIn K (.ref C) = some (.type "type")
  kC : PySem.W.keepIn K (.ref C) = true
theorem taker_no {K : PySem.W.Frag} {C : Addr} {f : Str} (h : PySem.W.findIn K (.ref C) f = some none) : PySem.W.takerIn K C f = some none := by
  unfold PySem.W.takerIn
  rw [h]
  rfl
section
variable {X : Cx} {pins : List (Addr × Obj)} {σ : L2.St} {H : Hp} {s : Shared} {a C dx : Addr} {f : Str} {y : V} {u : Value} {fs : List (Str × V)} {Q : Unit → Shared → Prop} {E : Value → Shared → Prop} {A : Around}
theorem lst_new (T : OexL X.K C) (I : Inv X pins σ H s) (e : H a = some (exo a C none)) (hno : PySem.W.findIn X.K (.ref C) f = some none) (ry : RelV y u)
    (h : ∀ dx s', H dx = none → dx ≠ a → Inv X pins σ (upd (upd H dx (exd dx [(f, y)])) a (exo a C (some dx))) s' → Q () s') : wpAny (model X.prog X.w) A (setAttr (.ref a) f u) Q E s := by
  obtain ⟨t1, ho⟩ := exo_at I.hok e
  obtain ⟨cd, hc, hd⟩ := PySem.W.any_some T.dct
  obtain ⟨hp, g, d, t, os⟩ := s
  have na : a < hp.objs.size := Heap.lt_size ho
  have nd : H hp.objs.size = none := I.hok.fresh (Nat.le_refl _)
  have ne : hp.objs.size ≠ a := Nat.ne_of_gt na
  refine PySem.W.set_plain I.kIn (ox := PySem.W.excObj C t1 none .none) (od := none) ⟨ho, rfl, rfl, trivial⟩ T.sa ?_
  refine PySem.W.osa_openX (od := none) PySem.F.store_LookupError I.kIn ⟨ho, rfl, rfl, trivial⟩ T.ovr (taker_no hno) fun b => ?_
  refine wpAny_bind (wpAny_pure (wpAny_bind (PySem.W.instanceDict_exc (t := t1) (c2 := .none) ho (PySem.W.looks_clsIn I.kIn hc) hd ?_)))
  show wpAny _ _ (PySem.Builtin.ObjectAttr.storeInDict hp.objs.size _ _ _) _ _ _
  have k1 : ∀ b o, hp.get? b = some o → (hp.push (PySem.W.dictOf [] 0)).get? b = some o := fun b o z => Heap.get?_push_of_some _ z
  have hD0 : (hp.push (PySem.W.dictOf [] 0)).get? hp.objs.size = some (PySem.W.dictOf [] 0) := Heap.get?_push_at rfl rfl
  have hN0 : (hp.push (PySem.W.dictOf [] 0)).Ns hp.objs.size (fun _ => none) := ⟨_, #[], _, hD0, rfl, fun e he => absurd he (by simp), fun _ => rfl⟩
  have I1 : Inv X pins σ (upd H hp.objs.size (exd hp.objs.size [])) ⟨hp.push (PySem.W.dictOf [] 0), g, d, t, os⟩ := I.laid (t' := t) (a := hp.objs.size) (o := exd hp.objs.size []) k1 (Nat.le_refl _) (exd_ok (Heap.Ns1.of_empty hN0) fun _ => True.intro)
  have hx1 : ((hp.push (PySem.W.dictOf [] 0)).update a fun o => { o with dict := some hp.objs.size }).get? a = some (PySem.W.excObj C t1 (some hp.objs.size) .none) := Heap.get?_update_self _ (k1 _ _ ho) rfl
  have ko : ∀ b u, b ≠ a → (hp.push (PySem.W.dictOf [] 0)).get? b = some u → ((hp.push (PySem.W.dictOf [] 0)).update a fun o => { o with dict := some hp.objs.size }).get? b = some u := fun b u hb z => (Heap.get?_update_ne _ _ _ _ hb).trans z
  have I2 := I1.write (t' := t) (x := a) (e := a) (o := exo a C (some hp.objs.size)) (by rw [upd_ne (Ne.symm ne), e]; exact True.intro) (.inl rfl) ko ⟨_, hx1⟩ (exo_ok hx1)
  have hN1 : ((hp.push (PySem.W.dictOf [] 0)).update a fun o => { o with dict := some hp.objs.size }).Ns hp.objs.size (fun _ => none) := ⟨_, #[], _, ko _ _ ne hD0, rfl, fun e he => absurd he (by simp), fun _ => rfl⟩
  refine PySem.HandSPX.store_in_new hN1 fun h' tk' hn hs => ?_
  have hd' : ∃ o, h'.get? hp.objs.size = some o := by
    obtain ⟨o, _, _, e', _⟩ := hn
    exact ⟨o, e'⟩
  have I3 := I2.write (t' := tk') (x := hp.objs.size) (e := hp.objs.size) (o := exd hp.objs.size [(f, y)]) (by rw [upd_ne ne, upd_same]; exact True.intro) (.inl rfl) (fun b u hb z => (hs.2 b hb).trans z) hd' (exd_ok hn (relO_put (fs := []) (mA := fun _ => none) ry fun g => True.intro))
  refine h hp.objs.size _ nd ne ?_
  have ee : upd (upd (upd H hp.objs.size (exd hp.objs.size [])) a (exo a C (some hp.objs.size))) hp.objs.size (exd hp.objs.size [(f, y)]) = upd (upd H hp.objs.size (exd hp.objs.size [(f, y)])) a (exo a C (some hp.objs.size)) := by
    funext b
    by_cases h1 : b = a
    · subst h1
      rw [upd_ne (Ne.symm ne), upd_same, upd_same]
    · by_cases h2 : b = hp.objs.size
      · subst h2
        rw [upd_same, upd_ne h1, upd_same]
      · rw [upd_ne h2, upd_ne h1, upd_ne h2, upd_ne h1, upd_ne h2]
  rw [ee] at I3
  exact I3
theorem lst_old (T : OexL X.K C) (I : Inv X pins σ H s) (e : H a = some (exo a C (some dx))) (ed : H dx = some (exd dx fs)) (hl : fs.length ≤ 900) (hno : PySem.W.findIn X.K (.ref C) f = some none) (ry : RelV y u)
    (h : ∀ s', Inv X pins σ (upd H dx (exd dx ((f, y) :: fs))) s' → Q () s') : wpAny (model X.prog X.w) A (setAttr (.ref a) f u) Q E s := by
  obtain ⟨t1, ho⟩ := exo_at I.hok e
  obtain ⟨mA, hns, rel⟩ := exd_at I.hok ed
  obtain ⟨cd, hc, hd⟩ := PySem.W.any_some T.dct
  have hw := within_of rel
  obtain ⟨hp, g, d, t, os⟩ := s
  obtain ⟨oD, _, _, hoD, _, _⟩ := hns.count hw
  refine PySem.W.set_plain I.kIn (ox := PySem.W.excObj C t1 (some dx) .none) (od := some oD) ⟨ho, rfl, rfl, hoD⟩ T.sa ?_
  refine PySem.W.osa_openX (od := some oD) PySem.F.store_LookupError I.kIn ⟨ho, rfl, rfl, hoD⟩ T.ovr (taker_no hno) fun b => ?_
  refine wpAny_bind (wpAny_pure (wpAny_bind (wpAny_bind (wpAny_loadPart ho (wpAny_bind ((PySem.W.looks_clsIn I.kIn hc).at ?_))))))
  rw [hd]
  refine wpAny_pure (a := some dx) ?_
  refine PySem.OEX.store_in_old hns hw (by rw [List.length_map]; omega) fun h' tk' hn hs => ?_
  have hd' : ∃ o, h'.get? dx = some o := by
    obtain ⟨o, _, _, e', _⟩ := hn
    exact ⟨o, e'⟩
  exact h _ (I.write (t' := tk') (x := dx) (e := dx) (o := exd dx ((f, y) :: fs)) (by rw [ed]; exact True.intro) (.inl rfl) (fun b u hb z => (hs.2 b hb).trans z) hd' (exd_ok hn (relO_put ry rel)))
theorem linit_ok {us : List Value} {Q : Value → Shared → Prop} (T : OexL X.K C) (I : Inv X pins σ H s) (e : H a = some (exo a C none)) (hl : us.length ≤ sizeLine) (h : ∀ s', Inv X pins σ H s' → Q .none s') :
    wpAny (model X.prog X.w) A (call (.builtin "LookupError.__init__") (.ref a :: us)) Q E s := by
  obtain ⟨nm, N', qn, bs, bm, hdct, sn, sub, ab, col, dd, k0, k1, k2, k3, k5, hC, hT⟩ := PySem.W.excInit_of I.kIn T.ini
  obtain ⟨t1, ho⟩ := exo_at I.hok e
  obtain ⟨hp, g, d, t, os⟩ := s
  refine wpAny_call (PySem.HandSPX.init_base PySem.F.excBase_LookupError hT hC ho hl fun h' t2 k hx => ?_)
  have J := I.write (t' := t) (x := a) (e := a) (o := exo a C none) (by rw [e]; exact True.intro) (.inl rfl) k ⟨_, hx⟩ (exo_ok hx)
  have eu : upd H a (exo a C none) = H := funext fun b => by
    by_cases hb : b = a
    · rw [hb, upd_same, e]
    · rw [upd_ne hb]
  rw [eu] at J
  exact h _ J
end
/-- LookupError.__init__(self, ..) -/
def tLeI (K : PySem.W.Frag) (ta : TA) : TE := fun σ H Q => ta σ H fun vs H1 => ∃ (a C : Addr) (ws : List V), vs = .ref a :: ws ∧ ws.length ≤ 1000 ∧ OexL K C ∧ H1 a = some (exo a C none) ∧ Q .non H1
/-- self.f = e -/
def tLst (K : PySem.W.Frag) (f : Str) (to te : TE) : TS := fun D σ H => te σ H fun y H1 => to σ H1 fun x H2 => ∃ a C : Addr, x = .ref a ∧ OexL K C ∧ PySem.W.findIn K (.ref C) f = some none ∧
  ((H2 a = some (exo a C none) ∧ ∀ dx, H2 dx = none → dx ≠ a → D.nx σ (upd (upd H2 dx (exd dx [(f, y)])) a (exo a C (some dx)))) ∨
    ∃ (dx : Addr) (fs : List (Str × V)), H2 a = some (exo a C (some dx)) ∧ H2 dx = some (exd dx fs) ∧ fs.length ≤ 900 ∧ D.nx σ (upd H2 dx (exd dx ((f, y) :: fs))))
theorem typ_LE : typeOf (.type "LookupError") = pure (.type "type") := by kernel_rfl
section
variable {X : Cx} {o e : Expr} {es : List Expr} {to te : TE} {ta : TA} {f : Str} {p p' p1 p2 pos : Pos}
theorem pe_leinit {pl : Sem Bool} (hg : Gl X "LookupError") (hm : X.mg "LookupError" = none) (vV : PySem.W.findCls X.K (.type "LookupError") (.type "type") "__init__" = some (.val (.builtin "LookupError.__init__"))) (ha : PA X (e :: es) ta)
    (hc : eval (.Call (.Attribute (.Name "LookupError" p1) "__init__" p2) (e :: es) [] pos) X.env = (do
      let ov ← eval (.Name "LookupError" p1) X.env
      standAt p2.atName
      let (f, first) ← holding [ov] (getMethod ov "__init__" pl)
      callWith pos f first (backTo pos (starEach (e :: es) X.env)) (backToKw pos (keywordEach [] X.env))) := by rfl)
    (he : starEach (e :: es) X.env = (false, eval e X.env) :: starEach es X.env := by rfl) (hpl : (backTo pos (starEach es X.env)).any (·.1) = false := by rfl) :
    PE X (.Call (.Attribute (.Name "LookupError" p1) "__init__" p2) (e :: es) [] pos) (tLeI X.K ta) := by
  refine ⟨fun pins s σ H Q I h => ?_⟩
  refine PySem.W.methodCall_KW (ld_blt I hg hm PyProof.Rows.Boot.«LookupError» ?_ (by decide) (by decide)) hc
  obtain ⟨m, fr⟩ := I.fr
  refine PySem.W.method_type fr I.ok.mod.kin typ_LE (by decide +kernel) vV (by decide +kernel) ?_
  show wpAny _ _ (callWith pos (Value.builtin "LookupError.__init__") [] (backTo pos (starEach (e :: es) X.env)) []) _ _ _
  refine PyProof.Rows.callWith_method1 (thn (ha.run pos pins _ σ H _ (I.tok _) h) fun us s1 ⟨vs, H1, I1, r1, a, C, ws, ev, hl, T, ea, q⟩ => ?_) he hpl
  subst ev
  cases r1 with
  | @cons _ u0 _ ur ra rw' =>
    obtain rfl : u0 = Value.ref a := ra
    have hlen : ur.length ≤ sizeLine := by
      rw [← Paired.length rw', sizeLine_eq]
      omega
    exact linit_ok T I1 ea hlen fun s' J => ⟨.non, H1, J, rfl, q⟩
theorem ps_lst (ho : PE X o to) (he : PE X e te) (hs : swapsWith e (some (.Attribute o f p')) pos.line X.env = pure false := by rfl) : PS X (.Assign [.Attribute o f p'] e pos) (tLst X.K f to te) := by
  refine ⟨fun pins s σ H D I h => ?_⟩
  refine plainObj_wpAny_Assign_Attribute (thn (he.run pins s σ H _ I h) fun v s1 ⟨y, H1, I1, r1, q1⟩ => thn (ho.run pins s1 σ H1 _ I1 q1) fun u s2 ⟨x, H2, I2, r2, a, C, ex, T, hno, q⟩ => ?_) hs
  subst ex
  obtain rfl : u = Value.ref a := r2
  rcases q with ⟨ea, q⟩ | ⟨dx, fs, ea, ed, hl, q⟩
  · exact lst_new T I2 ea hno r1 fun dx s' n ne J => ⟨σ, _, J, q dx n ne⟩
  · exact lst_old T I2 ea ed hl hno r1 fun s' J => ⟨σ, _, J, q⟩
theorem pmk_oexL {CX : CXT} {x : Str} {C fI : Addr} {k : Nat} {fd : FuncData} {ps : List Str} {sp : Sp} (T : OexL X.K C) (iC : PySem.W.findIn X.K (.ref C) "__init__" = some (some (.ref fI))) (tI : PySem.W.typeIn X.K (.ref fI) = some (.type "function"))
    (F1 : FnOk X.prog X.w X.K X.mg X.base CX k fI fd ps sp) (hr : Room (k + 1) X.A) (hb : Binds X.K fd ps []) (hx : Passes CX X (fun _ _ _ => False)) (hg : Gl X x) (hm : X.mg x = some (.ref C)) (ha : PA X (e :: es) ta)
    (hdb : (x == ("__debug__" : Str)) = false := by decide) (he : starEach (e :: es) X.env = (false, eval e X.env) :: starEach es X.env := by rfl) (hpl : (backTo pos (starEach es X.env)).any (·.1) = false := by rfl) :
    PMk X (.Call (.Name x p) (e :: es) [] pos) (tMkO C sp [] ta) := by
  intro pins s σ H Q I h
  refine wpAny_Call_Name_kw (ld_glob I hg hm ?_ hdb)
  refine PySem.W.callWith_K (h₀ := X.base) I.ok.mod.kin T.kC (thn (ha.run pos pins s σ H _ I h) fun us s1 ⟨vs, H1, I1, r1, hz, q1⟩ => ⟨I1.kIn, ?_⟩) he hpl
  show wpAny _ _ (call (.ref C) us) _ _ _
  obtain ⟨nm, N', qn, bs, bm, hdct, sn, sub, ab, col, dd, k0, k1, k2, k3, k5, hC, hT⟩ := PySem.W.excInit_of I1.kIn T.ini
  obtain ⟨hp, g, dr, tk, os⟩ := s1
  have hn : H1 (hp.objs.size + 1) = none := I1.hok.fresh (Nat.le_succ _)
  have hq := q1 (hp.objs.size + 1) hn
  have kk : ∀ b o, hp.get? b = some o → ((hp.push (PySem.W.kdv_tup us)).push (PySem.HandSPX.excO C hp.objs.size)).get? b = some o := fun b o z => Heap.get?_push_of_some _ (Heap.get?_push_of_some _ z)
  have hget : ((hp.push (PySem.W.kdv_tup us)).push (PySem.HandSPX.excO C hp.objs.size)).get? (hp.objs.size + 1) = some (PySem.HandSPX.excO C hp.objs.size) := by heap_get
  have I2 : Inv X pins σ (upd H1 (hp.objs.size + 1) (exo (hp.objs.size + 1) C none)) ⟨(hp.push (PySem.W.kdv_tup us)).push (PySem.HandSPX.excO C hp.objs.size), g, dr, tk, os⟩ :=
    I1.laid (t' := tk) (a := hp.objs.size + 1) (o := exo (hp.objs.size + 1) C none) kk (Nat.le_succ _) (exo_ok hget)
  have r2 : Vals (V.ref (hp.objs.size + 1) :: (vs ++ [])) (Value.ref (hp.objs.size + 1) :: us) := by
    rw [List.append_nil]
    exact .cons rfl r1
  have hl : (Value.ref (hp.objs.size + 1) :: us ++ []).length = ps.length := by
    rw [List.append_nil]
    have z := r2.length
    rw [F1.len _ _ _ _ hq] at z
    exact z.symm
  have hus : us.length ≤ sizeLine := by
    rw [← Paired.length r1, sizeLine_eq]
    omega
  have bb := hb _ (Value.ref (hp.objs.size + 1) :: us) I2.kIn hl
  rw [List.append_nil] at bb
  refine wpAny_call (PySem.HandSPX.call_own PySem.F.excBase_LookupError hT hC (PySem.W.looks_findIn I1.kIn iC) (fun self => PySem.W.bind_fn I1.kIn self tI) hus
    (codeAny_mono (F1.run _ X.stack _ _ ⟨Value.ref (hp.objs.size + 1) :: us, []⟩ (Value.ref (hp.objs.size + 1) :: us) _ _ (fun _ _ _ => False) (hr.make C us []) (I2.env0.make C us []) bb r2 hq) fun r s' hq' => ?_))
  match r, hq' with
  | .error er, hq' => exact hx pins σ _ _ er s' I2 hq'
  | .ok (.ret u), hq' =>
    obtain ⟨v, H2, os2, bare2, un2, hok2, rv, ev, d, fs, ea, ed, hd1, q2⟩ := hq'
    subst ev
    obtain ⟨h2, g2, d2, t2, os'⟩ := s'
    exact ⟨rv, mk_end (raises_own T.exC T.tyC) I1 (Nat.le_succ _) kk un2 hok2 os2 bare2 ea ed hd1 q2⟩
  | .ok .next, hq' => exact False.elim hq'
  | .ok .brk, hq' => exact False.elim hq'
  | .ok .cont, hq' => exact False.elim hq'
end
/-! ### isinstance of a caught refusal that has a dict -/
def rIsX (K : PySem.W.Frag) (D a : Addr) (cls : Value) (d : Option Addr) : List V → Hp → VK → Prop := fun xs H Q => ∃ (c : V) (cv : Value) (b : Bool) (dd : Addr) (fs : List (Str × V)), cls = .ref D ∧ d = some dd ∧ xs = [.ref a, c] ∧ (∀ u, RelV c u → u = cv) ∧ H dd = some (.xd fs) ∧ PySem.W.kitOne K (.ref D) cv = some b ∧ Q (.bl b) H
theorem call_isX {X : Cx} {a D : Addr} {cls : Value} {d : Option Addr} {oe : Obj} {pn : List (Addr × Obj)} (C : L2.ExcC X.K D) (hz : Zc cls d oe) (hf : ∃ vs, oe.data = .fields vs) : CallR (X.suite a ((a, oe) :: pn)) (.builtin "isinstance") (rIsX X.K D a cls d) := by
  intro pins s σ H xs us Q I r h
  obtain ⟨c, cv, b, dd, fs, rfl, rfl, rfl, hcv, ed, e, q⟩ := h
  match us, r with
  | [_, _], .cons rx (.cons rt .nil) =>
    cases rx
    have ec := hcv _ rt
    subst ec
    obtain ⟨hget, _⟩ := I.pin (a, oe) (List.mem_append_left _ List.mem_cons_self)
    obtain ⟨vs, hv⟩ := hf
    have hx : ObjOk X.prog X.w H s.heap dd (.xd fs) := I.hok dd _ ed
    obtain ⟨mA, hns, hr⟩ := hx
    obtain ⟨od, ho, hl⟩ := lookIn_ns hns
    have J : PySem.W.InstAt s.heap a oe D (some od) := ⟨hget, hz.1, by unfold PySem.W.notCls; rw [hv] <;> rfl, by rw [hz.2]; exact ho⟩
    have hcl : (PySem.W.clsIn X.K D).isSome = true := by
      obtain ⟨cd, hc, _⟩ := PySem.W.any_some C.hd
      rw [hc]
      rfl
    exact PySem.W.kia_one (PySem.W.kitx_exc hcl C.hg C.hk C.hs C.ha C.hn C.ht C.hm) I.kIn J e (fun z => nomatch z) fun tk => ⟨.bl b, H, I.kept (t' := tk) fun _ _ z => z, rfl, q⟩
theorem kit_ref {K : PySem.W.Frag} {C D : Addr} {b : Bool} (h0 : (D == C) = false) (h1 : PySem.W.isClsIn K C = true) (h2 : PySem.W.typeIn K (.ref C) = some (.type "type")) (h3 : PySem.W.subIn K (.ref D) (.ref C) = some b) : PySem.W.kitOne K (.ref D) (.ref C) = some b := by
  unfold PySem.W.isClsIn at h1
  unfold PySem.W.kitOne
  rw [if_neg (by intro e; have z := Value.ref.inj (eq_of_beq e); subst z; rw [beq_self_eq_true] at h0; cases h0)]
  unfold PySem.W.kitCls
  dsimp only
  rw [h1, h2, if_pos (by simp), h3]
theorem kit_bty {K : PySem.W.Frag} {D : Addr} {T : String} {b : Bool} (h1 : PySem.W.kitMeta T = true) (h3 : PySem.W.subIn K (.ref D) (.type T) = some b) : PySem.W.kitOne K (.ref D) (.type T) = some b := by
  unfold PySem.W.kitOne
  rw [if_neg (by intro e; have z := eq_of_beq e; cases z)]
  unfold PySem.W.kitCls
  dsimp only
  rw [if_pos h1, h3]
/-! ### the refusals that say what is not there -/
/-- an own refusal under LookupError, the class at C, its __init__ at f -/
structure EL (K : PySem.W.Frag) (mg : Str → Option Value) (nm : Str) (C f : Addr) : Prop where
  ox : OexL K C
  iC : PySem.W.findIn K (.ref C) "__init__" = some (some (.ref f))
  tI : PySem.W.typeIn K (.ref f) = some (.type "function")
  gC : mg nm = some (.ref C)
  xf : XfC K C
  nw : PySem.W.findIn K (.ref C) "word" = some none
  te : PySem.W.exmOne K (.ref C) (.ref C) = some true
/-- Lacking itself -/
structure LE (K : PySem.W.Frag) (mg : Str → Option Value) (C f : Addr) : Prop where
  gC : mg "Lacking" = some (.ref C)
  rd : PySem.W.readsIn K C (.type "type") = true
  ga : PySem.W.specialIn K (.ref C) "__getattribute__" = some (some (.builtin "type.__getattribute__"))
  at_ : PySem.W.findCls K (.ref C) (.type "type") "__init__" = some (.val (.ref f))
  vV : PySem.W.findCls K (.type "LookupError") (.type "type") "__init__" = some (.val (.builtin "LookupError.__init__"))
  mV : mg "LookupError" = none
section
variable {P : Program} {w : World} {K : PySem.W.Frag} {mg : Str → Option Value} {base : Heap} {C CS fS : Addr}
def spLE (K : PySem.W.Frag) : Sp := fun vs H Q _ => ∃ (a C : Addr) (z m : Str), vs = [.ref a, .str z, .str m] ∧ OexL K C ∧ PySem.W.findIn K (.ref C) "word" = some none ∧ H a = some (exo a C none) ∧
  ∀ dx, H dx = none → dx ≠ a → Q .non (upd (upd H dx (exd dx [(("word" : Str), .str z)])) a (exo a C (some dx)))
theorem sc_le : FnScope ["self", "word", "message"] ["self", "word", "message"] (defScope s_Lacking___init__) := ⟨rfl, rfl, rfl, by decide +kernel, rfl, by decide +kernel, by decide +kernel⟩
theorem ok_le {f : Addr} {fd : FuncData} {j : Nat} (F : FunD K "__init__" "Lacking.__init__" s_Lacking___init__ f fd) (S : LE K mg CS fS) : FnOk P w K mg base CX0 (j + 1) f fd ["self", "word", "message"] (spLE K) := by
  refine F.ok sc_le (fun vs H Q E h => ?_) (fun cdv A outer s H vs Q E hr h => ?_)
  · obtain ⟨a, C, z, m, rfl, _⟩ := h
    rfl
  · obtain ⟨a, C, z, m, rfl, ox, nw, ha, q⟩ := h
    refine ⟨_, pss_cons (ps_expr (pe_leinit (by rfl) S.mV S.vV (pa_cons (pv 0) (pa_cons (pv 2) pa_nil)))) (pss_one (ps_lst (pv 0) (pv 1))), ?_⟩
    refine ⟨_, rfl, _, rfl, a, C, _, rfl, (by show 1 ≤ 1000; decide), ox, ha, ?_⟩
    exact ⟨_, rfl, _, rfl, a, C, rfl, ox, nw, .inl ⟨ha, fun dx n ne => q dx n ne⟩⟩
theorem le_binds {K : PySem.W.Frag} {T : Addr} {o : Obj} {v1 v2 : Value} {n : Nat} (ho : K.lookup T = some o) (hs : o.data = .seq #[v1, v2] n) (kV doc pm : Value) (an : Option Addr) (cdv ct : Value) (s : Shared) (us : List Value) (X : K.In s.heap) (hl : us.length = 3) :
    BindsTo s (PySem.W.fnOf "__init__" "Lacking.__init__" (defArgs s_Lacking___init__) (defBody s_Lacking___init__) (defScope s_Lacking___init__) (.ref T) kV doc pm an cdv ct) ⟨us, []⟩ ((["self", "word", "message"] : List Str).zip us) := by
  match us, hl with
  | [_, _, _], _ => exact PySem.W.binds_K X rfl ho hs rfl rfl
/-- X.__init__(self, number) -/
def spExL (K : PySem.W.Frag) (z fl : Str) : Sp := fun vs H Q _ => ∃ (a C : Addr) (i : Int), vs = [.ref a, .int i] ∧ i.natAbs.log2 < 1920 ∧ OexL K C ∧ PySem.W.findIn K (.ref C) "word" = some none ∧ PySem.W.findIn K (.ref C) fl = some none ∧ H a = some (exo a C none) ∧
  ∀ (dx : Addr) (H' : Hp), H dx = none → dx ≠ a → H' a = some (exo a C (some dx)) → H' dx = some (exd dx [(fl, .int i), (("word" : Str), .str z)]) → (∀ b, b ≠ a → b ≠ dx → H' b = H b) → Q .non H'
def kMkL (C : Addr) (sp : Sp) (W : XK) : List V → Hp → Prop := fun vs H1 => vs.length ≤ 1000 ∧ ∀ a, H1 a = none → sp (.ref a :: (vs ++ [])) (upd H1 a (exo a C none))
  (fun v H2 => v = .non ∧ ∃ (d : Addr) (fs : List (Str × V)), H2 a = some (exo a C (some d)) ∧ H2 d = some (exd d fs) ∧ H1 d = none ∧ W (.ref C) (some d) (upd (del H2 a) d (.xd fs))) (fun _ _ _ => False)
theorem w_mkOL {H : Hp} {σ : L2.St} {W : XK} {sp : Sp} {ta : TA} (q : ta σ H (kMkL C sp W)) : tMkO C sp [] ta σ H W := q
theorem w_kMkL {H : Hp} {W : XK} {z fl nm : Str} {f : Addr} {i : Int} (T : EL K mg nm C f) (nf : PySem.W.findIn K (.ref C) fl = some none) (hi : i.natAbs.log2 < 1920)
    (k : ∀ (d : Addr) (H' : Hp), H d = none → H' d = some (.xd [(fl, .int i), (("word" : Str), .str z)]) → Same H H' → W (.ref C) (some d) H') : kMkL C (spExL K z fl) W [.int i] H := by
  refine ⟨by show 1 ≤ 1000; decide, fun a na => ⟨a, C, i, rfl, hi, T.ox, T.nw, nf, upd_same, fun dx H' n ne e1 e2 e3 => ?_⟩⟩
  rw [upd_ne ne] at n
  refine ⟨rfl, dx, _, e1, e2, n, k dx _ n upd_same fun b o e => ?_⟩
  have h1 : b ≠ dx := ne_of_none e n
  have h2 : b ≠ a := ne_of_none e na
  rw [upd_ne h1, del_ne h2, e3 b h2 h1, upd_ne h2]
  exact e
theorem sc_npx : FnScope ["self", "place"] ["self", "place"] (defScope s_NoPlace___init__) := ⟨rfl, rfl, rfl, by decide +kernel, rfl, by decide +kernel, by decide +kernel⟩
theorem ok_npx {f : Addr} {fd fdS : FuncData} (F : Fun K "__init__" "NoPlace.__init__" s_NoPlace___init__ f fd) (S : LE K mg CS fS) (FS : FunD K "__init__" "Lacking.__init__" s_Lacking___init__ fS fdS) (bS : Binds K fdS ["self", "word", "message"] []) : FnOk P w K mg base CX0 2 f fd ["self", "place"] (spExL K (Str.ofString "noplace") "place") := by
  refine F.ok sc_npx (fun vs H Q E h => ?_) (fun cdv A outer s H vs Q E hr h => ?_)
  · obtain ⟨a, C, i, rfl, _⟩ := h
    rfl
  · obtain ⟨a, C, i, rfl, hi, ox, nw, nf, ha, q⟩ := h
    have GS : FnOk P w K mg base CX0 1 fS fdS ["self", "word", "message"] (spLE K) := ok_le FS S
    refine ⟨_, pss_cons (ps_expr (pe_clsFn (pe_glob (v := .ref CS) (by rfl) S.gC rfl) S.rd S.ga S.at_ GS hr FS.kp bS pass0 (pa_cons (pv 0) (pa_cons pe_str (pa_cons (pe_joined (.cons pe_str (.cons (pe_fmt (pv 1)) .nil))) pa_nil))))) (pss_one (ps_lst (pv 0) (pv 1))), ?_⟩
    have l1 : (toString i : Str).length ≤ 1921 := int_text_len_1921 hi
    refine ⟨rfl, _, rfl, ?_⟩
    refine ⟨_, rfl, by decide +kernel, _, rfl, .inr ⟨i, rfl, hi, _, rfl, ?_, ?_⟩⟩
    · rw [len_app, len_app]
      have : (Str.empty.length + (Str.ofString "there is no place ").length) = 18 := by decide +kernel
      exact line_of (by omega)
    · refine ⟨a, C, _, _, rfl, ox, nw, ha, fun dx n ne => ?_⟩
      refine ⟨_, rfl, _, rfl, a, C, rfl, ox, nf, .inr ⟨dx, [(("word" : Str), .str (Str.ofString "noplace"))], upd_same, by rw [upd_ne ne, upd_same], by show 1 ≤ 900; decide, ?_⟩⟩
      refine q dx _ n ne (by rw [upd_ne ne.symm, upd_same]) upd_same fun b h1 h2 => ?_
      rw [upd_ne h2, upd_ne h1, upd_ne h2]
end
end Sf
namespace Sf
open PySem PySem.Spec PyProof.Rows L2 TL
set_option maxHeartbeats 300000
/-! ### the keys of a dict, drawn one after another -/
abbrev keyOb (d : Addr) (i n ep : Nat) : Obj := DVw.itOb "dict_keyiterator" #[.ref d, .int i 0, .int n 0, .int ep 0]
theorem kndKey {prog : Program} {w : World} : DVw.Knd prog w "dict_keyiterator" 0 := ⟨fun h q => wpAny_typeNameOfWhole_keyiter h q, fun h q => wpAny_isOneOf_keyiter h q, by first | decide | rfl, by first | decide | rfl⟩
theorem vNext_key : Builtin.«dict_keyiterator.__next__» = DVw.vNext "dict_keyiterator.__next__" := by kernel_rfl
section
variable {prog : Program} {w : World} {A : Around} {E : Value → Shared → Prop} {s : Shared}
theorem draws_keys (hh : A.handled = none) {it d : Addr} {od : Obj} {es : Array DictEntry} {ep : Nat} (hne : d ≠ it) (hdd : od.data = .dict es ep) :
    Draws prog w A it [it, d] es.size (fun i v => ∃ e, es[i]? = some e ∧ v = e.key) (fun i h => h.get? it = some (keyOb d i es.size ep) ∧ h.get? d = some od) where
  live := fun _ _ st => ⟨_, st.1⟩
  frame := fun _ _ _ st hk => ⟨hk it (by simp) _ st.1, hk d (by simp) _ st.2⟩
  item := fun i s Q E hi st hQ => by
    have ht : s.TypeIs (.ref it) "dict_keyiterator" := DVw.itOb_is st.1
    unfold Builtin.SmallTypes.nextOf
    refine wpAny_bind (wpAny_callSpecial?_slot (name := Str.ofString "__next__") ht F.slot_dict_keyiterator_next (wpAny_call_entry F.slot_dict_keyiterator_next ht F.entry_dict_keyiterator_next ?_ (F.args_dict_keyiterator_next_1 _)))
    rw [vNext_key]
    refine DVw.vStep kndKey st.1 rfl (by simp) st.2 hdd rfl (Array.getElem?_eq_getElem hi) fun h' hi' sb => ?_
    unfold DVw.vPick
    refine wpAny_bind (wpAny_isOneOf_keyiter (s := { s with heap := h' }) (DVw.itOb_is hi') ?_)
    refine wpAny_pure (wpAny_pure (hQ _ h' s.toks ⟨_, Array.getElem?_eq_getElem hi, rfl⟩ ⟨?_, (sb.2 d hne).trans st.2⟩ sb))
    exact hi'
  done := fun s Q E st hE => by
    have ht : s.TypeIs (.ref it) "dict_keyiterator" := DVw.itOb_is st.1
    unfold Builtin.SmallTypes.nextOf
    refine wpAny_bind (wpAny_callSpecial?_slot (name := Str.ofString "__next__") ht F.slot_dict_keyiterator_next (wpAny_call_entry F.slot_dict_keyiterator_next ht F.entry_dict_keyiterator_next ?_ (F.args_dict_keyiterator_next_1 _)))
    rw [vNext_key]
    exact DVw.vStop hh kndKey st.1 rfl (by simp) st.2 hdd rfl (Array.getElem?_eq_none (Nat.le_refl _)) fun h' e oe eb he hc => hE h' e eb ⟨oe, he, hc⟩
theorem begins_dict {d : Addr} {od : Obj} {es : Array DictEntry} {ep : Nat} (hd : (d == sysModules) = false) (hx : od.ExactDict) (hdd : od.data = .dict es ep) : Begins (.ref d) (keyOb d 0 es.size ep) fun h => h.get? d = some od where
  iter := fun prog w A E s Q ho h => iter_keys hd ho hx hdd h
  keeps := fun h h' x hk => hk d _ x
  free := rfl
set_option maxHeartbeats 600000 in
theorem meets_enum1 {v : Value} {o : Obj} {Hh : Heap → Prop} (B : Begins v o Hh) :
    Meets (Builtin.«enumerate.__new__» ⟨[.type "enumerate", v], []⟩) (fun _ R s => Hh s.heap ∧
      R (.ok (.ret (.ref (s.heap.push o).objs.size))) { s with heap := (s.heap.push o).push { cls := .type "enumerate", data := .fields #[.none, .bool false, .ref s.heap.objs.size, rawInt 0, .none, .none] } }) :=
  .of_wp fun prog w A R s h => by
    obtain ⟨hp, g, d, tk, os⟩ := s
    obtain ⟨h1, h⟩ := h
    have hsub := PySem.sub_enumerate
    have q1 : ∀ {A' : Around} {E : Value → Shared → Prop} {Q : Value → Shared → Prop}, Q (.ref hp.objs.size) ⟨hp.push o, g, d, tk, os⟩ → wpAny (model prog w) A' (pyIter v) Q E ⟨hp, g, d, tk, os⟩ := fun q => B.iter prog w _ _ ⟨hp, g, d, tk, os⟩ _ h1 q
    wp_walk using q1
    refine wpAny_stack_any fun st => wpAny_pure ?_
    split
    · rename_i c _ _ _ _ _
      cases (c == Value.type "enumerate")
      · wp_walk using q1
        exact ⟨_, rfl, h⟩
      · wp_walk using q1
        exact ⟨_, rfl, h⟩
    · wp_walk using q1
      exact ⟨_, rfl, h⟩
theorem call_enum1 {v : Value} {o : Obj} {Hh : Heap → Prop} {Q : Value → Shared → Prop} (B : Begins v o Hh) (h1 : Hh s.heap)
    (h : ∀ h', IsEnum h' (s.heap.objs.size + 1) s.heap.objs.size 0 .none → h'.get? s.heap.objs.size = some o → (∀ b o, s.heap.get? b = some o → h'.get? b = some o) → Q (.ref (s.heap.objs.size + 1)) { s with heap := h' }) :
    wpAny (model prog w) A (call (.type "enumerate") [v]) Q E s := by
  refine callType_new F.called_enumerate (by decide) (F.typeCall_enumerate_1 _) (F.newCall_enumerate_1 _) (fun obj => F.args_object_init_2 obj _) F.entry_enumerate_new (meets_enum1 B) ⟨h1, ?_⟩
  have hz : (s.heap.push o).objs.size = s.heap.objs.size + 1 := Heap.size_push ..
  show _ ∧ _
  have he : ((s.heap.push o).push { cls := .type "enumerate", data := .fields #[.none, .bool false, .ref s.heap.objs.size, rawInt 0, .none, .none] }).get? (s.heap.push o).objs.size = some { cls := .type "enumerate", data := .fields #[.none, .bool false, .ref s.heap.objs.size, rawInt 0, .none, .none] } := Heap.get?_push_size _ rfl
  rw [hz] at he ⊢
  exact ⟨⟨_, he, rfl⟩, h _ he (Heap.get?_push_of_some _ (Heap.get?_push_size _ B.free)) fun b o x => Heap.get?_push_of_some _ (Heap.get?_push_of_some _ x)⟩
end
/-! ### enumerate(dict): the dict is locked from there on -/
def Itek (d : Addr) (o : Obj) (kvs : List (Key × V)) : It :=
  ⟨fun i H => H d = some (.frz o (.dK kvs)) ∧ i < kvs.length, fun i H v H' => ∃ T k x, kvs[i]? = some (k, x) ∧ v = .ref T ∧ H T = none ∧ H' = upd H T (.tup [.int (i : Nat), kV k]), fun i H => H d = some (.frz o (.dK kvs)) ∧ kvs.length ≤ i⟩
theorem turn_enumD {P : Program} {w : World} {K : PySem.W.Frag} {elts : List Expr} {kk : Nat} {tpos : Pos} {d e it : Addr} {o : Obj} {es : Array DictEntry} {ep : Nat} {kvs : List (Key × V)} (hod : o.data = .dict es ep) (hsz : es.size = kvs.length) (hne : e ≠ it) (hed : e ≠ d) (hid : d ≠ it) :
    Turn P w K (.Tuple elts kk tpos) (Itek d o kvs) [e, it] e (fun i h => (∃ old, IsEnum h e it ((i : Nat) : Int) old) ∧ h.get? it = some (keyOb d i es.size ep) ∧ i ≤ es.size) where
  mem := by simp
  obj := fun i h st b hb => by
    obtain ⟨⟨old, he⟩, hi, _⟩ := st
    rcases List.mem_cons.mp hb with rfl | hb
    · exact ⟨_, he, fun v q => nomatch q⟩
    · rw [List.mem_singleton.mp hb]
      exact ⟨_, hi, fun v q => nomatch q⟩
  keep := fun i h h' st k => let ⟨⟨old, he⟩, hi, hl⟩ := st; ⟨⟨old, k e (by simp) _ he⟩, k it (by simp) _ hi, hl⟩
  item := by
    intro X hP hw hK hc i pins s σ H E I hf st hg
    subst hP hw hK
    obtain ⟨⟨old, he⟩, hit, hle⟩ := st
    obtain ⟨hd, hi⟩ := hg
    obtain ⟨hs, hgd, hx, es', ep', vs, hdt, hsz', kv, hm⟩ := I.frzK hd
    obtain ⟨rfl, rfl⟩ := dict_ep hod hdt
    obtain ⟨⟨k, v⟩, hkv⟩ : ∃ p, kvs[i]? = some p := ⟨kvs[i], List.getElem?_eq_getElem hi⟩
    obtain ⟨u, hu, ru⟩ := kv_get kv hkv
    have hel : e < s.heap.objs.size := Heap.lt_size he
    have hil : it < s.heap.objs.size := Heap.lt_size hit
    refine wpAny_pyNext_enum_itemD (draws_keys (A := X.A.in1) (I.ok.hd hc) hid hod) he ⟨hit, hgd⟩ (by omega) hne (by simp [hne, hed]) fun x h' tk hP ho hst hT hz hk => ?_
    obtain ⟨en, hen, rfl⟩ := hP
    have hkey : keyIs k en.key = true := by
      obtain ⟨od2, es2, hod2, _, hdd2, _, hp2, _⟩ := id hm
      rw [hgd] at hod2
      cases hod2
      obtain ⟨rfl, _⟩ := dict_ep hod hdd2
      exact (hp2.get? (e := en) (by rw [← Array.getElem?_toList] at hen; exact hen) hu).1
    refine ⟨_, rfl, wpAny_letOwnedTupleGo_enum (s := { s with heap := h', toks := tk + 1 }) ho fun h'' he' sb => ?_⟩
    have hT2 : h''.get? s.heap.objs.size = some { cls := .type "tuple", data := .seq #[.int i tk, en.key] } := (sb.2 _ (Nat.ne_of_gt hel)).trans hT
    have new : ObjOk X.prog X.w (upd H s.heap.objs.size (.tup [.int (i : Nat), kV k])) h'' s.heap.objs.size (.tup [.int (i : Nat), kV k]) :=
      ⟨by show 2 ≤ sizeLine; decide, [.int i tk, en.key], .cons ⟨_, rfl⟩ (.cons (relV_key hkey) .nil), ⟨_, hT2, rfl, _, rfl⟩⟩
    have I1 : Inv X pins σ (upd H s.heap.objs.size (.tup [.int (i : Nat), kV k])) { s with heap := h'', toks := tk + 1 } :=
      I.turnedNew (ch := [e, it]) (fun b ob hb q => (sb.2 b (fun z => hb (by simp [z]))).trans (hk b ob (fun z => hb (by simp [z])) (fun z => hb (by simp [z])) q)) hf (Nat.le_refl _) new
    refine ⟨.ref s.heap.objs.size, _, I1, rfl, ⟨_, k, v, hkv, rfl, I.hok.fresh (Nat.le_refl _), rfl⟩, ⟨⟨en.key, ?_⟩, (sb.2 it (Ne.symm hne)).trans hst.1, by omega⟩, fun b hb => ?_⟩
    · rw [show ((i + 1 : Nat) : Int) = (i : Int) + 1 by omega]
      exact he'
    · have hb' : b < s.heap.objs.size := by
        rcases List.mem_cons.mp hb with rfl | hb
        · exact hel
        · rw [List.mem_singleton.mp hb]
          exact hil
      rw [upd_ne (Nat.ne_of_lt hb')]
      exact (hf b hb).1
  done := by
    intro X hP hw hK hc i pins s σ H E I hf st hg
    subst hP hw hK
    obtain ⟨⟨old, he⟩, hit, hle⟩ := st
    obtain ⟨hd, hi⟩ := hg
    obtain ⟨hs, hgd, hx, es', ep', vs, hdt, hsz', kv, hm⟩ := I.frzK hd
    obtain ⟨f0, f1, f2, f3, f4, f5⟩ := hf it (by simp)
    obtain ⟨rfl, rfl⟩ := dict_ep hod hdt
    have hin : i = es'.size := by omega
    rw [hin] at hit
    exact wpAny_pyNext_enum_endD (draws_keys (A := X.A.in1) (I.ok.hd hc) hid hod) he ⟨hit, hgd⟩ fun h' eb => ⟨rfl, I.turned (t' := s.toks) (fun b ob hb z => eb b ob hb z) f0 f1 f3 f4 f5⟩
  self := fun A i s Q E st h => let ⟨⟨_, he⟩, _⟩ := st; wpAny_pyIter_enum he h
def iEnumD (ta : TA) : TI := fun σ H R => ta σ H fun vs H1 => ∃ d kvs, vs = [.ref d] ∧ H1 d = some (.dK kvs) ∧ ∀ o, R (Itek d o kvs) (upd H1 d (.frz o (.dK kvs)))
theorem pi_enumD {X : Cx} {e : Expr} {ta : TA} {p pos tpos : Pos} {elts : List Expr} {kk : Nat} (hg : Gl X "enumerate") (hm : X.mg "enumerate" = none) (ha : PA X [e] ta) (hs : starEach [e] X.env = [(false, eval e X.env)] := by rfl) :
    PI X (.Tuple elts kk tpos) (.Call (.Name "enumerate" p) [e] [] pos) (iEnumD ta) := by
  refine ⟨fun pins s σ H R I h => ?_⟩
  refine Call_ (ld_blt I hg hm boot_enumerate (PyProof.Rows.callWith_type1 (thn (ha.run pos pins s σ H _ I h) fun us s1 ⟨vs, H1, I1, r1, q1⟩ => ?_) hs rfl))
  obtain ⟨d, kvs, ex, hd, q⟩ := q1
  subst ex
  cases r1 with
  | cons r rr =>
    cases rr
    cases r
    obtain ⟨o, I2⟩ := I1.lock hd True.intro
    have hd2 : upd H1 d (.frz o (.dK kvs)) d = some (.frz o (.dK kvs)) := upd_same
    obtain ⟨hsm, hgd, hx, es, ep, ws, hdt, hsz, kv, hm'⟩ := I2.frzK hd2
    have hlt : d < s1.heap.objs.size := Heap.lt_size hgd
    refine call_enum1 (begins_dict hsm hx hdt) hgd fun h' he hit hk => wpAny_pyIter_enum he ?_
    have I3 : Inv X pins σ (upd H1 d (.frz o (.dK kvs))) { s1 with heap := h' } := I2.kept (t' := s1.toks) hk
    have T := turn_enumD (P := X.prog) (w := X.w) (K := X.K) (elts := elts) (kk := kk) (tpos := tpos) hdt hsz (Nat.succ_ne_self s1.heap.objs.size) (Nat.ne_of_gt (Nat.lt_succ_of_lt hlt)) (Nat.ne_of_lt hlt)
    refine ⟨s1.heap.objs.size + 1, [s1.heap.objs.size + 1, s1.heap.objs.size], _, _, _, rfl, I3, T, ⟨⟨.none, he⟩, hit, Nat.zero_le _⟩, fun b hb => ?_, q o⟩
    have hle : s1.heap.objs.size ≤ b := by
      rcases List.mem_cons.mp hb with z | z
      · rw [z]
        exact Nat.le_succ _
      · rw [List.mem_singleton.mp z]
        exact Nat.le_refl _
    exact I2.fpOk hle (I2.hok.fresh hle)
end Sf
namespace Sf
open PySem PySem.Spec PyProof.Rows L2 TL
set_option maxHeartbeats 400000
/-! ### list(d.values()) -/
def vwO (p d : Addr) : HO := .ext fun h => h.get? p = some { cls := .type "dict_values", data := .fields #[.ref d] }
theorem vwO_ok {P : Program} {w : World} {H : Hp} {h : Heap} {p d : Addr} (e : h.get? p = some { cls := .type "dict_values", data := .fields #[.ref d] }) : ObjOk P w H h p (vwO p d) := ⟨e, ⟨_, e⟩, fun h1 h2 q k => k _ q⟩
def tDvs (td : TE) : TE := fun σ H Q => td σ H fun x H1 => ∃ d kvs, x = .ref d ∧ H1 d = some (.dK kvs) ∧ ∀ p, H1 p = none → Q (.ref p) (upd H1 p (vwO p d))
def kDvs (Q : VK) : VK := fun x H1 => ∃ d kvs, x = .ref d ∧ H1 d = some (.dK kvs) ∧ ∀ p, H1 p = none → Q (.ref p) (upd H1 p (vwO p d))
theorem w_dvs {td : TE} {σ : L2.St} {H : Hp} {Q : VK} (q : td σ H (kDvs Q)) : tDvs td σ H Q := q
def rLVals : List V → Hp → VK → Prop := fun xs H Q => ∃ p d kvs, xs = [.ref p] ∧ H p = some (vwO p d) ∧ H d = some (.dK kvs) ∧ ∀ r, H r = none → Q (.ref r) (upd H r (.lst (kvs.map (·.2))))
section
variable {X : Cx} {e : Expr} {td : TE} {apos cpos : Pos}
theorem pe_dvs (he : PE X e td) (hbase : attributeBase e "values" X.env (eval e X.env) = eval e X.env := by rfl) (hline : (apos.endLine == cpos.line) = true := by rfl) : PE X (.Call (.Attribute e "values" apos) [] [] cpos) (tDvs td) := by
  refine ⟨fun pins s σ H Q I h => ?_⟩
  refine wpAny_Call_method (T := "dict") (id := "dict.values") hbase rfl hline F.plainAttrs_dict F.slot_dict_values F.type_dict_values (thn (he.run pins s σ H _ I h) fun u s1 ⟨x, H1, I1, rx, d, kvs, ex, hd, q⟩ => ?_)
  subst ex
  obtain rfl : u = Value.ref d := rx
  obtain ⟨_, hs, vs, rel, hm⟩ := dk_of I1.hok hd
  refine ⟨hm.typeIs, hm.mapOf.noDict, ?_⟩
  have fin : EP X pins σ Q (.ref s1.heap.objs.size) { s1 with heap := s1.heap.push { cls := .type "dict_values", data := .fields #[.ref d] } } :=
    ⟨.ref s1.heap.objs.size, _, I1.laid (t' := s1.toks) (fun b o z => Heap.get?_push_of_some _ z) (Nat.le_refl _) (vwO_ok (d := d) (Heap.get?_push_size _ rfl)), rfl, q _ (I1.hok.fresh (Nat.le_refl _))⟩
  show wpAny _ _ (callWith cpos (.builtin "dict.values") [.ref d] [] []) _ X.xe s1
  exact method_meetsIn F.slot_dict_values F.entry_dict_values rfl (PySem.evalArgs_none ⟨rfl, hm.typeIs, F.args_dict_values_1 _, _, meets_dict_values (mixKind X.prog X.w) d hs, ⟨vs, hm⟩, fin⟩)
theorem call_lvals (hc : X.calm = true) : CallR X (.type "list") rLVals := by
  intro pins s σ H xs us Q I r h
  obtain ⟨p, d, kvs, ex, hp, hd, q⟩ := h
  subst ex
  obtain ⟨u, eu, rx⟩ := vals1 r
  subst eu
  obtain rfl : u = Value.ref p := rx
  have hv : s.heap.get? p = some { cls := .type "dict_values", data := .fields #[.ref d] } := (show ObjOk X.prog X.w H s.heap p (vwO p d) from I.hok p _ hp).1
  obtain ⟨z, lo, vs, rk, hm⟩ := dk_of I.hok hd
  obtain ⟨ep, hat⟩ := hm.dictAt
  have hl : kvs.length = vs.length := Paired.length rk
  refine PySem.W.kdl_call (PySem.W.kdl_values (knd := mixKind X.prog X.w) (r := p) (kvs := vs) (ep := ep)) (I.ok.hd hc) ⟨⟨_, hv, rfl, rfl⟩, hat⟩ (by rw [← hl]; exact z) fun h' tk acc' c' hkeep hS hacc => ?_
  refine ⟨.ref s.heap.objs.size, upd H s.heap.objs.size (.lst (kvs.map (·.2))), I.laid hkeep (Nat.le_refl _) (show ObjOk X.prog X.w _ _ _ (.lst (kvs.map (·.2))) from ⟨?_, acc'.toList, c', ?_, ?_⟩), rfl, q _ (I.hok.fresh (Nat.le_refl _))⟩
  · rw [List.length_map]
    exact z
  · have el : acc'.toList.length = acc'.size := by simp
    refine vals_of_at (by rw [List.length_map, el, hacc.1, hl]) fun j x w h1 h2 => ?_
    obtain ⟨k, hk⟩ := hacc.2 j w (by rw [← Array.getElem?_toList]; exact h2)
    rw [List.getElem?_map] at h1
    obtain ⟨⟨k', x'⟩, h3, rfl⟩ := Option.map_eq_some_iff.mp h1
    obtain ⟨u, hu, ru⟩ := kv_get rk h3
    rw [hk] at hu
    cases hu
    exact ru
  · rw [Array.toArray_toList]
    exact hS
end
end Sf
set_option hygiene false
/-! heap look-ups: hp; unlike addresses: ne; steps: st, go -/
local macro_rules | `(tactic| walk_at "hp") => `(tactic| first
  | assumption
  | (refine Sf.Nw.at (by assumption) ?_; walk_at "hp")
  | (refine L2.Same.at (by assumption) ?_; walk_at "hp")
  | (refine Sf.Of.at (by assumption) ?_ ?_; (case refine_1 => walk_at "ne"); (case refine_2 => walk_at "hp"))
  | (refine Sf.Fx.at (by assumption) ?_ ?_; (case refine_1 => walk_at "ne"); (case refine_2 => walk_at "hp")))
local macro_rules | `(tactic| walk_at "ne") => `(tactic| first
  | assumption
  | exact Ne.symm (by assumption)
  | exact Sf.Nw.ne (by assumption) (by walk_at "hp")
  | exact (Sf.Nw.ne (by assumption) (by walk_at "hp")).symm)
local macro_rules | `(tactic| walk_at "sm") => `(tactic| first
  | assumption
  | exact L2.Same.refl _
  | (refine L2.Same.nw ?_ (by assumption); walk_at "sm")
  | (refine L2.Same.trans ?_ (by assumption); walk_at "sm"))
local macro_rules | `(tactic| walk_at "bg") => `(tactic| first
  | assumption
  | (refine Sf.Bag.nw ?_ (by assumption); walk_at "bg")
  | (refine Sf.Bag.same (by assumption) ?_; walk_at "bg"))
local macro_rules | `(tactic| walk_at "fx") => `(tactic| first
  | assumption
  | exact Sf.Fx.refl
  | (refine Sf.Fx.nw ?_ (by assumption); walk_at "fx")
  | (refine Sf.Fx.same ?_ (by assumption); walk_at "fx")
  | (refine Sf.Fx.trans ?_ (by assumption); walk_at "fx"))
local macro_rules | `(tactic| walk_at "sz") => `(tactic| first
  | decide
  | (simp only [List.length_cons, List.length_nil, Nat.zero_add]; decide))
local macro_rules | `(tactic| walk_at "s0") => `(tactic| first
  | with_reducible refine Sf.w_var rfl ?_
  | with_reducible refine Sf.w_c ?_
  | with_reducible refine Sf.w_cons ?_
  | with_reducible refine Sf.w_nil ?_
  | with_reducible refine Sf.w_op ?_
  | with_reducible refine Sf.w_asg ?_
  | with_reducible refine Sf.w_gn ?_
  | with_reducible refine Sf.w_call ?_
  | with_reducible refine Sf.w_cb ?_
  | with_reducible refine Sf.w_if ?_
  | with_reducible refine Sf.w_test ?_
  | with_reducible refine Sf.w_tB ?_
  | with_reducible refine Sf.w_kB ?_
  | with_reducible refine Sf.w_i0 ?_
  | with_reducible refine Sf.w_eqI ?_
  | with_reducible refine Sf.w_neI ?_
  | with_reducible refine Sf.w_eqS ?_
  | with_reducible refine Sf.w_neS ?_
  | with_reducible refine Sf.w_eqB ?_
  | with_reducible refine Sf.w_neB ?_
  | with_reducible refine Sf.w_inSg ?_
  | with_reducible refine Sf.w_notInSg ?_
  | with_reducible refine Sf.w_isNI ?_
  | with_reducible refine Sf.w_isNN ?_
  | with_reducible refine Sf.w_isN ?_
  | with_reducible refine Sf.w_notNI ?_
  | with_reducible refine Sf.w_notNN ?_
  | with_reducible refine Sf.w_notN ?_
  | with_reducible refine Sf.w_un ?_
  | with_reducible refine Sf.w_u ?_
  | with_reducible refine Sf.w_sl ?_
  | with_reducible refine Sf.w_nopart ?_
  | with_reducible refine Sf.w_part ?_
  | with_reducible refine Sf.w_kpart ?_
  | with_reducible refine Sf.w_and ?_
  | with_reducible refine Sf.w_or ?_
  | with_reducible refine Sf.w_not ?_
  | with_reducible refine Sf.w_kNotT ?_
  | with_reducible refine Sf.w_kNotF ?_
  | with_reducible refine Sf.w_kNotN ?_
  | with_reducible refine Sf.w_kNot ?_
  | with_reducible refine Sf.w_andT ?_
  | with_reducible refine Sf.w_andF ?_
  | with_reducible refine Sf.w_orT ?_
  | with_reducible refine Sf.w_orF ?_
  | with_reducible refine Sf.w_andV ?_
  | with_reducible refine Sf.w_andVT ?_
  | with_reducible refine Sf.w_andVF ?_
  | with_reducible refine Sf.w_orV ?_
  | with_reducible refine Sf.w_notV ?_
  | with_reducible refine Sf.w_kNotVT ?_
  | with_reducible refine Sf.w_kNotVF ?_
  | with_reducible refine Sf.w_kNotV ?_
  | with_reducible refine Sf.w_ifE ?_
  | with_reducible refine Sf.w_ifET ?_
  | with_reducible refine Sf.w_ifEF ?_
  | with_reducible refine Sf.w_ifT ?_
  | with_reducible refine Sf.w_ifF ?_
  | with_reducible refine Sf.w_chain ?_
  | with_reducible refine Sf.w_lst ?_
  | with_reducible refine Sf.w_tup ?_
  | with_reducible refine Sf.w_drop ?_
  | with_reducible refine Sf.w_ret ?_
  | with_reducible refine Sf.w_retN ?_
  | with_reducible refine Sf.w_next ?_
  | with_reducible refine Sf.w_break ?_
  | with_reducible refine Sf.w_cont ?_
  | with_reducible refine Sf.w_meth ?_
  | with_reducible refine Sf.w_make ?_
  | with_reducible refine Sf.w_fld ?_
  | with_reducible refine Sf.w_sfld ?_
  | with_reducible refine Sf.w_bm ?_
  | with_reducible refine Sf.w_bm0 ?_
  | ((with_reducible refine' Sf.w_kbmL ?hp_ ?_); (case hp_ => walk_at "hp"))
  | with_reducible refine Sf.w_m0 ?_
  | with_reducible refine Sf.w_kM0 ?_
  | with_reducible refine Sf.w_m1 ?_
  | with_reducible refine Sf.w_kM1 ?_
  | with_reducible refine Sf.w_par ?_
  | with_reducible refine Sf.w_kPar ?_
  | with_reducible refine Sf.w_gcons ?_
  | with_reducible refine Sf.w_gnil ?_
  | with_reducible refine Sf.w_gsub ?_
  | with_reducible refine Sf.w_for ?_
  | with_reducible refine Sf.w_rng1 ?_
  | with_reducible refine Sf.w_ilist ?_
  | with_reducible refine Sf.w_itup ?_
  | with_reducible refine Sf.w_istr ?_
  | with_reducible refine Sf.w_kStr ?_
  | with_reducible refine Sf.w_ienum ?_
  | with_reducible refine Sf.w_lc ?_
  | with_reducible refine Sf.w_yes ?_
  | with_reducible refine Sf.w_tstT ?_
  | with_reducible refine Sf.w_tstF ?_
  | with_reducible refine Sf.w_each rfl ?_
  | with_reducible refine Sf.w_dget ?_
  | with_reducible refine Sf.w_din ?_
  | with_reducible refine Sf.w_dnotin ?_
  | ((with_reducible refine' Sf.w_kDInI ?hp_ ?_); (case hp_ => walk_at "hp"))
  | ((with_reducible refine' Sf.w_kDInS ?hp_ ?_); (case hp_ => walk_at "hp"))
  | ((with_reducible refine' Sf.w_kDNotInI ?hp_ ?_); (case hp_ => walk_at "hp"))
  | ((with_reducible refine' Sf.w_kDNotInS ?hp_ ?_); (case hp_ => walk_at "hp"))
  | with_reducible refine Sf.w_dget1 ?_
  | ((with_reducible refine' Sf.w_kDGet1 ?hp_ ?_); (case hp_ => walk_at "hp"))
  | ((with_reducible refine' Sf.w_kDGet1I ?hp_ ?_); (case hp_ => walk_at "hp"))
  | ((with_reducible refine' Sf.w_kDGet1S ?hp_ ?_); (case hp_ => walk_at "hp"))
  | with_reducible refine Sf.w_sdput ?_
  | with_reducible refine Sf.w_dc ?_
  | with_reducible refine Sf.w_tstDT ?_
  | with_reducible refine Sf.w_eachD rfl ?_
  | with_reducible refine Sf.w_lstRg ?_
  | with_reducible refine Sf.w_min2 ?_
  | with_reducible refine Sf.w_max2 ?_
  | with_reducible refine Sf.w_starts ?_
  | with_reducible refine Sf.w_ends ?_
  | with_reducible refine Sf.w_rg1 ?_
  | with_reducible refine Sf.w_kRg1 ?_
  | with_reducible refine Sf.w_aug rfl ?_
  | with_reducible refine Sf.w_ipI ?_
  | with_reducible refine Sf.w_isi_int_int ?_
  | with_reducible refine Sf.w_isi_int_bool ?_
  | with_reducible refine Sf.w_isi_int_str ?_
  | with_reducible refine Sf.w_isi_str_int ?_
  | with_reducible refine Sf.w_isi_str_bool ?_
  | with_reducible refine Sf.w_isi_str_str ?_
  | with_reducible refine Sf.w_isi_bool_int ?_
  | with_reducible refine Sf.w_isi_bool_bool ?_
  | with_reducible refine Sf.w_isi_bool_str ?_
  | with_reducible refine Sf.w_isi_NoneType_int ?_
  | with_reducible refine Sf.w_isi_NoneType_str ?_
  | with_reducible refine Sf.w_isi_NoneType_bool ?_
  | ((with_reducible refine' Sf.w_lenL ?hp_ ?_); (case hp_ => walk_at "hp"))
  | ((with_reducible refine' Sf.w_lenT ?hp_ ?_); (case hp_ => walk_at "hp"))
  | ((with_reducible refine' Sf.w_lenD ?hp_ ?_); (case hp_ => walk_at "hp"))
  | ((with_reducible refine' Sf.w_kList ?hp_ ?_); (case hp_ => walk_at "hp"))
  | ((with_reducible refine' Sf.w_kTupI ?hp_ ?_); (case hp_ => walk_at "hp"))
  | ((with_reducible refine' Sf.w_kEnum ?hp_ ?_); (case hp_ => walk_at "hp"))
  | ((with_reducible refine' Sf.w_ixT ?hp_ ?rf_ ?_); (case hp_ => walk_at "hp"); (case rf_ => exact rfl))
  | ((with_reducible refine' Sf.w_ixL ?hp_ ?rf_ ?_); (case hp_ => walk_at "hp"); (case rf_ => exact rfl))
  | ((with_reducible refine' Sf.w_gtup ?hp_ ?rf_ ?_); (case hp_ => walk_at "hp"); (case rf_ => exact rfl)))
local macro_rules | `(tactic| walk_at "gs") => `(tactic| repeat walk_at "s0")
local macro_rules | `(tactic| walk_at "go") => `(tactic| repeat (first | walk_at "s0" | with_reducible refine Sf.w_seq ?_))
namespace Sf
open PySem PySem.Spec PyProof.Rows L2 TL
section
variable {P : Program} {w : World} {K : PySem.W.Frag} {mg : Str → Option Value} {base : Heap}
/-! ### is_upto -/
def upB : V → Int → Bool
  | .int i, m => decide (0 ≤ i) && decide (i ≤ m)
  | _, _ => false
def flat3 : V → Prop
  | .bl _ => True
  | .int _ => True
  | .str _ => True
  | _ => False
def spUp : Sp := fun vs H Q _ => ∃ (v : V) (m : Int), vs = [v, .int m] ∧ flat3 v ∧ Q (.bl (upB v m)) H
abbrev HasUp (P : Program) (w : World) (K : PySem.W.Frag) (mg : Str → Option Value) (base : Heap) : Prop := Has P w K mg base 1 "is_upto" ["thing", "most"] spUp
theorem sc_up : FnScope ["thing", "most"] ["thing", "most"] (defScope s_is_upto) := ⟨rfl, rfl, rfl, by decide +kernel, rfl, by decide +kernel, by decide +kernel⟩
theorem has_up (F : FnAt K mg "is_upto" s_is_upto ["thing", "most"]) (B : Blt mg) : HasUp P w K mg base := F.has fun F => by
  refine F.ok sc_up (fun vs H Q E h => ?_) (fun cdv A outer s H vs Q E hr h => ?_)
  · obtain ⟨v, m, rfl, _⟩ := h
    rfl
  · obtain ⟨v, m, rfl, hv, q⟩ := h
    refine ⟨_, (pss_one (ps_ret (pe_and (pe_callB call_isi (by rfl) B.isinstance (by decide +kernel) (pa_cons (pv 0) (pa_cons (pe_bltn (v := .ty "int") (by rfl) B.int (by decide +kernel) rfl) pa_nil))) (pe_and (pe_not (pe_callB call_isi (by rfl) B.isinstance (by decide +kernel) (pa_cons (pv 0) (pa_cons (pe_bltn (v := .ty "bool") (by rfl) B.bool (by decide +kernel) rfl) pa_nil)))) (pe_one (pe_chain op_le op_le pe_int (pv 0) (pv 1))))))), ?_⟩
    cases v with
    | int i =>
      walk_at "go"
      refine w_chain2 (fun h0 => ?_) (fun h0 => ?_)
      · walk_at "go"
        rw [upB, decide_eq_true h0, Bool.true_and] at q
        exact q
      · walk_at "go"
        rw [upB, decide_eq_false h0, Bool.false_and] at q
        exact q
    | bl b =>
      walk_at "go"
      exact q
    | str x =>
      walk_at "go"
      exact q
    | non => exact hv.elim
    | byt b => exact hv.elim
    | flt b => exact hv.elim
    | ref b => exact hv.elim
    | ty b => exact hv.elim
end
end Sf
namespace Sf
open PySem PySem.Spec PyProof.Rows L2 TL
/-! ### worlds in the heap -/
def wf (pl ld : Addr) : List (Str × V) := putF "leads" (.ref ld) (putF "places" (.ref pl) [])
theorem fpl_ne : ¬ (("places" : Str) = "leads") := by decide +kernel
theorem wf_places (pl ld : Addr) : (wf pl ld).lookup ("places" : Str) = some (.ref pl) := by
  unfold wf
  rw [lookup_putF, if_neg fpl_ne, lookup_putF, if_pos rfl]
theorem wf_leads (pl ld : Addr) : (wf pl ld).lookup ("leads" : Str) = some (.ref ld) := by
  unfold wf
  rw [lookup_putF, if_pos rfl]
theorem wf_no (pl ld : Addr) {m : Str} (h1 : ¬ m = "leads") (h2 : ¬ m = "places") : (wf pl ld).lookup m = none := by
  unfold wf
  rw [lookup_putF, if_neg h1, lookup_putF, if_neg h2]
  all_goals rfl
/-- moves in the heap -/
def MvAt (H : Hp) (v : V) (m : Mv) : Prop := ∃ t, v = .ref t ∧ H t = some (.tup [.str (one m.1), .int m.2.1, .int m.2.2])
abbrev MvsAt (H : Hp) (vs : List V) (ms : List Mv) : Prop := Paired (MvAt H) vs ms
/-- tuples stand -/
def Tps (H H' : Hp) : Prop := ∀ a xs, H a = some (.tup xs) → H' a = some (.tup xs)
theorem Tps.of {H H' : Hp} (s : Same H H') : Tps H H' := fun a xs h => s _ _ h
theorem Tps.refl {H : Hp} : Tps H H := fun _ _ h => h
theorem Tps.trans {H H1 H2 : Hp} (a : Tps H H1) (b : Tps H1 H2) : Tps H H2 := fun c xs h => b c xs (a c xs h)
theorem Tps.off {H H1 H2 : Hp} {p : Addr} {ys : List V} (a : Tps H H1) (h1 : H1 p = some (.lst ys)) (b : Of p H1 H2) : Tps H H2 := fun c xs h => b.at (ne_of (a _ _ h) h1 (by intro z; cases z)) (a _ _ h)
theorem Tps.offD {H H1 H2 : Hp} {p : Addr} {ys : List (Key × V)} (a : Tps H H1) (h1 : H1 p = some (.dK ys)) (b : Of p H1 H2) : Tps H H2 := fun c xs h => b.at (ne_of (a _ _ h) h1 (by intro z; cases z)) (a _ _ h)
theorem Tps.fx {H H1 : Hp} {b l : Addr} (h : Bag H b l) (f : Fx b H H1) : Tps H H1 := fun c xs e => f _ _ e (by
  obtain ⟨ns, k, z, r, hb⟩ := h
  exact ne_of e hb.hb (by intro q; cases q))
theorem MvsAt.tps {H H' : Hp} (s : Tps H H') {vs : List V} {ms : List Mv} (h : MvsAt H vs ms) : MvsAt H' vs ms := Paired.mapP h fun v m ⟨t, e, ht⟩ => ⟨t, e, s _ _ ht⟩
theorem paired_get {α β : Type} {R : α → β → Prop} : ∀ {as : List α} {bs : List β} {i : Nat} {a : α}, Paired R as bs → as[i]? = some a → ∃ b, bs[i]? = some b ∧ R a b
  | _, _, _, _, .nil, e => by simp at e
  | _, _, 0, _, .cons r _, e => by simp at e; subst e; exact ⟨_, rfl, r⟩
  | _, _, i + 1, x, .cons _ t, e => by
    obtain ⟨u, h1, h2⟩ := paired_get (i := i) (a := x) t (by simpa using e)
    exact ⟨u, by simpa using h1, h2⟩
def leV (d : Nat → Addr) (l : List Nat) : List (Key × V) := l.map fun c => ((Sum.inr (one c) : Key), V.ref (d c))
/-- leads in the heap; those of N are not known ahead -/
structure LdAt (H : Hp) (ld : Addr) (d : Nat → Addr) (L : Nat → List (Int × Int)) : Prop where
  hd : H ld = some (.dK (leV d sgs))
  hc : ∀ c ∈ sgs, H (d c) = some (.dK (kvI (L c)))
theorem LdAt.same {H H' : Hp} {ld : Addr} {d : Nat → Addr} {L : Nat → List (Int × Int)} (h : LdAt H ld d L) (s : Same H H') : LdAt H' ld d L := ⟨s _ _ h.hd, fun c hc => s _ _ (h.hc c hc)⟩
/-- a world -/
def WAt (C : Addr) (H : Hp) (p : Addr) (n : Int) (L : Nat → List (Int × Int)) : Prop := ∃ (dx pl ld : Addr) (d : Nat → Addr), H p = some (.ins C dx (wf pl ld)) ∧ H pl = some (.lst (rgV 0 n)) ∧ LdAt H ld d L
theorem WAt.same {C : Addr} {H H' : Hp} {p : Addr} {n : Int} {L : Nat → List (Int × Int)} (s : Same H H') : WAt C H p n L → WAt C H' p n L
  | ⟨dx, pl, ld, d, h1, h2, h3⟩ => ⟨dx, pl, ld, d, s _ _ h1, s _ _ h2, h3.same s⟩
structure WC (K : PySem.W.Frag) (mg : Str → Option Value) (C : Addr) : Prop where
  cl : Cls K C
  nP : PySem.W.findIn K (.ref C) "places" = some none
  nL : PySem.W.findIn K (.ref C) "leads" = some none
  mgC : mg "World" = some (.ref C)
  ha : PySem.W.findIn K (.ref C) "__class__" = some (some (.builtin "object.__class__"))
  hn : PySem.W.specialIn K (.builtin "object.__class__") "__get__" = some (some (.builtin "getset_descriptor.__get__"))
  htk : PySem.W.takesIn K (.builtin "object.__class__") = some true
  hm : PySem.W.mroIn K C (.type "object") = some true
  ne : PySem.W.findIn K (.ref C) "__ne__" = some (some (.builtin "object.__ne__"))
section
variable {P : Program} {w : World} {K : PySem.W.Frag} {mg : Str → Option Value} {base : Heap} {C : Addr}
/-! ### is_move (a move that is one) -/
def spIm : Sp := fun vs H Q _ => ∃ (t : Addr) (m : Mv) (n : Int), vs = [.ref t, .int n] ∧ H t = some (.tup [.str (one m.1), .int m.2.1, .int m.2.2]) ∧ 97 ≤ m.1 ∧ m.1 ≤ 104 ∧ 0 ≤ m.2.1 ∧ m.2.1 < n ∧ 0 ≤ m.2.2 ∧ m.2.2 < n ∧ Q (.bl true) H
abbrev HasIm (P : Program) (w : World) (K : PySem.W.Frag) (mg : Str → Option Value) (base : Heap) : Prop := Has P w K mg base 2 "is_move" ["move", "many"] spIm
theorem sc_im : FnScope ["move", "many"] ["move", "many"] (defScope s_is_move) := ⟨rfl, rfl, rfl, by decide +kernel, rfl, by decide +kernel, by decide +kernel⟩
theorem upB_true {i m : Int} (h0 : 0 ≤ i) (h1 : i ≤ m) : upB (.int i) m = true := by
  show (decide (0 ≤ i) && decide (i ≤ m)) = true
  rw [decide_eq_true h0, decide_eq_true h1]
  rfl
theorem has_im (F : FnAt K mg "is_move" s_is_move ["move", "many"]) (B : Blt mg) (h_Up : HasUp P w K mg base) {t1 : Tok} (C_LETTERS : mg "LETTERS" = some (.str (Str.ofString "abcdefgh") t1)) : HasIm P w K mg base := F.has fun F => by
  obtain ⟨f_Up, fd_Up, g_Up, k_Up, b_Up, G_Up⟩ := h_Up
  refine F.ok sc_im (fun vs H Q E h => ?_) (fun cdv A outer s H vs Q E hr h => ?_)
  · obtain ⟨t, m, n, rfl, _⟩ := h
    rfl
  · obtain ⟨t, m, n, rfl, ht, a1, a2, a3, a4, a5, a6, q⟩ := h
    refine ⟨_, (pss_cons (ps_if (PW.pt (pw_or (pt_cmpR op_ne (pe_callB call_lenQ (by rfl) B.len PySem.boot_len (pa_cons (pv 0) pa_nil)) pe_int (nomark _)) (pw_or (pt_not (pt_val (pe_call G_Up (hr.mono (by decide)) (by rfl) g_Up k_Up b_Up .nil pass0 (pa_cons (pe_ix ix_tup (pv 0) pe_int (fun _ _ => rfl)) (pa_cons (pe_op op_sub (pv 1) pe_int) pa_nil))))) (pw_or1 (pt_not (pt_val (pe_call G_Up (hr.mono (by decide)) (by rfl) g_Up k_Up b_Up .nil pass0 (pa_cons (pe_ix ix_tup (pv 0) pe_int (fun _ _ => rfl)) (pa_cons (pe_op op_sub (pv 1) pe_int) pa_nil))))))))) (pss_one (ps_ret pe_bl)) pss_nil) (pss_one (ps_ret (pe_and (pe_callB call_isi (by rfl) B.isinstance (by decide +kernel) (pa_cons (pe_ix ix_tup (pv 0) pe_int (fun _ _ => rfl)) (pa_cons (pe_bltn (v := .ty "str") (by rfl) B.str (by decide +kernel) rfl) pa_nil))) (pe_and (pe_cmpR op_eq (pe_callB call_lenS (by rfl) B.len PySem.boot_len (pa_cons (pe_ix ix_tup (pv 0) pe_int (fun _ _ => rfl)) pa_nil)) pe_int (nomark _)) (pe_one (pe_cmpR op_inSg (pe_ix ix_tup (pv 0) pe_int (fun _ _ => rfl)) (pe_gS (by rfl) C_LETTERS) rfl))))))), ?_⟩
    walk_at "go"
    refine w_orN2 (fun z => absurd rfl z) fun _ => ?_
    walk_at "go"
    refine ⟨_, _, rfl, trivial, ?_⟩
    rw [upB_true a3 (by omega)]
    walk_at "go"
    refine ⟨_, _, rfl, trivial, ?_⟩
    rw [upB_true a5 (by omega)]
    walk_at "go"
    refine w_lenS (by rw [len_one]; decide) ?_
    walk_at "go"
    refine w_andV2 (fun _ => ?_) (fun z => absurd rfl z)
    walk_at "go"
    rw [decide_eq_true (in_small.mpr ⟨a1, a2⟩)]
    exact q
end
end Sf
namespace Sf
open PySem PySem.Spec PyProof.Rows L2 TL
section
variable {P : Program} {w : World} {K : PySem.W.Frag} {mg : Str → Option Value} {base : Heap} {C : Addr}
/-! ### leads_by -/
def spLb : Sp := fun vs H Q _ => ∃ (n : Int) (a : Addr) (us : List V) (ms : List Mv), vs = [.int n, .ref a] ∧ H a = some (.lst us) ∧ MvsAt H us ms ∧ WOk n ms ∧ ms.length ≤ 100000 ∧
  ∀ (ld : Addr) (d : Nat → Addr) (H' : Hp), H ld = none → (∀ c ∈ sgs, H (d c) = none) → Same H H' → LdAt H' ld d (LM ms) → Q (.ref ld) H'
abbrev HasLb (P : Program) (w : World) (K : PySem.W.Frag) (mg : Str → Option Value) (base : Heap) : Prop := Has P w K mg base 3 "leads_by" ["many", "moves"] spLb
theorem sc_lb : FnScope ["many", "moves", "sign", "leads", "move", "letter", "start", "end"] ["many", "moves"] (defScope s_leads_by) := ⟨rfl, rfl, rfl, by decide +kernel, rfl, by decide +kernel, by decide +kernel⟩
/-- what stands while leads are laid -/
structure LdIn (H0 H : Hp) (ld : Addr) (d : Nat → Addr) (S : List Nat) (L : Nat → List (Int × Int)) : Prop where
  hd : H ld = some (.dK (leV d S))
  hc : ∀ c ∈ S, H (d c) = some (.dK (kvI (L c)))
  sm : Same H0 H
  nl : H0 ld = none
  nd : ∀ c ∈ S, H0 (d c) = none
  ne : ∀ c ∈ S, d c ≠ ld
  inj : ∀ c ∈ S, ∀ e ∈ S, d c = d e → c = e
theorem kvI_put {l : List (Int × Int)} {x y : Int} (h : lk l x = none) : putK (kvI l) (Sum.inl x) (.int y) = kvI (l ++ [(x, y)]) := by
  rw [putK_new _ (by rw [val_kvI, h]; rfl)]
  unfold kvI
  rw [List.map_append]
  rfl
theorem LdIn.put {H0 H H1 : Hp} {ld : Addr} {d : Nat → Addr} {L : Nat → List (Int × Int)} {c : Nat} {x y : Int} (h : LdIn H0 H ld d sgs L) (hc : c ∈ sgs) (hx : lk (L c) x = none)
    (h1 : H1 (d c) = some (.dK (putK (kvI (L c)) (Sum.inl x) (.int y)))) (o : Of (d c) H H1) : LdIn H0 H1 ld d sgs (fun e => if e = c then L c ++ [(x, y)] else L e) := by
  refine ⟨o.at (h.ne c hc).symm h.hd, fun e he => ?_, h.sm.off o (h.nd c hc), h.nl, h.nd, h.ne, h.inj⟩
  by_cases z : e = c
  · subst z
    rw [if_pos rfl, h1, kvI_put hx]
  · rw [if_neg z]
    exact o.at (fun q => z (h.inj e he c hc q)) (h.hc e he)
theorem LdIn.cong {H0 H : Hp} {ld : Addr} {d : Nat → Addr} {S : List Nat} {L L' : Nat → List (Int × Int)} (h : LdIn H0 H ld d S L) (e : ∀ c ∈ S, L c = L' c) : LdIn H0 H ld d S L' := ⟨h.hd, fun c hc => by rw [← e c hc]; exact h.hc c hc, h.sm, h.nl, h.nd, h.ne, h.inj⟩
theorem up_one {c : Nat} (h : 97 ≤ c ∧ c ≤ 104) : Txt.upper (one c) = one (c - 32) := upper_one h
theorem small_sgs {c : Nat} (h : 97 ≤ c ∧ c ≤ 104) : c ∈ sgs := sgs_iff.mpr (sgn_iff.mpr (.inl h))
theorem great_sgs {c : Nat} (h : 97 ≤ c ∧ c ≤ 104) : c - 32 ∈ sgs := sgs_iff.mpr (sgn_iff.mpr (.inr (by omega)))
theorem has_lb (F : FnAt K mg "leads_by" s_leads_by ["many", "moves"]) (B : Blt mg) (h_Im : HasIm P w K mg base) {t1 : Tok} (C_SIGNS : mg "SIGNS" = some (.str (Str.ofString "aAbBcCdDeEfFgGhH") t1)) : HasLb P w K mg base := F.has fun F => by
  obtain ⟨f_Im, fd_Im, g_Im, k_Im, b_Im, G_Im⟩ := h_Im
  refine F.ok sc_lb (fun vs H Q E h => ?_) (fun cdv A outer s H vs Q E hr h => ?_)
  · obtain ⟨n, a, us, ms, rfl, _⟩ := h
    rfl
  · obtain ⟨n, a, us, ms, rfl, ha, hm, ok, hlen, q⟩ := h
    refine ⟨_, (pss_cons (ps_setDc (i := 3) (own := [("sign", 2)]) (g := gName 2) (tt := tYes) (by rfl) sc_lb.nd rfl rfl (swD_true rfl rfl rfl (by decide +kernel)) (pi_str (pe_gS (by rfl) C_SIGNS)) (blkOk_by (own := [("sign", 2)]) (N := ["many", "moves", "sign", "leads", "move", "letter", "start", "end"]) (sc := defScope s_leads_by) (by decide +kernel)) (fun _ _ _ _ _ => pg_name (i := 2) sc_lb.nd rfl (.inl rfl)) (fun _ _ _ _ _ => pts_nil) (fun _ _ _ _ _ => (pv 2)) (fun _ _ _ _ _ => pe_dnewK)) (pss_cons (ps_for PassesOwn.never rfl (pi_list (pv 1)) (pg_name (i := 4) sc_lb.nd rfl (.inl rfl)) (pss_cons (ps_if (pt_not (pt_val (pe_call G_Im (hr.mono (by decide)) (by rfl) g_Im k_Im b_Im .nil pass0 (pa_cons (pv 4) (pa_cons (pv 0) pa_nil))))) (pss_one (ps_never)) pss_nil) (pss_cons (ps_asg (pv 4) (pg_tup rfl (pgs_cons (pg_name (i := 5) sc_lb.nd rfl (.inl rfl)) (pgs_cons (pg_name (i := 6) sc_lb.nd rfl (.inl rfl)) (pgs_cons (pg_name (i := 7) sc_lb.nd rfl (.inl rfl)) pgs_nil))))) (pss_cons (ps_if (PW.pt (pw_or (pt_cmp (pc_din (hu_of hr) (pv 6) (pe_dget (hu_of hr) (pv 3) (pv 5) (fun _ _ => rfl)))) (pw_or1 (pt_cmp (pc_din (hu_of hr) (pv 7) (pe_dget (hu_of hr) (pv 3) (pe_m0 PySem.F.slot_str_upper PySem.F.type_str_upper mt_upN (pv 5)) (fun _ _ => rfl))))))) (pss_one (ps_never)) pss_nil) (pss_cons (ps_dput (hu_of hr) (pe_dget (hu_of hr) (pv 3) (pv 5) (fun _ _ => rfl)) (pv 6) (pv 7) rfl) (pss_one (ps_dput (hu_of hr) (pe_dget (hu_of hr) (pv 3) (pe_m0 PySem.F.slot_str_upper PySem.F.type_str_upper mt_upN (pv 5)) (fun _ _ => rfl)) (pv 7) (pv 6) rfl))))))) (pss_one (ps_ret (pv 3))))), ?_⟩
    walk_at "go"
    refine w_dcS (fun p i H1 => ∃ d, LdIn H H1 p d (sgs.take i) fun _ => []) (fun p H1 hp nw => ⟨fun _ => 0, hp, fun c hc => absurd hc (by simp), nw.same, nw.nn, fun c hc => absurd hc (by simp), fun c hc => absurd hc (by simp), fun c hc => absurd hc (by simp)⟩) ?_ ?_
    · rintro p i c H1 hc ⟨d, hI⟩
      have hc' : sgs[i]? = some c := by rw [← hc]; exact congrArg (·[i]?) tl_signs.symm
      have hnd : c ∉ sgs.take i := fun z => by
        have := take_snoc hc' ▸ (sgs_nd.sublist (List.take_sublist (i + 1) sgs))
        rw [List.nodup_append] at this
        exact this.2.2 c z c (List.mem_singleton.mpr rfl) rfl
      walk_at "go"
      refine w_dnewK (fun q H2 hq nq => ?_)
      refine w_kItDS (nq.at hI.hd) (by rw [leV, List.length_map, List.length_take]; exact Nat.lt_of_le_of_lt (Nat.min_le_right _ _) (by decide)) (fun H3 h3 o3 => ?_)
      have hin : ∀ e ∈ sgs.take (i + 1), e = c ∨ (e ≠ c ∧ e ∈ sgs.take i) := fun e he => by
        by_cases z : e = c
        · exact .inl z
        · rw [take_snoc hc', List.mem_append] at he
          exact .inr ⟨z, he.resolve_right fun y => z (List.mem_singleton.mp y)⟩
      refine ⟨fun e => if e = c then q else d e, ?_, fun e he => ?_, (hI.sm.nw nq).off o3 hI.nl, hI.nl, fun e he => ?_, fun e he => ?_, fun e he f hf z => ?_⟩
      · unfold leV at h3 ⊢
        rw [h3, putK_new _ (val_sgs_none hnd), take_snoc hc', List.map_append]
        refine congrArg some (congrArg HO.dK ?_)
        refine congr (congrArg _ (List.map_congr_left fun e he => ?_)) ?_
        · show _ = (Sum.inr (one e), V.ref (if e = c then q else d e))
          rw [if_neg (show ¬ e = c from fun z => hnd (z ▸ he))]
        · show _ = [((Sum.inr (one c) : Key), V.ref (if c = c then q else d c))]
          rw [if_pos rfl]
      · rcases hin e he with rfl | ⟨z, hz⟩
        · rw [if_pos rfl]
          exact o3.at (Nw.ne nq hI.hd).symm hq
        · rw [if_neg z]
          exact o3.at (hI.ne e hz) (nq.at (hI.hc e hz))
      · rcases hin e he with rfl | ⟨z, hz⟩
        · rw [if_pos rfl]
          exact hI.sm.free nq.nn
        · rw [if_neg z]
          exact hI.nd e hz
      · rcases hin e he with rfl | ⟨z, hz⟩
        · rw [if_pos rfl]
          exact (Nw.ne nq hI.hd).symm
        · rw [if_neg z]
          exact hI.ne e hz
      · rcases hin e he with rfl | ⟨ze, hze⟩
        · rcases hin f hf with rfl | ⟨zf, hzf⟩
          · rfl
          · rw [if_pos rfl, if_neg zf] at z
            exact absurd z.symm (Nw.ne nq (hI.hc f hzf))
        · rcases hin f hf with rfl | ⟨zf, hzf⟩
          · rw [if_neg ze, if_pos rfl] at z
            exact absurd z (Nw.ne nq (hI.hc e hze))
          · rw [if_neg ze, if_neg zf] at z
            exact hI.inj e hze f hzf z
    · rintro ld H1 ⟨d, hI⟩
      have hI : LdIn H H1 ld d sgs fun _ => [] := by
        have e : sgs.take (tl (Str.ofString "aAbBcCdDeEfFgGhH")).length = sgs := by
          rw [show tl (Str.ofString "aAbBcCdDeEfFgGhH") = sgs from tl_signs]
          exact List.take_length
        rw [e] at hI
        exact hI
      have ha1 := hI.sm _ _ ha
      walk_at "go"
      refine w_list (xs := us) (fun i σ H2 => ∃ (y2 y4 y5 y6 y7 : Option V), σ = [some (.int n), some (.ref a), y2, some (.ref ld), y4, y5, y6, y7] ∧ LdIn H H2 ld d sgs (LM (ms.take i)))
        ⟨none, none, none, none, none, rfl, hI.cong fun c _ => by rw [List.take_zero]; rfl⟩ (fun i σ H2 _ ⟨_, _, _, _, _, _, h⟩ => h.sm _ _ ha) ?_ ?_
      · rintro i v σ H2 hv ⟨y2, y4, y5, y6, y7, rfl, hJ⟩
        obtain ⟨m, hmi, t, rfl, ht⟩ := paired_get hm hv
        have ht2 := hJ.sm _ _ ht
        have hok : WOk n (ms.take i ++ [m]) := by rw [← take_snoc hmi]; exact ok.take _
        have hr' := hok.rg m (List.mem_append_right _ (List.mem_singleton.mpr rfl))
        have hsm := small_sgs ⟨hr'.1, hr'.2.1⟩
        have hgr := great_sgs ⟨hr'.1, hr'.2.1⟩
        have e1 := new_start hok
        have e2 := new_end hok
        have hne : m.1 - 32 ≠ m.1 := by omega
        have len0 : ∀ c, (kvI (LM (ms.take i) c)).length < sizeLine := fun c => by
          rw [kvI_len]
          exact lineLt_of (Nat.le_trans (LM_len _ _) (Nat.le_trans (by rw [List.length_take]; exact Nat.min_le_right _ _) hlen))
        walk_at "go"
        refine ⟨t, m, n, rfl, ht2, hr'.1, hr'.2.1, hr'.2.2.1, hr'.2.2.2.1, hr'.2.2.2.2.1, hr'.2.2.2.2.2, ?_⟩
        walk_at "go"
        refine w_kDGetS hJ.hd (val_sgs hsm) ?_
        have hd1 := hJ.hc _ hsm
        have hd2 := hJ.hc _ hgr
        walk_at "go"
        rw [val_kvI, e1]
        refine w_orF ?_
        walk_at "go"
        refine w_up1 ⟨hr'.1, hr'.2.1⟩ ?_
        refine w_kDGetS hJ.hd (val_sgs hgr) ?_
        walk_at "go"
        rw [val_kvI, e2]
        refine w_ifF ?_
        walk_at "go"
        refine w_kDGetS hJ.hd (val_sgs hsm) ?_
        walk_at "go"
        refine w_kDPutI hd1 (len0 _) (fun H3 h3 o3 => ?_)
        have hJ3 := hJ.put hsm e1 h3 o3
        walk_at "go"
        refine w_up1 ⟨hr'.1, hr'.2.1⟩ ?_
        refine w_kDGetS hJ3.hd (val_sgs hgr) ?_
        walk_at "go"
        have hd3 := hJ3.hc _ hgr
        rw [if_neg hne] at hd3
        refine w_kDPutI hd3 (len0 _) (fun H4 h4 o4 => ?_)
        have hJ4 := hJ3.put hgr (by rw [if_neg hne]; exact e2) (by rw [if_neg hne]; exact h4) o4
        walk_at "go"
        refine ⟨_, _, _, _, _, rfl, hJ4.cong fun c _ => ?_⟩
        rw [take_snoc hmi, LM_snoc]
        by_cases z1 : c = m.1 - 32
        · subst z1
          rw [if_pos rfl, if_neg hne, mvOn_great hr'.1]
          rfl
        · rw [if_neg z1]
          by_cases z2 : c = m.1
          · subst z2
            rw [if_pos rfl, mvOn_self]
            rfl
          · rw [if_neg z2, mvOn_other z2 z1 hr'.1, Option.toList, List.append_nil]
      · rintro σ H2 ⟨y2, y4, y5, y6, y7, rfl, hJ⟩
        walk_at "go"
        refine q ld d H2 hJ.nl hJ.nd hJ.sm ⟨hJ.hd, fun c hc => ?_⟩
        have e : ms.take us.length = ms := by rw [Paired.length hm, List.take_length]
        have := hJ.hc c hc
        rw [e] at this
        exact this
end
end Sf
namespace Sf
open PySem PySem.Spec PyProof.Rows L2 TL
section
variable {P : Program} {w : World} {K : PySem.W.Frag} {mg : Str → Option Value} {base : Heap} {C : Addr}
/-! ### World.__init__ -/
def spWI (C : Addr) : Sp := fun vs H Q _ => ∃ (p dx a : Addr) (n : Int) (us : List V) (ms : List Mv), vs = [.ref p, .int n, .ref a] ∧ H p = some (.ins C dx []) ∧ H a = some (.lst us) ∧ MvsAt H us ms ∧ WOk n ms ∧ ms.length ≤ 100000 ∧ 1 ≤ n ∧ n ≤ 1000 ∧
  ∀ H' G : Hp, WAt C G p n (LM ms) → Same G H' → (∀ b o, G b = some o → b = p ∨ H b = none) → (∀ b o, H b = some o → b ≠ p → H' b = some o) → Q .non H'
theorem sc_wi : FnScope ["self", "many", "moves"] ["self", "many", "moves"] (defScope s_World___init__) := ⟨rfl, rfl, rfl, by decide +kernel, rfl, by decide +kernel, by decide +kernel⟩
theorem has_wi (F : MAt K C "__init__" "World.__init__" s_World___init__ ["self", "many", "moves"]) (B : Blt mg) (T : WC K mg C) (h_Up : HasUp P w K mg base) (h_Lb : HasLb P w K mg base) {t1 : Tok} (C_MOST_PLACES : mg "MOST_PLACES" = some (.int 1000 t1)) : HasM P w K mg base C 4 "__init__" ["self", "many", "moves"] (spWI C) := F.has fun F => by
  obtain ⟨f_Up, fd_Up, g_Up, k_Up, b_Up, G_Up⟩ := h_Up
  obtain ⟨f_Lb, fd_Lb, g_Lb, k_Lb, b_Lb, G_Lb⟩ := h_Lb
  refine F.ok sc_wi (fun vs H Q E h => ?_) (fun cdv A outer s H vs Q E hr h => ?_)
  · obtain ⟨p, dx, a, n, us, ms, rfl, _⟩ := h
    rfl
  · obtain ⟨p, dx, a, n, us, ms, rfl, hp, ha, hm, ok, hlen, n1, n2, q⟩ := h
    refine ⟨_, (pss_cons (ps_if (PW.pt (pw_or (pt_not (pt_val (pe_call G_Up (hr.mono (by decide)) (by rfl) g_Up k_Up b_Up .nil pass0 (pa_cons (pv 1) (pa_cons (pe_gI (by rfl) C_MOST_PLACES) pa_nil))))) (pw_or1 (pt_cmpR op_eq (pv 1) pe_int (nomark _))))) (pss_one (ps_never)) pss_nil) (pss_cons (ps_fld (pv 0) (pe_listRg rfl (by rfl) B.list (prg_1 (by rfl) B.range (pv 1))) rfl) (pss_one (ps_fld (pv 0) (pe_call G_Lb (hr.mono (by decide)) (by rfl) g_Lb k_Lb b_Lb .nil pass0 (pa_cons (pv 1) (pa_cons (pv 2) pa_nil))) rfl)))), ?_⟩
    walk_at "go"
    refine ⟨_, _, rfl, trivial, ?_⟩
    rw [upB_true (by omega) n2]
    walk_at "go"
    refine w_if2 (fun z => absurd z (by omega)) fun _ => ?_
    walk_at "go"
    refine w_kRgL (.of_le (by decide) (by omega) (by decide) (by omega)) (fun pl H1 hpl npl => ?_)
    walk_at "go"
    refine w_kSFld (npl.at hp) T.cl T.nP (by decide) (fun H2 hp2 o2 => ?_)
    have nep : a ≠ p := ne_of ha hp (by intro z; cases z)
    have hpl2 : H2 pl = some (.lst (rgV 0 n)) := o2.at (Nw.ne npl hp).symm hpl
    have t2 : Tps H H2 := fun b xs h => o2.at (ne_of h hp (by intro z; cases z)) (npl.at h)
    walk_at "go"
    refine ⟨n, a, us, ms, rfl, o2.at nep (npl.at ha), hm.tps t2, ok, hlen, fun ld d H3 nld nd s3 hL => ?_⟩
    walk_at "go"
    refine w_kSFld (s3.at hp2) T.cl T.nL (by rw [show (putF "places" (V.ref pl) [] : List (Str × V)).length = 1 from rfl]; decide) (fun H4 hp4 o4 => ?_)
    walk_at "go"
    have hpl3 := s3.at hpl2
    have npp : pl ≠ p := (Nw.ne npl hp).symm
    have nlp : ld ≠ p := fun z => by rw [z, hp2] at nld; cases nld
    have ndp : ∀ c ∈ sgs, d c ≠ p := fun c hc z => by have := nd c hc; rw [z, hp2] at this; cases this
    have hnone : ∀ b, b ≠ p → H2 b = none → H b = none := fun b hb h => by
      cases e : H b with
      | none => rfl
      | some o => rw [o2.at hb (npl.at e)] at h; cases h
    refine q H4 (fun b => if b = p ∨ b = pl ∨ b = ld ∨ ∃ c ∈ sgs, b = d c then H4 b else none) ⟨dx, pl, ld, d, ?_, ?_, ?_, fun c hc => ?_⟩ (fun b o e => ?_) (fun b o e => ?_) (fun b o e hb => ?_)
    · show (if _ then _ else _) = _
      rw [if_pos (.inl rfl)]
      exact hp4
    · show (if _ then _ else _) = _
      rw [if_pos (.inr (.inl rfl))]
      exact o4.at npp hpl3
    · show (if _ then _ else _) = _
      rw [if_pos (.inr (.inr (.inl rfl)))]
      exact o4.at nlp hL.hd
    · show (if _ then _ else _) = _
      rw [if_pos (.inr (.inr (.inr ⟨c, hc, rfl⟩)))]
      exact o4.at (ndp c hc) (hL.hc c hc)
    · have e : (if _ then _ else _) = _ := e
      split at e
      · exact e
      · cases e
    · have e : (if _ then _ else _) = _ := e
      split at e
      · rename_i h
        rcases h with h | h | h | ⟨c, hc, h⟩
        · exact .inl h
        · exact .inr (by rw [h]; exact npl.nn)
        · exact .inr (hnone b (by rw [h]; exact nlp) (by rw [h]; exact nld))
        · exact .inr (hnone b (by rw [h]; exact ndp c hc) (by rw [h]; exact nd c hc))
      · cases e
    · exact o4.at hb (s3.at (o2.at hb (npl.at e)))
/-- a new world: what stands of it, and what stood -/
theorem w_world {H : Hp} {Q : VK} {a : Addr} {n : Int} {us : List V} {ms : List Mv} {E : XK} (ha : H a = some (.lst us)) (hm : MvsAt H us ms) (ok : WOk n ms) (hlen : ms.length ≤ 100000) (n1 : 1 ≤ n) (n2 : n ≤ 1000)
    (k : ∀ (p : Addr) (H' G : Hp), WAt C G p n (LM ms) → Same G H' → (∀ b o, G b = some o → H b = none) → Same H H' → Q (.ref p) H') : kMake C (spWI C) [] E Q [.int n, .ref a] H := fun x dx nx ndx hne => by
  have sm : Same H (upd (upd H dx (.own x)) x (.ins C dx [])) := (same_upd ndx).trans (same_upd (by rw [upd_ne hne.symm]; exact nx))
  refine ⟨x, dx, a, n, us, ms, rfl, upd_same, sm.at ha, hm.tps (.of sm), ok, hlen, n1, n2, fun H' G hW sG hG hf => ⟨rfl, k x H' G hW sG (fun b o e => ?_) fun b o e => hf b o (sm _ _ e) (ne_of_none e nx)⟩⟩
  rcases hG b o e with h | h
  · rw [h]
    exact nx
  · exact sm.free h
end
end Sf
namespace Sf
open PySem PySem.Spec PyProof.Rows L2 TL
section
variable {P : Program} {w : World} {K : PySem.W.Frag} {mg : Str → Option Value} {base : Heap} {C : Addr}
/-! ### World.led -/
def spLed (C : Addr) : Sp := fun vs H Q _ => ∃ (p : Addr) (n x : Int) (L : Nat → List (Int × Int)) (z : Str), vs = [.ref p, .str z, .int x] ∧ WAt C H p n L ∧ Wd z ∧ Q (oV (ledM (stp L) (tl z) x)) H
theorem sc_led : FnScope ["self", "word", "place", "here", "sign"] ["self", "word", "place"] (defScope s_World_led) := ⟨rfl, rfl, rfl, by decide +kernel, rfl, by decide +kernel, by decide +kernel⟩
theorem has_led (F : MAt K C "led" "World.led" s_World_led ["self", "word", "place"]) (T : WC K mg C) : HasM P w K mg base C 1 "led" ["self", "word", "place"] (spLed C) := F.has fun F => by
  refine F.ok sc_led (fun vs H Q E h => ?_) (fun cdv A outer s H vs Q E hr h => ?_)
  · obtain ⟨p, n, x, L, z, rfl, _⟩ := h
    rfl
  · obtain ⟨p, n, x, L, z, rfl, ⟨dx, pl, ld, d, hp, hpl, hL⟩, hz, q⟩ := h
    refine ⟨_, (pss_cons (ps_set (i := 3) sc_led.nd rfl (.inl rfl) (pv 2)) (pss_cons (ps_for PassesOwn.never rfl (pi_str (pv 1)) (pg_name (i := 4) sc_led.nd rfl (.inl rfl)) (pss_cons (ps_set (i := 3) sc_led.nd rfl (.inl rfl) (pe_dget1 (hu_of hr) (pe_dget (hu_of hr) (pe_fld (pv 0) rfl) (pv 4) (fun _ _ => rfl)) (pv 3) ⟨rfl, rfl, rfl, rfl⟩)) (pss_one (ps_if (pt_cmpR op_isNn (pv 3) pe_non (nomark _)) (pss_one (ps_ret pe_non)) pss_nil)))) (pss_one (ps_ret (pv 3))))), ?_⟩
    have hld := hL.hd
    walk_at "go"
    refine w_str (fun i σ H2 => ∃ (y4 : Option V) (y : Int), σ = [some (.ref p), some (.str z), some (.int x), some (.int y), y4] ∧ H2 = H ∧ ledM (stp L) ((tl z).take i) x = some y) ⟨none, x, rfl, rfl, rfl⟩ ?_ ?_
    · rintro i c σ H2 hc ⟨y4, y, rfl, rfl, e⟩
      have hs : c ∈ sgs := sgs_iff.mpr (hz c (List.mem_of_getElem? hc))
      have hdc := hL.hc c hs
      have e1 := ledM_snoc (st := stp L) (x := x) hc
      rw [e] at e1
      walk_at "go"
      refine w_kFld hp T.cl T.nL (wf_leads _ _) ?_
      walk_at "go"
      refine w_kDGetS hld (val_sgs hs) ?_
      walk_at "go"
      rw [getD_kvI]
      cases e2 : lk (L c) y with
      | none =>
        walk_at "go"
        have e3 : ledM (stp L) ((tl z).take (i + 1)) x = none := by rw [e1]; exact e2
        rw [ledM_none e3] at q
        exact q
      | some y' =>
        walk_at "go"
        exact ⟨_, y', rfl, rfl, by rw [e1]; exact e2⟩
    · rintro σ H2 ⟨y4, y, rfl, rfl, e⟩
      walk_at "go"
      rw [List.take_length] at e
      rw [e] at q
      exact q
def plc (n : Int) : List Int := (List.range n.toNat).map fun i => ((i : Nat) : Int)
theorem rgV_plc (n : Int) : rgV 0 n = (plc n).map V.int := by
  unfold rgV plc
  rw [List.map_map, Int.sub_zero]
  exact List.map_congr_left fun i _ => by show V.int (0 + (i : Int)) = V.int (i : Int); rw [Int.zero_add]
theorem oV_inj {a b : Option Int} (h : oV a = oV b) : a = b := by
  cases a <;> cases b <;> first | rfl | cases h | skip
  rfl
theorem scal_oV (a b : Option Int) : scal (oV a) (oV b) = true := by
  cases a <;> cases b <;> rfl
end
end Sf
namespace Sf
open PySem PySem.Spec PyProof.Rows L2 TL
section
variable {P : Program} {w : World} {K : PySem.W.Frag} {mg : Str → Option Value} {base : Heap} {C : Addr}
/-! ### _law_world: some world -/
def spLw : Sp := fun vs H Q _ => ∃ (b l : Addr) (u : Int) (z : Str), vs = [.ref b, .int u, .str z] ∧ Bag H b l ∧ 1 ≤ u ∧ u ≤ 1000 ∧ (∀ c ∈ tl z, 97 ≤ c ∧ c ≤ 104) ∧ (tl z).Nodup ∧ (tl z).length ≤ 8 ∧
  ∀ (t f : Addr) (n : Int) (us : List V) (ms : List Mv) (H' : Hp), H' t = some (.tup [.int n, .ref f]) → H' f = some (.lst us) → MvsAt H' us ms → WOk n ms → 1 ≤ n → n ≤ u → ms.length ≤ 8000 → (∀ m ∈ ms, m.1 ∈ tl z) → Bag H' b l → Fx b H H' → H f = none → f ≠ b → f ≠ l → Q (.ref t) H'
abbrev HasLw (P : Program) (w : World) (K : PySem.W.Frag) (mg : Str → Option Value) (base : Heap) : Prop := Has P w K mg base 2 "_law_world" ["_law_bag", "_law_upto", "_law_letters"] spLw
theorem sc_lw : FnScope ["_law_bag", "_law_upto", "_law_letters", "_law_many", "_law_found", "_law_letter", "_law_starts", "_law_ends", "_law_turn", "_law_start"] ["_law_bag", "_law_upto", "_law_letters"] (defScope s__law_world) := ⟨rfl, rfl, rfl, by decide +kernel, rfl, by decide +kernel, by decide +kernel⟩
theorem plc_mem {n x : Int} : x ∈ plc n ↔ 0 ≤ x ∧ x < n := by
  unfold plc
  rw [List.mem_map]
  constructor
  · rintro ⟨i, hi, rfl⟩
    have := List.mem_range.mp hi
    omega
  · rintro ⟨h0, h1⟩
    exact ⟨x.toNat, List.mem_range.mpr (by omega), by omega⟩
theorem plc_nodup (n : Int) : (plc n).Nodup := by
  unfold plc
  refine List.Pairwise.map _ (fun a b h => ?_) List.nodup_range
  omega
theorem plc_len {n : Int} : (plc n).length = n.toNat := by
  unfold plc
  rw [List.length_map, List.length_range]
theorem plc_at {n : Int} {j : Nat} (h : j < n.toNat) : (plc n)[j]? = some (0 + (j : Int)) := by
  unfold plc
  rw [List.getElem?_map, List.getElem?_range h, Int.zero_add]
  rfl
theorem abc_mem {d : Int} : ∀ c ∈ tl (cutS (Str.ofString "abc") none (some d)), 97 ≤ c ∧ c ≤ 104 := fun c hc => by
  rw [tl_cut] at hc
  have := List.mem_of_mem_drop (List.mem_of_mem_take hc)
  rw [show tl (Str.ofString "abc") = [97, 98, 99] by decide +kernel] at this
  simp only [List.mem_cons, List.not_mem_nil, or_false] at this
  omega
theorem abc_nd {d : Int} : (tl (cutS (Str.ofString "abc") none (some d))).Nodup := by
  rw [tl_cut]
  refine List.Nodup.sublist ((List.take_sublist _ _).trans (List.drop_sublist _ _)) ?_
  rw [show tl (Str.ofString "abc") = [97, 98, 99] by decide +kernel]
  decide
theorem abc_len {d : Int} : (tl (cutS (Str.ofString "abc") none (some d))).length ≤ 8 := by
  rw [tl_cut, List.length_take, List.length_drop, show tl (Str.ofString "abc") = [97, 98, 99] by decide +kernel]
  exact Nat.le_trans (Nat.min_le_right _ _) (Nat.le_trans (Nat.sub_le _ _) (by decide))
/-- what is left to draw from -/
structure Left (n : Int) (S : List Int) (j : Nat) : Prop where
  nd : S.Nodup
  rg : ∀ x ∈ S, 0 ≤ x ∧ x < n
  ln : S.length + j = n.toNat
theorem Left.pop {n x : Int} {S R : List Int} {j : Nat} (h : Left n S j) (p : S.Perm (x :: R)) : Left n R (j + 1) ∧ x ∉ R ∧ x ∈ S ∧ (∀ y ∈ R, y ∈ S) := by
  have nd := p.nodup_iff.mp h.nd
  rw [List.nodup_cons] at nd
  have hl := p.length_eq
  rw [List.length_cons] at hl
  have := h.ln
  exact ⟨⟨nd.2, fun y hy => h.rg y (p.mem_iff.mpr (List.mem_cons_of_mem _ hy)), by omega⟩, nd.1, p.mem_iff.mpr List.mem_cons_self, fun y hy => p.mem_iff.mpr (List.mem_cons_of_mem _ hy)⟩
theorem WOk.snoc {n : Int} {ms : List Mv} {m : Mv} (h : WOk n ms) (hr : 97 ≤ m.1 ∧ m.1 ≤ 104 ∧ 0 ≤ m.2.1 ∧ m.2.1 < n ∧ 0 ≤ m.2.2 ∧ m.2.2 < n) (hp : ∀ k ∈ ms, k.1 = m.1 → k.2.1 ≠ m.2.1 ∧ k.2.2 ≠ m.2.2) : WOk n (ms ++ [m]) := by
  refine ⟨fun k hk => ?_, List.pairwise_append.mpr ⟨h.pw, List.pairwise_singleton _ _, fun k hk m' hm' => ?_⟩⟩
  · rcases List.mem_append.mp hk with hk | hk
    · exact h.rg k hk
    · rw [List.mem_singleton.mp hk]
      exact hr
  · rw [List.mem_singleton.mp hm']
    exact hp k hk
theorem paired_snoc {α β : Type} {R : α → β → Prop} {a : α} {b : β} (h : R a b) : ∀ {as : List α} {bs : List β}, Paired R as bs → Paired R (as ++ [a]) (bs ++ [b])
  | _, _, .nil => .cons h .nil
  | _, _, .cons r t => .cons r (paired_snoc h t)
theorem has_lw (F : FnAt K mg "_law_world" s__law_world ["_law_bag", "_law_upto", "_law_letters"]) (B : Blt mg) (h_Pu : HasPull P w K mg base) : HasLw P w K mg base := F.has fun F => by
  obtain ⟨f_Pu, fd_Pu, g_Pu, k_Pu, b_Pu, G_Pu⟩ := h_Pu
  refine F.ok sc_lw (fun vs H Q E h => ?_) (fun cdv A outer s H vs Q E hr h => ?_)
  · obtain ⟨b, l, u, z, rfl, _⟩ := h
    rfl
  · obtain ⟨b, l, u, z, rfl, hB, u0, u1, hz, hnd, hz8, q⟩ := h
    refine ⟨_, (pss_cons (ps_set (i := 3) sc_lw.nd rfl (.inl rfl) (pe_op op_add pe_int (pe_call G_Pu (hr.mono (by decide)) (by rfl) g_Pu k_Pu b_Pu .nil pass0 (pa_cons (pv 0) (pa_cons (pv 1) pa_nil))))) (pss_cons (ps_set (i := 4) sc_lw.nd rfl (.inl rfl) (pe_lst pa_nil)) (pss_cons (ps_for PassesOwn.never rfl (pi_str (pv 2)) (pg_name (i := 5) sc_lw.nd rfl (.inl rfl)) (pss_cons (ps_set (i := 6) sc_lw.nd rfl (.inl rfl) (pe_listRg rfl (by rfl) B.list (prg_1 (by rfl) B.range (pv 3)))) (pss_cons (ps_set (i := 7) sc_lw.nd rfl (.inl rfl) (pe_listRg rfl (by rfl) B.list (prg_1 (by rfl) B.range (pv 3)))) (pss_one (ps_for PassesOwn.never rfl (pi_range1 rfl B.range (pa_cons (pe_call G_Pu (hr.mono (by decide)) (by rfl) g_Pu k_Pu b_Pu .nil pass0 (pa_cons (pv 0) (pa_cons (pe_op op_add (pv 3) pe_int) pa_nil))) pa_nil)) (pg_name (i := 8) sc_lw.nd rfl (.inl rfl)) (pss_cons (ps_set (i := 9) sc_lw.nd rfl (.inl rfl) (pe_bm PySem.F.plainAttrs_list PySem.F.slot_list_pop PySem.F.type_list_pop mt_popAt (pv 6) (pa_cons (pe_call G_Pu (hr.mono (by decide)) (by rfl) g_Pu k_Pu b_Pu .nil pass0 (pa_cons (pv 0) (pa_cons (pe_callB call_lenQ (by rfl) B.len PySem.boot_len (pa_cons (pv 6) pa_nil)) pa_nil))) pa_nil))) (pss_one (ps_expr (pe_bm PySem.F.plainAttrs_list PySem.F.slot_list_append PySem.F.type_list_append mt_append (pv 4) (pa_cons (pe_tup (pa_cons (pv 5) (pa_cons (pv 9) (pa_cons (pe_bm PySem.F.plainAttrs_list PySem.F.slot_list_pop PySem.F.type_list_pop mt_popAt (pv 7) (pa_cons (pe_call G_Pu (hr.mono (by decide)) (by rfl) g_Pu k_Pu b_Pu .nil pass0 (pa_cons (pv 0) (pa_cons (pe_callB call_lenQ (by rfl) B.len PySem.boot_len (pa_cons (pv 7) pa_nil)) pa_nil))) pa_nil)) pa_nil)))) pa_nil)))))))))) (pss_one (ps_ret (pe_tup (pa_cons (pv 3) (pa_cons (pv 4) pa_nil)))))))), ?_⟩
    walk_at "go"
    refine ⟨b, l, u, rfl, hB, by omega, by omega, fun d H1 d0 d1 B1 f1 => ?_⟩
    walk_at "go"
    refine w_newL (by decide) (fun f H2 hf nf => ?_)
    have B2 := B1.nw nf
    have nfb := B1.ne nf.nn
    have nfl := B1.neL nf.nn
    have nfH : H f = none := by
      cases e : H f with
      | none => rfl
      | some o => have := nf.nn; rw [f1 _ _ e nfb] at this; cases this
    obtain ⟨n, en⟩ : ∃ n, n = 1 + d := ⟨_, rfl⟩
    rw [← en]
    walk_at "go"
    refine w_str (fun i σ H3 => ∃ (y5 y6 y7 y8 y9 : Option V) (us : List V) (ms : List Mv), σ = [some (.ref b), some (.int u), some (.str z), some (.int n), some (.ref f), y5, y6, y7, y8, y9] ∧ H3 f = some (.lst us) ∧ MvsAt H3 us ms ∧ WOk n ms ∧ Bag H3 b l ∧ Fx b H H3 ∧ (∀ m ∈ ms, m.1 ∈ (tl z).take i) ∧ ms.length ≤ i * n.toNat)
      ⟨none, none, none, none, none, [], [], rfl, hf, .nil, ⟨fun m hm => absurd hm (by simp), .nil⟩, B2, f1.nw nf, fun m hm => absurd hm (by simp), Nat.zero_le _⟩ ?_ ?_
    · rintro i c σ H3 hc ⟨y5, y6, y7, y8, y9, us, ms, rfl, hf3, hm3, ok3, B3, f3, hin3, hl3⟩
      have hi8 : i < 8 := Nat.lt_of_lt_of_le (List.getElem?_eq_some_iff.mp hc).1 hz8
      have hc97 := hz c (List.mem_of_getElem? hc)
      have hnotin : ∀ m ∈ ms, m.1 ≠ c := fun m hm e => by
        have h1 := hin3 m hm
        rw [e] at h1
        have h2 := take_snoc hc ▸ (hnd.sublist (List.take_sublist (i + 1) (tl z)))
        rw [List.nodup_append] at h2
        exact h2.2.2 c h1 c (List.mem_singleton.mpr rfl) rfl
      walk_at "go"
      refine w_kRgL (.of_le (by decide) (by omega) (by decide) (by omega)) (fun s1 H4 hs4 ns4 => ?_)
      walk_at "go"
      refine w_kRgL (.of_le (by decide) (by omega) (by decide) (by omega)) (fun e1 H5 he5 ne5 => ?_)
      have B4 := B3.nw ns4
      have B5 := B4.nw ne5
      have sb := B3.ne ns4.nn
      have sl := B3.neL ns4.nn
      have eb := B4.ne ne5.nn
      have el := B4.neL ne5.nn
      have sf : f ≠ s1 := ns4.ne hf3
      have ef : f ≠ e1 := ne5.ne (ns4.at hf3)
      have se : s1 ≠ e1 := ne5.ne hs4
      have sH : H s1 = none := by
        cases e : H s1 with
        | none => rfl
        | some o => have := ns4.nn; rw [f3 _ _ e sb] at this; cases this
      have eH : H e1 = none := by
        cases e : H e1 with
        | none => rfl
        | some o => have := ne5.nn; rw [ns4.at (f3 _ _ e eb)] at this; cases this
      walk_at "go"
      refine ⟨b, l, n + 1, rfl, B5, by omega, by omega, fun k H6 k0 k1 B6 f6 => ?_⟩
      walk_at "go"
      refine w_kRng1 (by omega) (by omega) ?_
      refine w_range (fun j σ H7 => ∃ (y8 y9 : Option V) (us' : List V) (ms' : List Mv) (S R : List Int), σ = [some (.ref b), some (.int u), some (.str z), some (.int n), some (.ref f), some (.str (one c)), some (.ref s1), some (.ref e1), y8, y9] ∧ H7 f = some (.lst us') ∧ MvsAt H7 us' ms' ∧ WOk n ms' ∧ Bag H7 b l ∧ Fx b H H7 ∧ (∀ m ∈ ms', m.1 ∈ (tl z).take (i + 1)) ∧ ms'.length ≤ i * n.toNat + j ∧
          H7 s1 = some (.lst (S.map V.int)) ∧ H7 e1 = some (.lst (R.map V.int)) ∧ Left n S j ∧ Left n R j ∧ ∀ m ∈ ms', m.1 = c → m.2.1 ∉ S ∧ m.2.2 ∉ R)
        ⟨_, _, us, ms, plc n, plc n, rfl, f6.at nfb (ne5.at (ns4.at hf3)), (hm3.tps (.of (ns4.same.trans ne5.same))).tps (.fx B5 f6), ok3, B6, ((f3.nw ns4).nw ne5).trans f6, fun m hm => by rw [take_snoc hc]; exact List.mem_append_left _ (hin3 m hm), hl3, by rw [← rgV_plc]; exact f6.at sb (ne5.at hs4), by rw [← rgV_plc]; exact f6.at eb he5, ⟨plc_nodup n, fun x hx => plc_mem.mp hx, plc_len⟩, ⟨plc_nodup n, fun x hx => plc_mem.mp hx, plc_len⟩, fun m hm e => absurd e (hnotin m hm)⟩ ?_ ?_
      · rintro j σ H7 hj ⟨y8, y9, us', ms', S, R, rfl, hf7, hm7, ok7, B7, f7, hin7, hl7, hs7, he7, LS, LR, hd7⟩
        have lS := LS.ln
        have lR := LR.ln
        walk_at "go"
        refine ⟨b, l, _, rfl, B7, by rw [List.length_map]; omega, by rw [List.length_map]; omega, fun d H8 d0 d1 B8 f8 => ?_⟩
        rw [List.length_map] at d1
        walk_at "go"
        refine w_popI (f8.at sb hs7) d0 d1 (by omega) (fun x S' H9 pS hs9 o9 => ?_)
        obtain ⟨LS', xS', xS, sS⟩ := LS.pop pS
        have B9 := B8.off sb sl o9
        have he9 : H9 e1 = some (.lst (R.map V.int)) := o9.at se.symm (f8.at eb he7)
        have hf9 : H9 f = some (.lst us') := o9.at sf (f8.at nfb hf7)
        have t9 : Tps H7 H9 := (Tps.fx B7 f8).off (f8.at sb hs7) o9
        walk_at "go"
        refine ⟨b, l, _, rfl, B9, by rw [List.length_map]; omega, by rw [List.length_map]; omega, fun d' H10 d0' d1' B10 f10 => ?_⟩
        rw [List.length_map] at d1'
        walk_at "go"
        refine w_popI (f10.at eb he9) d0' d1' (by omega) (fun y R' H11 pR he11 o11 => ?_)
        obtain ⟨LR', yR', yR, sR⟩ := LR.pop pR
        have B11 := B10.off eb el o11
        have hf11 : H11 f = some (.lst us') := o11.at ef (f10.at nfb hf9)
        have hs11 : H11 s1 = some (.lst (S'.map V.int)) := o11.at se (f10.at sb hs9)
        have t11 : Tps H7 H11 := t9.trans ((Tps.fx B9 f10).off (f10.at eb he9) o11)
        walk_at "go"
        refine w_newT (by walk_at "sz") (fun t H12 ht12 nt12 => ?_)
        have t12 : Tps H7 H12 := t11.trans (.of nt12.same)
        have hlu : us'.length = ms'.length := Paired.length hm7
        have hjn : i * n.toNat + j ≤ 8000 := Nat.le_trans (Nat.add_le_add (Nat.mul_le_mul (show i ≤ 7 by omega) (show n.toNat ≤ 1000 by omega)) (show j ≤ 1000 by omega)) (by decide)
        walk_at "go"
        refine w_append (nt12.at hf11) (lineLt_of (by omega)) (fun H13 hf13 o13 => ?_)
        have nft : f ≠ t := nt12.ne hf11
        walk_at "go"
        refine ⟨_, _, us' ++ [.ref t], ms' ++ [(c, x, y)], S', R', rfl, hf13, paired_snoc ⟨t, rfl, o13.at nft.symm ht12⟩ (hm7.tps (t12.off (nt12.at hf11) o13)), ok7.snoc ?_ ?_, (B11.nw nt12).off nfb nfl o13, ?_, ?_, ?_, o13.at sf.symm (nt12.at hs11), o13.at ef.symm (nt12.at he11), LS', LR', ?_⟩
        · exact ⟨hc97.1, hc97.2, (LS.rg x xS).1, (LS.rg x xS).2, (LR.rg y yR).1, (LR.rg y yR).2⟩
        · intro k hk e
          have := hd7 k hk e
          exact ⟨fun z => this.1 (z ▸ xS), fun z => this.2 (z ▸ yR)⟩
        · exact ((((f7.trans f8).off o9 sH).trans f10).off o11 eH |>.nw nt12).off o13 nfH
        · intro m hm
          rcases List.mem_append.mp hm with hm | hm
          · exact hin7 m hm
          · rw [List.mem_singleton.mp hm, take_snoc hc]
            exact List.mem_append_right _ (List.mem_singleton.mpr rfl)
        · rw [List.length_append]
          show ms'.length + 1 ≤ _
          omega
        · intro m hm e
          rcases List.mem_append.mp hm with hm | hm
          · have := hd7 m hm e
            exact ⟨fun z => this.1 (sS _ z), fun z => this.2 (sR _ z)⟩
          · rw [List.mem_singleton.mp hm]
            exact ⟨xS', yR'⟩
      · rintro σ H7 ⟨y8, y9, us', ms', S, R, rfl, hf7, hm7, ok7, B7, f7, hin7, hl7, hs7, he7, LS, LR, hd7⟩
        refine ⟨_, _, _, _, _, us', ms', rfl, hf7, hm7, ok7, B7, f7, hin7, ?_⟩
        have h1 : (i + 1) * n.toNat = i * n.toNat + n.toNat := Nat.succ_mul ..
        omega
    · rintro σ H3 ⟨y5, y6, y7, y8, y9, us, ms, rfl, hf3, hm3, ok3, B3, f3, hin3, hl3⟩
      walk_at "go"
      refine w_newT (by walk_at "sz") (fun t H4 ht4 nt4 => ?_)
      refine q t f n us ms H4 ht4 (nt4.at hf3) (hm3.tps (.of nt4.same)) ok3 (by omega) (by omega) ?_ (fun m hm => ?_) (B3.nw nt4) (f3.nw nt4) nfH nfb nfl
      · exact Nat.le_trans hl3 (Nat.le_trans (Nat.mul_le_mul hz8 (show n.toNat ≤ 1000 by omega)) (by decide))
      · exact List.mem_of_mem_take (hin3 m hm)
end
end Sf
namespace Sf
open PySem PySem.Spec PyProof.Rows L2 TL
def HasMX (P : Program) (w : World) (K : PySem.W.Frag) (mg : Str → Option Value) (base : Heap) (C : Addr) (k : Nat) (m : Str) (ps : List Str) (sp : Sp) : Prop :=
  ∃ (f : Addr) (fd : FuncData), Meth K C m f ∧ Binds K fd ps [] ∧ FnOk P w K mg base (L2.CX P w) k f fd ps sp
def HasX (P : Program) (w : World) (K : PySem.W.Frag) (mg : Str → Option Value) (base : Heap) (k : Nat) (x : Str) (ps : List Str) (sp : Sp) : Prop :=
  ∃ (f : Addr) (fd : FuncData), mg x = some (.ref f) ∧ PySem.W.keepIn K (.ref f) = true ∧ Binds K fd ps [] ∧ FnOk P w K mg base (L2.CX P w) k f fd ps sp
end Sf
namespace Sf
open PySem PySem.Spec PyProof.Rows L2 TL
/-! ### a method whose last parameter has a default -/
theorem vals_i {i : Int} {t : Tok} : Vals [V.int i] [Value.int i t] := .cons ⟨t, rfl⟩ .nil
def MAtD (K : PySem.W.Frag) (C : Addr) (m q : Str) (st : Stmt) (ps : List Str) (dv : Value) : Prop := ∃ (f : Addr) (fd : FuncData), Meth K C m f ∧ FunD K m q st f fd ∧ Binds K fd ps [] ∧ Binds K fd ps [dv]
def HasMD (P : Program) (w : World) (K : PySem.W.Frag) (mg : Str → Option Value) (base : Heap) (C : Addr) (k : Nat) (m : Str) (ps : List Str) (dv : Value) (sp : Sp) : Prop :=
  ∃ (f : Addr) (fd : FuncData), Meth K C m f ∧ Binds K fd ps [] ∧ Binds K fd ps [dv] ∧ FnOk P w K mg base CX0 k f fd ps sp
theorem MAtD.has {P : Program} {w : World} {K : PySem.W.Frag} {mg : Str → Option Value} {base : Heap} {C : Addr} {k : Nat} {m q : Str} {st : Stmt} {ps : List Str} {dv : Value} {sp : Sp} (h : MAtD K C m q st ps dv)
    (ok : ∀ {f : Addr} {fd : FuncData}, FunD K m q st f fd → FnOk P w K mg base CX0 k f fd ps sp) : HasMD P w K mg base C k m ps dv sp := by
  obtain ⟨f, fd, g, F, b, bd⟩ := h
  exact ⟨f, fd, g, b, bd, ok F⟩
theorem mAtD_mk {K : PySem.W.Frag} {C T : Addr} {m q : Str} {st : Stmt} {ps : List Str} {dv : Value} {f : Addr} {oc : Value} {od an : Option Addr} {osl : Array (Option Value)} {kV doc pm cdv ct : Value} {o : Obj} {n : Nat}
    (a : PySem.W.findIn K (.ref C) m = some (some (.ref f))) (i : PySem.W.isFn K (.ref f) = true) (l : K.lookup f = some ⟨oc, od, .func (PySem.W.fnOf m q (defArgs st) (defBody st) (defScope st) (.ref T) kV doc pm an cdv ct), osl⟩)
    (c : PySem.W.codeIn K cdv q = true) (k : PySem.W.keepIn K (.ref f) = true) (ho : K.lookup T = some o) (hs : o.data = .seq #[dv] n)
    (b : ∀ (kV doc pm : Value) (an : Option Addr) (cdv ct : Value) (s : Shared) (us : List Value), K.In s.heap → us.length = ps.length → BindsTo s (PySem.W.fnOf m q (defArgs st) (defBody st) (defScope st) (.ref T) kV doc pm an cdv ct) ⟨us, []⟩ (ps.zip us))
    (bd : ∀ (kV doc pm : Value) (an : Option Addr) (cdv ct : Value) (s : Shared) (us : List Value), K.In s.heap → (us ++ [dv]).length = ps.length → BindsTo s (PySem.W.fnOf m q (defArgs st) (defBody st) (defScope st) (.ref T) kV doc pm an cdv ct) ⟨us, []⟩ (ps.zip (us ++ [dv]))) : MAtD K C m q st ps dv :=
  ⟨f, _, ⟨a, i, k⟩, ⟨⟨oc, od, .ref T, kV, doc, pm, an, cdv, ct, osl, rfl, l, c⟩, k⟩, fun s us X hl => by
    rw [List.append_nil] at hl ⊢
    exact b kV doc pm an cdv ct s us X hl, fun s us X hl => bd kV doc pm an cdv ct s us X hl⟩
theorem go_binds {K : PySem.W.Frag} {T : Addr} {o : Obj} {dv : Value} {n : Nat} (ho : K.lookup T = some o) (hs : o.data = .seq #[dv] n) (kV doc pm : Value) (an : Option Addr) (cdv ct : Value) (s : Shared) (us : List Value) (X : K.In s.heap) (hl : us.length = 3) :
    BindsTo s (PySem.W.fnOf "go" "World.go" (defArgs s_World_go) (defBody s_World_go) (defScope s_World_go) (.ref T) kV doc pm an cdv ct) ⟨us, []⟩ ((["self", "word", "place"] : List Str).zip us) := by
  match us, hl with
  | [_, _, _], _ => exact PySem.W.binds_K X rfl ho hs rfl rfl
theorem go_bindsD {K : PySem.W.Frag} {T : Addr} {o : Obj} {dv : Value} {n : Nat} (ho : K.lookup T = some o) (hs : o.data = .seq #[dv] n) (kV doc pm : Value) (an : Option Addr) (cdv ct : Value) (s : Shared) (us : List Value) (X : K.In s.heap) (hl : (us ++ [dv]).length = 3) :
    BindsTo s (PySem.W.fnOf "go" "World.go" (defArgs s_World_go) (defBody s_World_go) (defScope s_World_go) (.ref T) kV doc pm an cdv ct) ⟨us, []⟩ ((["self", "word", "place"] : List Str).zip (us ++ [dv])) := by
  have hl : us.length = 2 := by
    rw [List.length_append] at hl
    have : [dv].length = 1 := rfl
    omega
  match us, hl with
  | [_, _], _ => exact PySem.W.binds_K X rfl ho hs rfl rfl
end Sf
namespace Sf
open PySem PySem.Spec PyProof.Rows L2 TL
section
variable {P : Program} {w : World} {K : PySem.W.Frag} {mg : Str → Option Value} {base : Heap} {C CN fN CW fW : Addr} {fdN fdW : FuncData}
def HasMXD (P : Program) (w : World) (K : PySem.W.Frag) (mg : Str → Option Value) (base : Heap) (C : Addr) (k : Nat) (m : Str) (ps : List Str) (dv : Value) (sp : Sp) : Prop :=
  ∃ (f : Addr) (fd : FuncData), Meth K C m f ∧ Binds K fd ps [] ∧ Binds K fd ps [dv] ∧ FnOk P w K mg base (L2.CX P w) k f fd ps sp
theorem FunD.okX {x qual : Str} {st : Stmt} {f : Addr} {fd : FuncData} {N ps : List Str} {k : Nat} {sp : Sp} (F : FunD K x qual st f fd) (S : FnScope N ps (defScope st)) (len : ∀ vs H Q E, sp vs H Q E → vs.length = ps.length)
    (hbody : ∀ (cdv : Value) (A : Around) (outer : List Env) (s : Shared) (H : Hp) (vs : List V) (Q : VK) (E : XK), Room k (A.deeper (envOfC qual (defScope st) s.heap.objs.size f cdv)) → sp vs H Q E →
      ∃ t, PSs (cxOf (L2.CX P w) P w K mg base N qual (defScope st) f cdv A outer s H E) (defBody st) t ∧ t { nx := fun _ H' => Q .non H', rt := Q } (start N vs) H) : FnOk P w K mg base (L2.CX P w) (k + 1) f fd ps sp := by
  obtain ⟨oc, od, dV, kV, doc, pm, an, cdv, ct, osl, rfl, lk, hcd⟩ := F.ex
  exact fn_of lk hcd S len fun A outer s H vs Q E hr hsp => hbody cdv A outer s H vs Q E hr hsp
/-- NoPlace is raised -/
def XEp (CN : Addr) (x : Int) (H : Hp) (E : XK) : Prop := ∀ (d : Addr) (H' : Hp), H d = none → H' d = some (.xd [(("place" : Str), .int x), (("word" : Str), .str (Str.ofString "noplace"))]) → Same H H' → E (.ref CN) (some d) H'
theorem XEp.same {x : Int} {H H1 : Hp} {E : XK} (h : XEp CN x H E) (s : Same H H1) : XEp CN x H1 E := fun d H' nd hd s' => h d H' (s.free nd) hd (s.trans s')
theorem log_big {x : Int} (h0 : -1000000000000 ≤ x) (h1 : x ≤ 1000000000000) : x.natAbs.log2 < 1920 := by
  by_cases hz : x = 0
  · rw [hz]; decide
  · refine Nat.lt_trans ((Nat.log2_lt (k := 40) (by omega)).mpr (by show x.natAbs < 2 ^ 40; omega)) (by decide)
def spNplX (C CN : Addr) : Sp := fun vs H Q E => ∃ (p : Addr) (n x : Int) (L : Nat → List (Int × Int)), vs = [.ref p, .int x] ∧ WAt C H p n L ∧ -1000000000000 ≤ x ∧ x ≤ 1000000000000 ∧ (0 ≤ x ∧ x < n → Q .non H) ∧ (¬ (0 ≤ x ∧ x < n) → XEp CN x H E)
theorem sc_npl : FnScope ["self", "place"] ["self", "place"] (defScope s_World_need_place) := ⟨rfl, rfl, rfl, by decide +kernel, rfl, by decide +kernel, by decide +kernel⟩
theorem has_nplX (F : MAt K C "need_place" "World.need_place" s_World_need_place ["self", "place"]) (B : Blt mg) (T_World : WC K mg C) (h_Up : HasUp P w K mg base) (T_NoPlace : EL K mg "NoPlace" CN fN) (nP : PySem.W.findIn K (.ref CN) "place" = some none)
    (G_NoPlace : FnOk P w K mg base CX0 2 fN fdN ["self", "place"] (spExL K (Str.ofString "noplace") "place")) (b_NoPlace : Binds K fdN ["self", "place"] []) : HasMX P w K mg base C 4 "need_place" ["self", "place"] (spNplX C CN) := by
  obtain ⟨f, fd, g, F, bb⟩ := F
  refine ⟨f, fd, g, bb, ?_⟩
  obtain ⟨f_Up, fd_Up, g_Up, k_Up, b_Up, G_Up⟩ := h_Up
  refine F.okX sc_npl (fun vs H Q E h => ?_) (fun cdv A outer s H vs Q E hr h => ?_)
  · obtain ⟨p, n, x, L, rfl, _⟩ := h
    rfl
  · obtain ⟨p, n, x, L, rfl, ⟨dx, pl, ld, d, hp, hpl, hL⟩, x0, x1, q1, q2⟩ := h
    refine ⟨_, (pss_one (ps_if (pt_not (pt_val (pe_call G_Up (hr.mono (by decide)) (by rfl) g_Up k_Up b_Up .nil pass0 (pa_cons (pv 1) (pa_cons (pe_op op_sub (pe_callB call_lenQ (by rfl) B.len PySem.boot_len (pa_cons (pe_fld (pv 0) rfl) pa_nil)) pe_int) pa_nil))))) (pss_one (ps_raise rfl (takes_of rfl rfl rfl rfl) (pmk_oexL T_NoPlace.ox T_NoPlace.iC T_NoPlace.tI G_NoPlace (hr.mono (by decide)) b_NoPlace pass0 (by rfl) T_NoPlace.gC (pa_cons (pv 1) pa_nil)))) pss_nil)), ?_⟩
    rw [rgV_plc] at hpl
    walk_at "go"
    refine w_kFld hp T_World.cl T_World.nP (wf_places _ _) ?_
    walk_at "go"
    refine ⟨_, _, rfl, trivial, ?_⟩
    by_cases hx : 0 ≤ x ∧ x < n
    · rw [upB_true hx.1 (by rw [List.length_map, plc_len]; omega)]
      walk_at "go"
      exact q1 hx
    · have e : upB (.int x) (((plc n).map V.int).length - 1 : Int) = false := by
        show (decide (0 ≤ x) && decide (x ≤ _)) = false
        rw [List.length_map, plc_len]
        rw [Bool.and_eq_false_iff, decide_eq_false_iff_not, decide_eq_false_iff_not]
        omega
      rw [e]
      walk_at "go"
      refine w_mkOL ?_
      walk_at "go"
      exact w_kMkL T_NoPlace nP (log_big x0 x1) (q2 hx)
end
end Sf
namespace Sf
open PySem PySem.Spec PyProof.Rows L2 TL
/-! ### going round a world, place by place -/
abbrev Fd := Int × Str
def ex1 (L : Nat → List (Int × Int)) (k : Fd) (fs : List Fd) (c : Nat) : List Fd :=
  match stp L c k.1 with
  | some e => if e ∈ fs.map (·.1) then fs else fs ++ [(e, k.2 ++ one c)]
  | none => fs
def exS (L : Nat → List (Int × Int)) (k : Fd) (fs : List Fd) (cs : List Nat) : List Fd := cs.foldl (ex1 L k) fs
def bfs (L : Nat → List (Int × Int)) (p : Int) : Nat → List Fd
  | 0 => [(p, Str.ofString "")]
  | i + 1 => match (bfs L p i)[i]? with
    | some k => exS L k (bfs L p i) sgs
    | none => bfs L p i
section
variable {L : Nat → List (Int × Int)} {p : Int}
theorem ex1_pre (k : Fd) (fs : List Fd) (c : Nat) : fs <+: ex1 L k fs c := by
  unfold ex1
  split
  · split
    · exact List.prefix_refl _
    · exact List.prefix_append _ _
  · exact List.prefix_refl _
theorem exS_pre (k : Fd) : ∀ (cs : List Nat) (fs : List Fd), fs <+: exS L k fs cs
  | [], fs => List.prefix_refl _
  | c :: cs, fs => (ex1_pre k fs c).trans (exS_pre k cs (ex1 L k fs c))
theorem exS_snoc (k : Fd) (fs : List Fd) (cs : List Nat) (c : Nat) : exS L k fs (cs ++ [c]) = ex1 L k (exS L k fs cs) c := by
  unfold exS
  rw [List.foldl_append]
  rfl
theorem bfs_succ {i : Nat} {k : Fd} (h : (bfs L p i)[i]? = some k) : bfs L p (i + 1) = exS L k (bfs L p i) sgs := by
  show (match (bfs L p i)[i]? with | some k => exS L k (bfs L p i) sgs | none => bfs L p i) = _
  rw [h]
theorem bfs_stop {i : Nat} (h : (bfs L p i).length ≤ i) : bfs L p (i + 1) = bfs L p i := by
  show (match (bfs L p i)[i]? with | some k => exS L k (bfs L p i) sgs | none => bfs L p i) = _
  rw [List.getElem?_eq_none h]
theorem bfs_pre (i : Nat) : bfs L p i <+: bfs L p (i + 1) := by
  cases h : (bfs L p i)[i]? with
  | none => rw [bfs_stop (List.getElem?_eq_none_iff.mp h)]; exact List.prefix_refl _
  | some k => rw [bfs_succ h]; exact exS_pre k sgs _
theorem bfs_mono {i j : Nat} (h : i ≤ j) : bfs L p i <+: bfs L p j := by
  induction j with
  | zero => rw [Nat.le_zero.mp h]; exact List.prefix_refl _
  | succ j ih =>
    by_cases e : i = j + 1
    · rw [e]; exact List.prefix_refl _
    · exact (ih (by omega)).trans (bfs_pre j)
theorem bfs_still {i : Nat} (h : (bfs L p i).length ≤ i) : ∀ m, bfs L p (i + m) = bfs L p i
  | 0 => rfl
  | m + 1 => by
    have e := bfs_still h m
    show bfs L p (i + m + 1) = _
    rw [bfs_stop (by rw [e]; omega), e]
/-- the round is whole -/
def FinB (L : Nat → List (Int × Int)) (p : Int) (fs : List Fd) : Prop := ∃ N, fs = bfs L p N ∧ fs.length ≤ N
theorem FinB.one {fs gs : List Fd} : FinB L p fs → FinB L p gs → fs = gs
  | ⟨N, e1, h1⟩, ⟨M, e2, h2⟩ => by
    subst e1 e2
    by_cases h : N ≤ M
    · have := bfs_still h1 (M - N)
      rw [show N + (M - N) = M by omega] at this
      exact this.symm
    · have := bfs_still h2 (N - M)
      rw [show M + (N - M) = N by omega] at this
      exact this
/-- what holds of all that is found -/
structure FsOk (n : Int) (fs : List Fd) : Prop where
  nd : (fs.map (·.1)).Nodup
  rg : ∀ k ∈ fs, 0 ≤ k.1 ∧ k.1 < n
  wl : ∀ k ∈ fs, k.2.length + 1 ≤ fs.length
def LRg (n : Int) (L : Nat → List (Int × Int)) : Prop := ∀ c ∈ sgs, ∀ q ∈ L c, 0 ≤ q.1 ∧ q.1 < n ∧ 0 ≤ q.2 ∧ q.2 < n
theorem len_snoc (x : Str) (c : Nat) : (x ++ one c).length = x.length + 1 := by rw [len_app, len_one]
theorem ex1_ok {n : Int} (hL : LRg n L) {k : Fd} {fs : List Fd} {c : Nat} (hc : c ∈ sgs) (hk : k ∈ fs) (h : FsOk n fs) : FsOk n (ex1 L k fs c) := by
  unfold ex1
  split
  · rename_i e he
    split
    · exact h
    · rename_i hn
      have hq := hL c hc _ (lk_mem he)
      refine ⟨?_, fun q hq' => ?_, fun q hq' => ?_⟩
      · rw [List.map_append, List.nodup_append]
        refine ⟨h.nd, by simp, fun a ha b hb => ?_⟩
        have : b = e := by simpa using hb
        rw [this]
        exact fun z => hn (by rw [← z]; exact ha)
      · rcases List.mem_append.mp hq' with z | z
        · exact h.rg q z
        · rw [List.mem_singleton.mp z]
          exact ⟨hq.2.2.1, hq.2.2.2⟩
      · rw [List.length_append]
        rcases List.mem_append.mp hq' with z | z
        · have := h.wl q z
          omega
        · rw [List.mem_singleton.mp z]
          have := h.wl k hk
          show (k.2 ++ one c).length + 1 ≤ fs.length + 1
          rw [len_snoc]
          omega
  · exact h
theorem exS_ok {n : Int} (hL : LRg n L) {k : Fd} : ∀ (cs : List Nat) (fs : List Fd), (∀ c ∈ cs, c ∈ sgs) → k ∈ fs → FsOk n fs → FsOk n (exS L k fs cs)
  | [], fs, _, _, h => h
  | c :: cs, fs, hc, hk, h => exS_ok hL cs _ (fun d hd => hc d (List.mem_cons_of_mem _ hd)) ((ex1_pre k fs c).subset hk) (ex1_ok hL (hc c List.mem_cons_self) hk h)
theorem bfs_ok {n : Int} (hL : LRg n L) (h0 : 0 ≤ p) (h1 : p < n) : ∀ i, FsOk n (bfs L p i)
  | 0 => ⟨by show [p].Nodup; simp, fun k hk => by rw [List.mem_singleton.mp hk]; exact ⟨h0, h1⟩, fun k hk => by rw [List.mem_singleton.mp hk]; show (Str.ofString "").length + 1 ≤ 1; decide +kernel⟩
  | i + 1 => by
    cases h : (bfs L p i)[i]? with
    | none => rw [bfs_stop (List.getElem?_eq_none_iff.mp h)]; exact bfs_ok hL h0 h1 i
    | some k => rw [bfs_succ h]; exact exS_ok hL sgs _ (fun _ h => h) (List.mem_of_getElem? h) (bfs_ok hL h0 h1 i)
theorem nd_len {α : Type} [DecidableEq α] : ∀ (l r : List α), l.Nodup → (∀ x ∈ l, x ∈ r) → l.length ≤ r.length
  | [], r, _, _ => Nat.zero_le _
  | x :: l, r, nd, h => by
    have nd' := List.nodup_cons.mp nd
    have hx := h x List.mem_cons_self
    have ih := nd_len l (r.erase x) nd'.2 fun y hy => (List.mem_erase_of_ne (fun z => nd'.1 (by rw [← z]; exact hy))).mpr (h y (List.mem_cons_of_mem _ hy))
    rw [List.length_erase_of_mem hx] at ih
    have := List.length_pos_of_mem hx
    show l.length + 1 ≤ r.length
    omega
theorem mem_plc {n x : Int} : x ∈ plc n ↔ 0 ≤ x ∧ x < n := by
  unfold plc
  rw [List.mem_map]
  constructor
  · rintro ⟨i, hi, rfl⟩
    have := List.mem_range.mp hi
    exact ⟨by omega, by omega⟩
  · rintro ⟨h0, h1⟩
    exact ⟨x.toNat, List.mem_range.mpr (by omega), by omega⟩
theorem FsOk.len {n : Int} {fs : List Fd} (h : FsOk n fs) : fs.length ≤ n.toNat := by
  have := nd_len (fs.map (·.1)) (plc n) h.nd fun x hx => by
    obtain ⟨k, hk, rfl⟩ := List.mem_map.mp hx
    exact mem_plc.mpr (h.rg k hk)
  rw [List.length_map] at this
  unfold plc at this
  rw [List.length_map, List.length_range] at this
  exact this
/-- where the signs have led from a place, it is found -/
theorem ex1_has {k : Fd} {fs : List Fd} {c : Nat} {e : Int} (h : stp L c k.1 = some e) : e ∈ (ex1 L k fs c).map (·.1) := by
  unfold ex1
  rw [h]
  dsimp only
  split
  · assumption
  · rw [List.map_append]
    exact List.mem_append_right _ (List.mem_singleton.mpr rfl)
theorem pre_keys {fs gs : List Fd} (h : fs <+: gs) {e : Int} (m : e ∈ fs.map (·.1)) : e ∈ gs.map (·.1) := by
  obtain ⟨q, hq, rfl⟩ := List.mem_map.mp m
  exact List.mem_map.mpr ⟨q, h.subset hq, rfl⟩
theorem exS_has {k : Fd} {e : Int} : ∀ (cs : List Nat) (fs : List Fd) {c : Nat}, c ∈ cs → stp L c k.1 = some e → e ∈ (exS L k fs cs).map (·.1)
  | x :: cs, fs, c, hc, h => by
    rcases List.mem_cons.mp hc with rfl | hc
    · exact pre_keys (exS_pre k cs _) (ex1_has h)
    · exact exS_has cs _ hc h
theorem pre_get {fs gs : List Fd} (h : fs <+: gs) {j : Nat} {k : Fd} (e : fs[j]? = some k) : gs[j]? = some k := by
  obtain ⟨t, rfl⟩ := h
  rw [List.getElem?_append_left (List.getElem?_eq_some_iff.mp e).1]
  exact e
theorem bfs_closed : ∀ (i j : Nat) {k : Fd} {c : Nat} {e : Int}, j < i → (bfs L p i)[j]? = some k → c ∈ sgs → stp L c k.1 = some e → e ∈ (bfs L p i).map (·.1)
  | i + 1, j, k, c, e, hj, hk, hc, h => by
    have pre : bfs L p i <+: bfs L p (i + 1) := bfs_pre i
    cases hi : (bfs L p i)[i]? with
    | none =>
      have hle := List.getElem?_eq_none_iff.mp hi
      rw [bfs_stop hle] at hk ⊢
      have : j < (bfs L p i).length := (List.getElem?_eq_some_iff.mp hk).1
      exact bfs_closed i j (by omega) hk hc h
    | some k' =>
      by_cases e' : j = i
      · subst e'
        have h2 : (bfs L p (j + 1))[j]? = some k' := pre_get pre hi
        rw [h2] at hk
        cases hk
        rw [bfs_succ hi]
        exact exS_has sgs _ hc h
      · have hji : j < i := by omega
        have hli : i < (bfs L p i).length := (List.getElem?_eq_some_iff.mp hi).1
        have hk' : (bfs L p i)[j]? = some k := by
          have z : (bfs L p i)[j]? = some (bfs L p i)[j] := List.getElem?_eq_getElem (by omega)
          have z2 := pre_get pre z
          rw [hk] at z2
          rw [z, ← z2]
        exact pre_keys pre (bfs_closed i j hji hk' hc h)
theorem FinB.closed {fs : List Fd} (h : FinB L p fs) {k : Fd} {c : Nat} {e : Int} (hk : k ∈ fs) (hc : c ∈ sgs) (hs : stp L c k.1 = some e) : e ∈ fs.map (·.1) := by
  obtain ⟨N, rfl, hN⟩ := h
  obtain ⟨j, hj⟩ := List.mem_iff_getElem?.mp hk
  exact bfs_closed N j (by have := (List.getElem?_eq_some_iff.mp hj).1; omega) hj hc hs
end
end Sf
namespace Sf
open PySem PySem.Spec PyProof.Rows L2 TL
section
variable {P : Program} {w : World} {K : PySem.W.Frag} {mg : Str → Option Value} {base : Heap} {C : Addr}
/-! ### while -/
def kWh (W : Nat → L2.St → Hp → Prop) (tb : TS) (nx : L2.St → Hp → Prop) (rt : VK) (m : Nat) (σ : L2.St) : Bool → Hp → Prop := fun b H1 => if b = true then ∃ N : L2.St → Hp → Prop, (∀ σ' H', N σ' H' → ∃ m', m' < m ∧ W m' σ' H') ∧ tb ⟨N, rt, nx, N⟩ σ H1 else nx σ H1
theorem w_while {σ : L2.St} {H : Hp} {tc : TT} {tb : TS} {nx : L2.St → Hp → Prop} {rt : VK} {bk ct : L2.St → Hp → Prop} (W : Nat → L2.St → Hp → Prop) {m : Nat} (h0 : W m σ H) (hs : ∀ m σ H, W m σ H → tc σ H (kWh W tb nx rt m σ)) : tWhile tc tb ⟨nx, rt, bk, ct⟩ σ H := ⟨W, ⟨m, h0⟩, hs⟩
theorem w_whT {W : Nat → L2.St → Hp → Prop} {tb : TS} {nx : L2.St → Hp → Prop} {rt : VK} {m : Nat} {σ : L2.St} {H : Hp} (q : tb ⟨fun σ' H' => ∃ m', m' < m ∧ W m' σ' H', rt, nx, fun σ' H' => ∃ m', m' < m ∧ W m' σ' H'⟩ σ H) : kWh W tb nx rt m σ true H := iteT ⟨_, fun _ _ h => h, q⟩
theorem w_whF {W : Nat → L2.St → Hp → Prop} {tb : TS} {nx : L2.St → Hp → Prop} {rt : VK} {m : Nat} {σ : L2.St} {H : Hp} (q : nx σ H) : kWh W tb nx rt m σ false H := by
  unfold kWh
  rw [if_neg (by decide)]
  exact q
theorem w_disp1 {σ : L2.St} {H : Hp} {Q : VK} {tk tv : TE} {i : Int} {v : V} (hk : ∀ H' R, R (V.int i) H' → tk σ H' R) (hv : ∀ H' R, R v H' → tv σ H' R) (k : ∀ p H1, H1 p = some (.dK [(Sum.inl i, v)]) → Nw p H H1 → Q (.ref p) H1) : tDisp [(tk, tv)] σ H Q := fun p hp => by
  refine hk _ _ (hv _ _ ?_)
  refine ⟨upd_same, [(Sum.inl i, v)], rfl, by show 1 ≤ 15; decide, ?_⟩
  exact k p _ upd_same ⟨hp, fun a n => (upd_ne n).trans (upd_ne n)⟩
/-! ### World.come_to -/
def kvW (fs : List Fd) : List (Key × V) := fs.map fun k => ((Sum.inl k.1 : Key), V.str k.2)
theorem kvW_len (fs : List Fd) : (kvW fs).length = fs.length := List.length_map ..
theorem val_kvW_none {x : Int} : ∀ {fs : List Fd}, x ∉ fs.map (·.1) → valV (kvW fs) (Sum.inl x) = none
  | [], _ => rfl
  | k :: fs, h => by
    unfold kvW
    rw [List.map_cons, valV_neg (fun e => h (by rw [← Sum.inl.inj e]; exact List.mem_cons_self))]
    exact val_kvW_none fun z => h (List.mem_cons_of_mem _ z)
theorem val_kvW {k : Fd} : ∀ {fs : List Fd}, (fs.map (·.1)).Nodup → k ∈ fs → valV (kvW fs) (Sum.inl k.1) = some (.str k.2)
  | q :: fs, nd, h => by
    unfold kvW
    rw [List.map_cons]
    have nd' := List.nodup_cons.mp nd
    rcases List.mem_cons.mp h with rfl | h
    · rw [valV_pos rfl]
    · rw [valV_neg (fun e => nd'.1 (by show q.1 ∈ _; rw [show q.1 = k.1 from Sum.inl.inj e]; exact List.mem_map.mpr ⟨k, h, rfl⟩))]
      exact val_kvW nd'.2 h
theorem isSome_kvW {x : Int} {fs : List Fd} (nd : (fs.map (·.1)).Nodup) : (valV (kvW fs) (Sum.inl x)).isSome = decide (x ∈ fs.map (·.1)) := by
  by_cases h : x ∈ fs.map (·.1)
  · obtain ⟨k, hk, rfl⟩ := List.mem_map.mp h
    rw [val_kvW nd hk, decide_eq_true h]
    rfl
  · rw [val_kvW_none h, decide_eq_false h]
    rfl
theorem kvW_put {fs : List Fd} {x : Int} {z : Str} (h : x ∉ fs.map (·.1)) : putK (kvW fs) (Sum.inl x) (.str z) = kvW (fs ++ [(x, z)]) := by
  rw [putK_new _ (val_kvW_none h)]
  unfold kvW
  rw [List.map_append]
  rfl
theorem sgs_tl : tl (Str.ofString "aAbBcCdDeEfFgGhH") = sgs := by decide +kernel
def plV (fs : List Fd) : List V := fs.map fun k => V.int k.1
def spCt (C : Addr) : Sp := fun vs H Q _ => ∃ (p : Addr) (n x : Int) (L : Nat → List (Int × Int)), vs = [.ref p, .int x] ∧ WAt C H p n L ∧ LRg n L ∧ n ≤ 1000 ∧ 0 ≤ x ∧ x < n ∧
  ∀ (d : Addr) (H' : Hp) (fs : List Fd), H d = none → Same H H' → H' d = some (.dK (kvW fs)) → FinB L x fs → FsOk n fs → Q (.ref d) H'
theorem sc_ct : FnScope ["self", "place", "words", "edge", "beyond", "here", "sign", "there"] ["self", "place"] (defScope s_World_come_to) := ⟨rfl, rfl, rfl, by decide +kernel, rfl, by decide +kernel, by decide +kernel⟩
theorem has_ct (F : MAt K C "come_to" "World.come_to" s_World_come_to ["self", "place"]) (T_World : WC K mg C) {t1 : Tok} (C_SIGNS : mg "SIGNS" = some (.str (Str.ofString "aAbBcCdDeEfFgGhH") t1)) : HasM P w K mg base C 1 "come_to" ["self", "place"] (spCt C) := F.has fun F => by
  refine F.ok sc_ct (fun vs H Q E h => ?_) (fun cdv A outer s H vs Q E hr h => ?_)
  · obtain ⟨p, n, x, L, rfl, _⟩ := h
    rfl
  · obtain ⟨p, n, x, L, rfl, hW, hL, hn, x0, x1, q⟩ := h
    refine ⟨_, (pss_cons (ps_set (i := 2) sc_ct.nd rfl (.inl rfl) (pe_disp (pps_cons (pv 1) pe_str pps_nil) (by rfl) (by rfl) (fun z => by cases z) (by decide))) (pss_cons (ps_set (i := 3) sc_ct.nd rfl (.inl rfl) (pe_lst (pa_cons (pv 1) pa_nil))) (pss_cons (ps_while PassesOwn.never (pt_truth (pv 3) (by intro _; rfl)) (pss_cons (ps_set (i := 4) sc_ct.nd rfl (.inl rfl) (pe_lst pa_nil)) (pss_cons (ps_for PassesOwn.never rfl (pi_list (pv 3)) (pg_name (i := 5) sc_ct.nd rfl (.inl rfl)) (pss_one (ps_for PassesOwn.never rfl (pi_str (pe_gS (by rfl) C_SIGNS)) (pg_name (i := 6) sc_ct.nd rfl (.inl rfl)) (pss_cons (ps_set (i := 7) sc_ct.nd rfl (.inl rfl) (pe_dget1 (hu_of hr) (pe_dget (hu_of hr) (pe_fld (pv 0) rfl) (pv 6) (fun _ _ => rfl)) (pv 5) ⟨rfl, rfl, rfl, rfl⟩)) (pss_one (ps_if (PW.pt (pw_and (pt_cmpR op_notNn (pv 7) pe_non (nomark _)) (pw_and1 (pt_cmp (pc_dnotin (hu_of hr) (pv 7) (pv 2)))))) (pss_cons (ps_dput (hu_of hr) (pv 2) (pv 7) (pe_op op_addS (pe_dget (hu_of hr) (pv 2) (pv 5) (fun _ _ => rfl)) (pv 6)) rfl) (pss_one (ps_expr (pe_bm PySem.F.plainAttrs_list PySem.F.slot_list_append PySem.F.type_list_append mt_append (pv 4) (pa_cons (pv 7) pa_nil))))) pss_nil)))))) (pss_one (ps_set (i := 3) sc_ct.nd rfl (.inl rfl) (pv 4)))))) (pss_one (ps_ret (pv 2)))))), ?_⟩
    obtain ⟨dx, pl, ld, d, hp, hpl, hl⟩ := id hW
    walk_at "go"
    refine w_disp1 (i := x) (v := .str (Str.ofString "")) (fun H' R h => ⟨_, rfl, h⟩) (fun H' R h => h) (fun wd H1 hwd nwd => ?_)
    walk_at "go"
    refine w_newL (by walk_at "sz") (fun ed H2 hed ned => ?_)
    walk_at "gs"
    have okB := fun i => bfs_ok (L := L) (p := x) hL x0 x1 i
    refine w_while (m := n.toNat + 1) (fun m σ H3 => ∃ (y4 y5 y6 y7 : Option V) (ed : Addr) (a : Nat), σ = [some (.ref p), some (.int x), some (.ref wd), some (.ref ed), y4, y5, y6, y7] ∧ Same H H3 ∧ H wd = none ∧ H ed = none ∧ wd ≠ ed ∧ H3 wd = some (.dK (kvW (bfs L x a))) ∧ H3 ed = some (.lst (plV ((bfs L x a).drop a))) ∧ m + a = n.toNat + 1 ∧ a ≤ (bfs L x a).length) ?_ ?_
    · exact ⟨none, none, none, none, ed, 0, rfl, nwd.same.nw ned, nwd.nn, nwd.same.free ned.nn, ned.ne hwd, ned.at hwd, hed, rfl, Nat.zero_le _⟩
    · rintro m σ H3 ⟨y4, y5, y6, y7, ed, a, rfl, s3, nw, ne, wne, hw3, he3, hm, hal⟩
      have ok3 := okB a
      have len3 := ok3.len
      refine ⟨_, rfl, _, .inl ⟨_, SqL.of he3, rfl⟩, ?_⟩
      by_cases hend : (bfs L x a).length = a
      · have e0 : plV ((bfs L x a).drop a) = [] := by
          rw [List.drop_of_length_le (by omega)]
          rfl
        rw [e0]
        refine w_whF ?_
        walk_at "go"
        exact q wd H3 _ nw s3 hw3 ⟨a, rfl, by omega⟩ ok3
      · have e1 : (!(plV ((bfs L x a).drop a)).isEmpty) = true := by
          unfold plV
          rw [Bool.not_eq_true', List.isEmpty_eq_false_iff]
          intro z
          have := congrArg List.length z
          rw [List.length_map, List.length_drop] at this
          have z2 : (([] : List V)).length = 0 := rfl
          omega
        rw [e1]
        refine w_whT ?_
        walk_at "go"
        refine w_newL (by walk_at "sz") (fun be H4 hbe nbe => ?_)
        have nb : H be = none := s3.free nbe.nn
        have bw : be ≠ wd := (nbe.ne hw3).symm
        have bed : be ≠ ed := (nbe.ne he3).symm
        have s4 : Same H H4 := s3.nw nbe
        walk_at "go"
        refine w_list (xs := plV ((bfs L x a).drop a)) (fun i σ H5 => ∃ (y5 y6 y7 : Option V), σ = [some (.ref p), some (.int x), some (.ref wd), some (.ref ed), some (.ref be), y5, y6, y7] ∧ Same H H5 ∧ H5 wd = some (.dK (kvW (bfs L x (a + i)))) ∧ H5 ed = some (.lst (plV ((bfs L x a).drop a))) ∧ H5 be = some (.lst (plV ((bfs L x (a + i)).drop (bfs L x a).length)))) ⟨y5, y6, y7, rfl, s4, nbe.at hw3, nbe.at he3, by rw [Nat.add_zero, List.drop_of_length_le (Nat.le_refl _)]; exact hbe⟩ (fun i σ H5 _ ⟨_, _, _, _, _, _, h, _⟩ => h) ?_ ?_
        · rintro i v σ H5 hv ⟨y5, y6, y7, rfl, s5, hw5, he5, hb5⟩
          obtain ⟨k, hk, rfl⟩ : ∃ k, (bfs L x a)[a + i]? = some k ∧ V.int k.1 = v := by
            unfold plV at hv
            rw [List.getElem?_map, List.getElem?_drop, Option.map_eq_some_iff] at hv
            exact hv
          have hk5 : (bfs L x (a + i))[a + i]? = some k := pre_get (bfs_mono (Nat.le_add_right a i)) hk
          have kin : k ∈ bfs L x (a + i) := List.mem_of_getElem? hk5
          have ok5 := okB (a + i)
          walk_at "go"
          refine w_str (fun j σ H6 => ∃ (y6 y7 : Option V), σ = [some (.ref p), some (.int x), some (.ref wd), some (.ref ed), some (.ref be), some (.int k.1), y6, y7] ∧ Same H H6 ∧ H6 wd = some (.dK (kvW (exS L k (bfs L x (a + i)) (sgs.take j)))) ∧ H6 ed = some (.lst (plV ((bfs L x a).drop a))) ∧ H6 be = some (.lst (plV ((exS L k (bfs L x (a + i)) (sgs.take j)).drop (bfs L x a).length)))) ⟨_, _, rfl, s5, hw5, he5, hb5⟩ ?_ ?_
          · rintro j c σ H6 hc ⟨y6, y7, rfl, s6, hw6, he6, hb6⟩
            rw [sgs_tl] at hc
            have hs : c ∈ sgs := List.mem_of_getElem? hc
            have ok6 : FsOk n (exS L k (bfs L x (a + i)) (sgs.take j)) := exS_ok hL _ _ (fun c hc => List.mem_of_mem_take hc) kin ok5
            have pre6 : bfs L x (a + i) <+: exS L k (bfs L x (a + i)) (sgs.take j) := exS_pre k _ _
            have kin6 := pre6.subset kin
            have len6 := ok6.len
            have ble : (bfs L x a).length ≤ (exS L k (bfs L x (a + i)) (sgs.take j)).length := ((bfs_mono (Nat.le_add_right a i)).trans pre6).length_le
            rw [take_snoc hc, exS_snoc]
            generalize exS L k (bfs L x (a + i)) (sgs.take j) = fs at hw6 hb6 ok6 kin6 len6 ble ⊢
            walk_at "go"
            refine w_kFld (s6.at hp) T_World.cl T_World.nL (wf_leads _ _) ?_
            walk_at "go"
            refine w_kDGetS (s6.at hl.hd) (val_sgs hs) ?_
            walk_at "go"
            refine w_kDGet1 (s6.at (hl.hc c hs)) ?_
            walk_at "go"
            refine w_kDGet1I (s6.at (hl.hc c hs)) ?_
            rw [getD_kvI]
            cases e2 : lk (L c) k.1 with
            | none =>
              have e3 : ex1 L k fs c = fs := by
                unfold ex1
                rw [show stp L c k.1 = none from e2]
              rw [e3]
              walk_at "go"
              exact ⟨_, _, rfl, s6, hw6, he6, hb6⟩
            | some e =>
              rw [show oV (some e) = V.int e from rfl]
              walk_at "go"
              rw [isSome_kvW ok6.nd]
              by_cases hin : e ∈ fs.map (·.1)
              · have e3 : ex1 L k fs c = fs := by
                  unfold ex1
                  rw [show stp L c k.1 = some e from e2]
                  exact if_pos hin
                rw [e3, decide_eq_true hin]
                walk_at "go"
                exact ⟨_, _, rfl, s6, hw6, he6, hb6⟩
              · have e3 : ex1 L k fs c = fs ++ [(e, k.2 ++ one c)] := by
                  unfold ex1
                  rw [show stp L c k.1 = some e from e2]
                  exact if_neg hin
                rw [e3, decide_eq_false hin, Bool.not_false]
                have wl := ok6.wl k kin6
                walk_at "go"
                refine w_kDGetI hw6 (val_kvW ok6.nd kin6) ?_
                walk_at "go"
                refine w_addS (line_of (by rw [len_one]; omega)) ?_
                walk_at "go"
                refine w_kDPutI hw6 (by rw [kvW_len]; exact lineLt_of (by omega)) (fun H7 hw7 o7 => ?_)
                rw [kvW_put hin] at hw7
                walk_at "go"
                refine w_append (o7.at bw hb6) (by unfold plV; rw [List.length_map, List.length_drop]; exact lineLt_of (by omega)) (fun H8 hb8 o8 => ?_)
                walk_at "go"
                refine ⟨_, _, rfl, (s6.off o7 nw).off o8 nb, o8.at bw.symm hw7, o8.at bed.symm (o7.at wne.symm he6), ?_⟩
                rw [hb8, List.drop_append_of_le_length ble]
                unfold plV
                rw [List.map_append]
                rfl
          · rintro σ H6 ⟨y6, y7, rfl, s6, hw6, he6, hb6⟩
            rw [sgs_tl, List.take_length, ← bfs_succ hk5] at hw6 hb6
            exact ⟨_, _, _, rfl, s6, hw6, he6, hb6⟩
        · rintro σ H5 ⟨y5, y6, y7, rfl, s5, hw5, he5, hb5⟩
          have el : (plV ((bfs L x a).drop a)).length = (bfs L x a).length - a := by
            unfold plV
            rw [List.length_map, List.length_drop]
          rw [el, show a + ((bfs L x a).length - a) = (bfs L x a).length by omega] at hw5 hb5
          walk_at "go"
          refine ⟨n.toNat + 1 - (bfs L x a).length, by omega, some (.ref be), y5, y6, y7, be, (bfs L x a).length, rfl, s5, nw, nb, bw.symm, hw5, hb5, by omega, (bfs_mono (by omega)).length_le⟩
end
end Sf
namespace Sf
open PySem PySem.Spec PyProof.Rows L2 TL
/-! ### places numbered anew -/
def numF : Int → List Int → List (Int × Int)
  | _, [] => []
  | o, x :: r => (x, o) :: numF (o + 1) r
def numL (ks : List Int) : List (Int × Int) := numF 0 ks
def rk (ks : List Int) (x : Int) : Int := (lk (numL ks) x).getD 0
theorem numF_snoc (x : Int) : ∀ (ks : List Int) (o : Int), numF o (ks ++ [x]) = numF o ks ++ [(x, o + ks.length)]
  | [], o => by
    show [(x, o)] = [(x, o + 0)]
    rw [Int.add_zero]
  | k :: ks, o => by
    show (k, o) :: numF (o + 1) (ks ++ [x]) = (k, o) :: (numF (o + 1) ks ++ [(x, o + ((ks.length + 1 : Nat) : Int))])
    rw [numF_snoc x ks (o + 1), show o + 1 + (ks.length : Int) = o + ((ks.length + 1 : Nat) : Int) by omega]
theorem numL_snoc (ks : List Int) (x : Int) : numL (ks ++ [x]) = numL ks ++ [(x, (ks.length : Int))] := by
  unfold numL
  rw [numF_snoc, Int.zero_add]
theorem numF_keys : ∀ (ks : List Int) (o : Int), (numF o ks).map (·.1) = ks
  | [], _ => rfl
  | k :: ks, o => by
    show k :: (numF (o + 1) ks).map (·.1) = k :: ks
    rw [numF_keys ks (o + 1)]
theorem numL_keys (ks : List Int) : (numL ks).map (·.1) = ks := numF_keys ks 0
theorem numL_len (ks : List Int) : (numL ks).length = ks.length := by
  have := congrArg List.length (numL_keys ks)
  rw [List.length_map] at this
  exact this
theorem lk_isSome {l : List (Int × Int)} {x : Int} : (lk l x).isSome = decide (x ∈ l.map (·.1)) := by
  by_cases h : x ∈ l.map (·.1)
  · rw [decide_eq_true h]
    cases e : lk l x with
    | some y => rfl
    | none =>
      unfold lk at e
      rw [Option.map_eq_none_iff, List.find?_eq_none] at e
      obtain ⟨q, hq, rfl⟩ := List.mem_map.mp h
      exact absurd (decide_eq_true rfl) (e _ hq)
  · rw [decide_eq_false h, lk_none fun p hp z => h (by rw [← z]; exact List.mem_map.mpr ⟨p, hp, rfl⟩)]
    rfl
theorem lk_num {ks : List Int} {x : Int} (h : x ∈ ks) : lk (numL ks) x = some (rk ks x) := by
  have : (lk (numL ks) x).isSome = true := by rw [lk_isSome, numL_keys, decide_eq_true h]
  unfold rk
  cases e : lk (numL ks) x with
  | none => rw [e] at this; cases this
  | some y => rfl
theorem numF_snd : ∀ (ks : List Int) (o : Int), ∀ q ∈ numF o ks, o ≤ q.2 ∧ q.2 < o + ks.length
  | k :: ks, o, q, h => by
    rcases List.mem_cons.mp h with rfl | h
    · exact ⟨Int.le_refl _, by rw [List.length_cons]; show o < o + ((ks.length + 1 : Nat) : Int); omega⟩
    · have := numF_snd ks (o + 1) q h
      rw [List.length_cons]
      omega
theorem numF_inj : ∀ (ks : List Int) (o : Int), ∀ q ∈ numF o ks, ∀ r ∈ numF o ks, q.2 = r.2 → q = r
  | k :: ks, o, q, hq, r, hr, e => by
    rcases List.mem_cons.mp hq with rfl | hq
    · rcases List.mem_cons.mp hr with rfl | hr
      · rfl
      · have := (numF_snd ks (o + 1) r hr).1
        have e : o = r.2 := e
        omega
    · rcases List.mem_cons.mp hr with rfl | hr
      · have := (numF_snd ks (o + 1) q hq).1
        have e : q.2 = o := e
        omega
      · exact numF_inj ks (o + 1) q hq r hr e
theorem rk_inj {ks : List Int} {x y : Int} (hx : x ∈ ks) (hy : y ∈ ks) (e : rk ks x = rk ks y) : x = y := by
  have h1 := lk_mem (lk_num hx)
  have h2 := lk_mem (lk_num hy)
  exact congrArg Prod.fst (numF_inj ks 0 _ h1 _ h2 e)
theorem rk_rg {ks : List Int} {x : Int} (hx : x ∈ ks) : 0 ≤ rk ks x ∧ rk ks x < ks.length := by
  have := numF_snd ks 0 _ (lk_mem (lk_num hx))
  rw [Int.zero_add] at this
  exact this
def renM (ks : List Int) (l : List (Int × Int)) : List (Int × Int) := (l.filter fun q => decide (q.1 ∈ ks)).map fun q => (rk ks q.1, rk ks q.2)
def renL (ks : List Int) (L : Nat → List (Int × Int)) (c : Nat) : List (Int × Int) := renM ks (L c)
theorem renM_len (ks : List Int) (l : List (Int × Int)) : (renM ks l).length ≤ l.length := by
  unfold renM
  rw [List.length_map]
  exact List.length_filter_le _ _
theorem renM_snoc_in {ks : List Int} {l : List (Int × Int)} {q : Int × Int} (h : q.1 ∈ ks) : renM ks (l ++ [q]) = renM ks l ++ [(rk ks q.1, rk ks q.2)] := by
  unfold renM
  rw [List.filter_append, List.map_append, List.filter_cons, if_pos (decide_eq_true h)]
  rfl
theorem renM_snoc_out {ks : List Int} {l : List (Int × Int)} {q : Int × Int} (h : q.1 ∉ ks) : renM ks (l ++ [q]) = renM ks l := by
  unfold renM
  rw [List.filter_append, List.filter_cons, if_neg (by simpa using h)]
  simp
theorem renM_new {ks : List Int} {l : List (Int × Int)} {q : Int × Int} (nd : ((l ++ [q]).map (·.1)).Nodup) (h : q.1 ∈ ks) : lk (renM ks l) (rk ks q.1) = none := lk_none fun r hr e => by
  unfold renM at hr
  obtain ⟨z, hz, rfl⟩ := List.mem_map.mp hr
  rw [List.mem_filter] at hz
  have e2 := rk_inj (of_decide_eq_true hz.2) h e
  rw [List.map_append, List.nodup_append] at nd
  exact nd.2.2 z.1 (List.mem_map.mpr ⟨z, hz.1, rfl⟩) q.1 (List.mem_singleton.mpr rfl) e2
def LNd (L : Nat → List (Int × Int)) : Prop := ∀ c ∈ sgs, ((L c).map (·.1)).Nodup
end Sf
namespace Sf
open PySem PySem.Spec PyProof.Rows L2 TL
/-! ### sorted of data, and of a dict's keys by key=, a def that keeps its promise -/
section
variable {X : Cx} {pins : List (Addr × Obj)} {σ : L2.St} {H : Hp} {s : Shared}
theorem each_vals {β : Type} {vof : β → V} : ∀ {us : List Value} {bs : List β}, PySem.W.EachIs (fun u b => RelV (vof b) u) us bs → Vals (bs.map vof) us
  | _, _, .nil => .nil
  | _, _, .cons h t => .cons h (each_vals t)
theorem vals_each {β : Type} {vof : β → V} : ∀ {us : List Value} {bs : List β}, Vals (bs.map vof) us → PySem.W.EachIs (fun u b => RelV (vof b) u) us bs
  | [], [], _ => .nil
  | u :: us, b :: bs, h => by
    rw [List.map_cons] at h
    cases h with
    | cons h1 h2 => exact .cons h1 (vals_each h2)
  | [], b :: bs, h => by
    rw [List.map_cons] at h
    cases h
  | u :: us, [], h => by
    rw [List.map_nil] at h
    cases h
/-- sorted(l) of data -/
theorem call_sortedData {β : Type} (vof : β → V) (enc : β → PyData) (hu : X.A.units + 64 < cLine) : CallR X (.builtin "sorted") (fun xs H Q => ∃ (a : Addr) (bs : List β), xs = [.ref a] ∧ SqL X.K H a (bs.map vof) ∧ (∀ b ∈ bs, Dp X.K H (vof b) (enc b)) ∧
    PySem.W.AllAlike (bs.map enc) ∧ PySem.W.Sortable (bs.map enc) ∧ (∀ b ∈ bs, (enc b).depth ≤ 60) ∧ ∀ p, H p = none → Q (.ref p) (upd H p (.lst ((bs.mergeSort (PySem.W.dataLe false enc)).map vof)))) := by
  intro pins s σ H xs us Q I r h
  obtain ⟨a, bs, rfl, hs, hdp, hal, hso, hdep, q⟩ := h
  rw [Vals.ref1 r]
  obtain ⟨its, rv, hl, hz⟩ := I.list hs
  have hz' := hz
  rw [List.length_map] at hz'
  have e := vals_each rv
  have er : PySem.W.EachIs (fun v b => ∃ as, Reads s.heap v (enc b) as) its bs := (PySem.W.each_mem e).mono fun v b hb => Dp.reads I (enc b) (vof b) v (hdp b hb.2) hb.1
  refine PySem.W.sorted_data hl.isList e er hal hso hz' (fun b hb => by have := hdep b hb; omega) fun out ho eo => ?_
  obtain ⟨ep, he'⟩ := PyProof.Rows.sortedAll_at s.heap its out.toArray
  have rv' := each_vals eo
  have hlen : ((bs.mergeSort (PySem.W.dataLe false enc)).map vof).length ≤ sizeLine := by
    rw [List.length_map, List.length_mergeSort]
    exact hz'
  exact ⟨.ref _, upd H (s.heap.objs.size + 1) (.lst ((bs.mergeSort (PySem.W.dataLe false enc)).map vof)), I.laid (t' := s.toks) (fun _ _ => PyProof.Rows.sortedAll_old) (Nat.le_succ _) ⟨hlen, out, ep, rv', he'⟩, rfl, q _ (I.hok.fresh (Nat.le_succ _))⟩
/-! what was new when the call began -/
structure Newly (X : Cx) (pins : List (Addr × Obj)) (b : Addr) : Prop where
  s0 : X.s_0.heap.objs.size ≤ b
  loc : b ≠ X.env.locals
  cl : ∀ x c, X.env.cells.lookup x = some c → c ≠ b
  fs : b ∉ X.fs
  pn : ∀ p ∈ X.pn ++ pins, p.1 ≠ b
theorem newly_of {b : Addr} (I : Inv X pins σ H s) (h : s.heap.objs.size ≤ b) : Newly X pins b :=
  ⟨Nat.le_trans I.sz h, fun e => absurd (Nat.lt_of_lt_of_le I.lt h) (by rw [e]; exact Nat.lt_irrefl _), fun x c e z => by
    obtain ⟨v, o, ho, _⟩ := I.cell x c e
    rw [z] at ho
    exact absurd (Nat.lt_of_lt_of_le (Heap.lt_size ho) h) (Nat.lt_irrefl _), I.nofs h, fun p hp z => by
    have ho := (I.pin p hp).1
    rw [z] at ho
    exact absurd (Nat.lt_of_lt_of_le (Heap.lt_size ho) h) (Nat.lt_irrefl _)⟩
theorem pin_more {b : Addr} {o : Obj} (I : Inv X pins σ H s) (N : Newly X pins b) (hb : s.heap.get? b = some o) (hn : H b = none) (hc : ∀ v, o.data ≠ .cell v) : Inv X ((b, o) :: pins) σ H s := I.pins_of fun p hp => by
  rcases List.mem_cons.mp hp with rfl | hp
  · exact ⟨hb, hn, N.loc, N.fs, hc⟩
  · exact I.pin p (List.mem_append_right _ hp)
theorem pin_less {p : Addr × Obj} (I : Inv X (p :: pins) σ H s) : Inv X pins σ H s := I.pins_of fun q hq => I.pin q (List.mem_append_right _ (List.mem_cons_of_mem _ hq))
theorem turn_one {b : Addr} {h' : Heap} {t' : Nat} (I : Inv X pins σ H s) (N : Newly X pins b) (hn : H b = none) (k : ∀ c o, c ≠ b → s.heap.get? c = some o → h'.get? c = some o) : Inv X pins σ H { s with heap := h', toks := t' } :=
  I.turned k hn N.loc (.inr N.s0) N.cl N.pn
/-- two records of ours have changed, the one at a is tracked from now on -/
theorem take_in {a b : Addr} {o : HO} {h' : Heap} {t' : Nat} (I : Inv X pins σ H s) (Na : Newly X pins a) (Nb : Newly X pins b) (na : H a = none) (nb : H b = none) (k : ∀ c o, c ≠ a → c ≠ b → s.heap.get? c = some o → h'.get? c = some o)
    (new : ObjOk X.prog X.w (upd H a o) h' a o) : Inv X pins σ (upd H a o) { s with heap := h', toks := t' } := by
  have nea : ∀ c u, H c = some u → c ≠ a := fun c u e => ne_of_none e na
  have neb : ∀ c u, H c = some u → c ≠ b := fun c u e => ne_of_none e nb
  have out : ∀ c, c ∉ [a, b] → c ≠ a ∧ c ≠ b := fun c hc => ⟨fun z => hc (by simp [z]), fun z => hc (by simp [z])⟩
  refine I.step (g' := s.gens) (d' := s.drawn) (ch := [a, b]) (fun c hc => ?_) (fun c o _ _ hc e _ => k c o (out c hc).1 (out c hc).2 e) (fun c o _ _ hc e _ => ⟨o.slots, k c o (out c hc).1 (out c hc).2 e⟩) (fun c _ hc _ n => by rw [upd_ne (out c hc).1]; exact n)
    (fun c o hc e => ⟨o, k c o (out c hc).1 (out c hc).2 e⟩) (fun c _ e => by rw [upd_ne (nea c _ e)]; exact e) (fun c _ _ e => by rw [upd_ne (nea c _ e)]; exact e) (fun c ps e => ⟨#[], by rw [upd_ne (nea c _ e), e]; simp⟩) (fun m hm => ?_) (fun c u e => ?_) I.bare
  · rcases List.mem_cons.mp hc with rfl | hc
    · exact ⟨.inr Na.s0, Na.loc, Na.cl, Na.pn⟩
    · obtain rfl := List.mem_singleton.mp hc
      exact ⟨.inr Nb.s0, Nb.loc, Nb.cl, Nb.pn⟩
  · obtain ⟨o, es, ep, ho, r⟩ := hm
    exact ⟨o, es, ep, k _ o (Ne.symm Na.loc) (Ne.symm Nb.loc) ho, r⟩
  · by_cases hca : c = a
    · subst hca
      rw [upd_same] at e
      cases e
      exact new
    · rw [upd_ne hca] at e
      refine (I.hok c u e).stay (fun d v hd q => ?_) (fun d q => by rw [upd_ne (nea d _ q)]; exact q) fun d xs q => by rw [upd_ne (nea d _ q)]; exact q
      rcases hd with z | z
      · rw [z] at q ⊢
        exact k c v hca (neb c u e) q
      · exact k d v (nea d _ z) (neb d _ z) q
end
section
variable {X : Cx} {pins : List (Addr × Obj)} {σ : L2.St} {H : Hp} {s : Shared} {k : Nat} {f : Addr} {fd : FuncData} {ps : List Str} {sp : Sp}
theorem seq_cell {T : String} {xs : Array Value} {n : Nat} : ∀ v, (seqObj T xs n).data ≠ .cell v := fun v z => by cases z
/-- a key that stays -/
def KeyAt (K : PySem.W.Frag) (H : Hp) (v : V) (d : PyData) : Prop := ∀ H', Same H H' → Dp K H' v d
theorem keys_go {a kS : Addr} {e1 : Nat} {vs : List Value} {xs : List Str} {A : Around} {E : Value → Shared → Prop} {R : PySem.Fin → Shared → Prop} (κ : Str → PyData) (F : FnOk X.prog X.w X.K X.mg X.base CX0 k f fd ps sp) (hb : Binds X.K fd ps []) (hr : Room k A)
    (hA : ∀ {pins : List (Addr × Obj)} {H : Hp} {s : Shared}, Inv X pins σ H s → Env0 X.prog X.w X.K X.mg X.base A X.stack s H) (I : Inv X pins σ H s) (Na : Newly X pins a) (Nk : Newly X pins kS) (hak : a ≠ kS)
    (ok : s.heap.get? kS = some (seqObj "list" #[] 0)) (oa : s.heap.get? a = some (seqObj "list" #[] e1)) (na : H a = none) (nk : H kS = none)
    (hv : PySem.W.EachIs (fun u x => RelV (V.str x) u) vs xs) (hZ : vs.length ≤ sizeLine) (hal : PySem.W.AllAlike (xs.map κ)) (hso : PySem.W.Sortable (xs.map κ)) (hu : ∀ x ∈ xs, A.units + (κ x).depth < cLine)
    (hsp : ∀ x ∈ xs, ∀ (H1 : Hp) (Q : VK), (∀ v H2, Same H1 H2 → KeyAt X.K H2 v (κ x) → Q v H2) → sp [.str x] H1 Q E0)
    (h : ∀ (s' : Shared) (H' : Hp), Same H H' → H' a = some (.lst ((xs.mergeSort (PySem.W.dataLe false κ)).map V.str)) → Inv X pins σ H' s' → R (.done (.ret .none)) s') :
    wpAny (model X.prog X.w) A (ksk_rest a (.ref f) false vs.toArray e1 (.ref kS)) R E s := by
  have hlen : xs.length = vs.length := hv.length.symm
  unfold ksk_rest
  refine wpAny_bind (wpAny_rule ?_)
  first
    | rw [List.forIn_toArray]
    | (rw [← Array.forIn_toList]; simp only [List.toList_toArray])
  refine wpAny_bind (ksk_fold (fun i s1 => ∃ (H1 : Hp) (ks : List V) (kA : Array Value) (e : Nat), Inv X ((kS, seqObj "list" kA e) :: (a, seqObj "list" #[] e1) :: pins) σ H1 s1 ∧ Same H H1 ∧ Vals ks kA.toList ∧ ks.length = i ∧ ∀ (j : Nat) (v : V) (x : Str), ks[j]? = some v → xs[j]? = some x → KeyAt X.K H1 v (κ x)) vs 0 s
    ⟨H, [], #[], 0, ?start, Same.refl _, .nil, rfl, fun j v x z => by simp at z⟩ ?turn ?fin)
  case start =>
    have I1 := pin_more I Na oa na seq_cell
    exact pin_more I1 ⟨Nk.s0, Nk.loc, Nk.cl, Nk.fs, fun p hp => by
      rcases List.mem_append.mp hp with z | z
      · exact Nk.pn p (List.mem_append_left _ z)
      · rcases List.mem_cons.mp z with rfl | z
        · exact hak
        · exact Nk.pn p (List.mem_append_right _ z)⟩ ok nk seq_cell
  case turn =>
    rintro j u s1 hj ⟨H1, ks, kA, e, I1, s01, rk, hk, kx⟩
    simp only [Nat.zero_add] at hk ⊢
    have hjl : j < vs.length := (List.getElem?_eq_some_iff.mp hj).1
    obtain ⟨x, hx⟩ : ∃ x, xs[j]? = some x := ⟨_, List.getElem?_eq_getElem (by omega)⟩
    have hz : (u, x) ∈ vs.zip xs := List.mem_of_getElem? (i := j) (by rw [List.getElem?_zip_eq_some]; exact ⟨hj, hx⟩)
    have ru : RelV (V.str x) u := hv.zip _ hz
    have hxm : x ∈ xs := List.mem_of_getElem? hx
    refine wpAny_bind (wpAny_attempt (wpAny_mono (run_fnA (Er := fun _ _ => False) (vs := [V.str x]) F hr (hA I1) hb I1 (.cons ru .nil) (hsp x hxm H1 (fun v H2 => Same H1 H2 ∧ KeyAt X.K H2 v (κ x)) fun v H2 g1 g2 => ⟨g1, g2⟩)) (fun v2 s2 he => ?_) fun _ _ hF => hF.elim))
    obtain ⟨v, H2, I2, rv, s12, kv⟩ := he
    try dsimp only
    obtain ⟨ok2, nk2, _⟩ := I2.pin _ (List.mem_append_right _ (List.mem_cons_self ..))
    have hka : kA.size = j := by
      rw [← Array.length_toList, ← rk.length]
      exact hk
    obtain ⟨c2, hc2⟩ : ∃ c2, (s2.heap.update kS (Obj.mapSeq (·.push v2))).get? kS = some (seqObj "list" (kA.push v2) c2) := ⟨_, get?_update_seq ok2 (·.push v2)⟩
    have sb := Heap.SameBut.update s2.heap kS (Obj.mapSeq (·.push v2))
    refine wpAny_bind (listUpdate_at ok2 rfl ?_ (by rw [hka]; omega) (by rw [Array.size_push, hka]; omega))
    have I3 := pin_less I2
    have Nk3 : Newly X ((a, seqObj "list" #[] e1) :: pins) kS := ⟨Nk.s0, Nk.loc, Nk.cl, Nk.fs, fun p hp => by
      rcases List.mem_append.mp hp with z | z
      · exact Nk.pn p (List.mem_append_left _ z)
      · rcases List.mem_cons.mp z with rfl | z
        · exact hak
        · exact Nk.pn p (List.mem_append_right _ z)⟩
    have I4 : Inv X ((a, seqObj "list" #[] e1) :: pins) σ H2 { s2 with heap := s2.heap.update kS (Obj.mapSeq (·.push v2)), toks := s2.toks } := turn_one I3 Nk3 nk2 fun c o hc e => (sb.2 c hc).trans e
    refine wpAny_pure ⟨rfl, H2, ks ++ [v], kA.push v2, c2, pin_more I4 Nk3 hc2 nk2 seq_cell, s01.trans s12, ?_, by rw [List.length_append, hk]; rfl, fun i w y hw hy => ?_⟩
    · rw [Array.toList_push]
      exact rk.append (.cons rv .nil)
    · by_cases hij : i < j
      · rw [List.getElem?_append_left (by omega)] at hw
        exact fun H3 s3 => kx i w y hw hy H3 (s12.trans s3)
      · rw [List.getElem?_append_right (by omega)] at hw
        have h0 : i - ks.length = 0 := by
          have := (List.getElem?_eq_some_iff.mp hw).1
          rw [List.length_singleton] at this
          omega
        have hi : i = j := by omega
        rw [h0] at hw
        subst hi
        rw [hx] at hy
        cases hy
        have e9 : v = w := Option.some.inj hw
        rw [← e9]
        exact kv
  case fin =>
    rintro s1 ⟨H1, ks, kA, e, I1, s01, rk, hk, kx⟩
    rw [Nat.zero_add] at hk
    obtain ⟨ok1, nk1, _⟩ := I1.pin _ (List.mem_append_right _ (List.mem_cons_self ..))
    obtain ⟨oa1, na1, _⟩ := I1.pin _ (List.mem_append_right _ (List.mem_cons_of_mem _ (List.mem_cons_self ..)))
    have hsz : kA.size = vs.length := by
      rw [← Array.length_toList, ← rk.length]
      exact hk
    have hks : PySem.W.EachIs (fun u d => ∃ as, Reads s1.heap u d as) kA.toList (xs.map κ) := by
      have all : ∀ (ks : List V) (us : List Value) (zs : List Str), Vals ks us → ks.length = zs.length → (∀ (j : Nat) (v : V) (x : Str), ks[j]? = some v → zs[j]? = some x → KeyAt X.K H1 v (κ x)) → PySem.W.EachIs (fun u d => ∃ as, Reads s1.heap u d as) us (zs.map κ) := by
        intro ks us zs r
        induction r generalizing zs with
        | nil =>
          intro hl _
          cases zs with
          | nil => exact .nil
          | cons z zs => cases hl
        | cons r1 r2 ih =>
          intro hl hk
          cases zs with
          | nil => cases hl
          | cons z zs =>
            rw [List.map_cons]
            exact .cons (Dp.reads I1 _ _ _ (hk 0 _ z rfl rfl H1 (Same.refl _)) r1) (ih zs (by simpa using hl) fun j v x h1 h2 => hk (j + 1) v x (by simpa using h1) (by simpa using h2))
      exact all ks _ xs rk (by omega) kx
    have hud : ∀ d ∈ xs.map κ, A.units + d.depth < cLine := fun d hd => by
      obtain ⟨x, hx, rfl⟩ := List.mem_map.mp hd
      exact hu x hx
    try dsimp only
    refine wpAny_bind (listItems_at ok1 rfl ?_)
    refine PySem.W.keyH_end (κ := PySem.W.dataKind s1.heap (xs.map κ)) (h₁ := s1.heap.hide kS) (fun c o hc e => Heap.of_hide e) (Heap.hide_self _ _) ok1 oa1 (Ne.symm hak) (PySem.W.SortsAt.data hks hal hso hud) hsz hZ fun h3 tk3 c3 kp n3 => ?_
    have I2 := pin_less (pin_less I1)
    have eo := PySem.W.keyedOut_each (rev := false) κ ⟨s1.heap, kA.toList, hal, rfl, hks⟩ hv
    have hl3 : ((xs.mergeSort (PySem.W.dataLe false κ)).map V.str).length ≤ sizeLine := by
      rw [List.length_map, List.length_mergeSort, hlen]
      exact hZ
    refine h _ _ (fun b o hb => ?_) upd_same (take_in (t' := tk3) (o := .lst ((xs.mergeSort (PySem.W.dataLe false κ)).map V.str)) I2 Na Nk na1 nk1 (fun c o h1 h2 e => kp c o h1 (by rw [Heap.hide_ne _ h2]; exact e)) ⟨hl3, _, c3, each_vals (vof := V.str) eo, n3⟩)
    rw [upd_ne (ne_of_none hb na)]
    exact s01 b o hb
/-- sorted(d, key=f) of a dict whose keys are texts -/
theorem call_sortedDK (hcalm : X.calm = true) (κ : Str → PyData) (F : FnOk X.prog X.w X.K X.mg X.base CX0 k f fd ps sp) (hb : Binds X.K fd ps []) (hr : Room (k + 2) X.A) : CallRK X (.builtin "sorted") [Str.ofString "key"] (fun vs zs H Q => ∃ (a : Addr) (kvs : List (Key × V)) (xs : List Str), vs = [.ref a] ∧ zs = [.ref f] ∧ Rd H a (.dK kvs) ∧ kvs.map (·.1) = xs.map Sum.inr ∧
    PySem.W.AllAlike (xs.map κ) ∧ PySem.W.Sortable (xs.map κ) ∧ (∀ x ∈ xs, (κ x).depth ≤ 60) ∧ (∀ x ∈ xs, ∀ (H1 : Hp) (Q : VK), (∀ v H2, Same H1 H2 → KeyAt X.K H2 v (κ x) → Q v H2) → sp [.str x] H1 Q E0) ∧
    ∀ p H', H p = none → Same H H' → H' p = some (.lst ((xs.mergeSort (PySem.W.dataLe false κ)).map V.str)) → Q (.ref p) H') := by
  intro pins s σ H vs zs us ws Q I r rz q
  obtain ⟨a, kvs, xs, rfl, rfl, hd, hks, hal, hso, hdep, hsp, q⟩ := q
  obtain rfl := Vals.ref1 r
  obtain ⟨w1, rfl, e1⟩ := vals1 rz
  cases e1
  obtain ⟨z, lo, ds, rel, dd⟩ := dk_rd I.hok hd
  obtain ⟨ep, hat⟩ := dd.dictAt
  have hkeys : ds.map (·.1) = xs.map Sum.inr := rel.keys.symm.trans hks
  have hl : ds.length = xs.length := by
    have e := congrArg List.length hkeys
    rw [List.length_map, List.length_map] at e
    exact e
  have hz : ds.length ≤ sizeLine := by rw [← rel.length]; exact z
  show wpAny _ _ (call (.builtin "sorted") [.ref a] [(Str.ofString "key", .ref f)]) _ _ _
  refine call_function_entry_kw kind_sorted plain_sorted entry_sorted (ksk_s1 _ _) ?_
  unfold Builtin.«sorted»
  refine wpAny_bind (m := checkCount "sorted" 1 1 _) (wpAny_pure ?_)
  refine wpAny_bind (PySem.W.kdu_collect (A := X.A.in1) (PySem.W.kdl_dict (knd := mixKind X.prog X.w) (kvs := ds) (ep := ep) lo) (I.ok.hd hcalm) hat hz fun h1 tk acc hk1 hacc => ?_)
  have hsz : acc.toList.length = xs.length := by rw [Array.length_toList, hacc.1, hl]
  have hS : PySem.W.EachIs (fun u x => RelV (V.str x) u) acc.toList xs := by
    have hS : StrsAre acc.toList xs := strs_at hsz fun j v e => by
      obtain ⟨k, x, e1, e2⟩ := hacc.2 j v (by rw [← Array.getElem?_toList]; exact e)
      have e3 : (ds.map (·.1))[j]? = some k := by rw [List.getElem?_map, e1]; all_goals rfl
      rw [hkeys, List.getElem?_map] at e3
      cases e4 : xs[j]? with
      | none => rw [e4] at e3; cases e3
      | some y =>
        rw [e4] at e3
        have e5 : Sum.inr y = k := Option.some.inj e3
        subst e5
        obtain ⟨t, ev⟩ := Value.isStrOf_shape (x := y) (v := v) e2
        exact ⟨y, t, rfl, ev⟩
    exact vals_each (vof := V.str) (vals_of_strs hS)
  have I1 : Inv X pins σ H { s with heap := h1, toks := tk } := I.kept hk1
  refine wpAny_bind (wpAny_newList ?_ (by rw [hsz, ← hl]; exact hz))
  have hoL : (h1.push (seqObj "list" acc.toList.toArray 0)).get? h1.objs.size = some (seqObj "list" acc.toList.toArray 0) := Heap.get?_push_size _ rfl
  show wpAny _ _ _ _ _ { s with heap := h1.push (seqObj "list" acc.toList.toArray 0), toks := tk }
  refine wpAny_bind (wpAny_holding (wpAny_call_entry_kw slot_list_sort ⟨_, hoL, rfl⟩ entry_list_sort ?_ (ksk_l1 _ _)))
  rw [ksk_t1]
  have hZ : acc.toList.length ≤ sizeLine := by rw [hsz, ← hl]; exact hz
  have I2 : Inv X pins σ H { s with heap := h1.push (seqObj "list" acc.toList.toArray 0), toks := tk } := I1.kept fun b u e => Heap.get?_push_of_some _ e
  generalize hA' : h1.objs.size = aL at hoL
  have Na : Newly X pins aL := newly_of I1 (by rw [← hA']; exact Nat.le_refl _)
  have na : H aL = none := I1.hok.fresh (by rw [← hA']; exact Nat.le_refl _)
  generalize hh2 : h1.push (seqObj "list" acc.toList.toArray 0) = h2 at hoL I2
  obtain ⟨e1, ho1⟩ : ∃ e1, (h2.update aL (Obj.mapSeq fun _ => (#[] : Array Value))).get? aL = some (seqObj "list" #[] e1) := ⟨_, get?_update_seq hoL fun _ => #[]⟩
  unfold ksk_tree
  refine wpAny_bind (listItems_at hoL rfl ?_)
  refine wpAny_bind (listUpdate_at hoL rfl ?_ (by rw [List.size_toArray]; exact hZ) (Nat.zero_le _))
  refine wpAny_bind (seqEpoch_at ho1 rfl ?_)
  refine wpAny_bind (wpAny_newTuple ?_ (by show acc.toList.length ≤ _; exact hZ))
  refine wpAny_bind (wpAny_newList ?_ (Nat.zero_le _))
  refine wpAny_holding ?_
  have sb := Heap.SameBut.update h2 aL (Obj.mapSeq fun _ => (#[] : Array Value))
  have I3 : Inv X pins σ H { s with heap := h2.update aL (Obj.mapSeq fun _ => (#[] : Array Value)), toks := tk } := turn_one (s := { s with heap := h2, toks := tk }) I2 Na na fun c o hc e => (sb.2 c hc).trans e
  have I4 : Inv X pins σ H { s with heap := (h2.update aL (Obj.mapSeq fun _ => (#[] : Array Value))).push (seqObj "tuple" acc.toList.toArray 0), toks := tk } := I3.kept fun b u e => Heap.get?_push_of_some _ e
  have I5 : Inv X pins σ H { s with heap := ((h2.update aL (Obj.mapSeq fun _ => (#[] : Array Value))).push (seqObj "tuple" acc.toList.toArray 0)).push (seqObj "list" #[] 0), toks := tk } := I4.kept fun b u e => Heap.get?_push_of_some _ e
  have Nk := newly_of I4 (Nat.le_refl _)
  have nk := I4.hok.fresh (Nat.le_refl _)
  have oa5 := Heap.get?_push_of_some (seqObj "list" #[] 0) (Heap.get?_push_of_some (seqObj "tuple" acc.toList.toArray 0) ho1)
  refine keys_go κ F hb hr.in1.in1 (fun J => J.env0.in1.in1) I5 Na Nk ?_ (Heap.get?_push_size _ rfl) oa5 na nk hS hZ hal hso (fun x hx => ?_) hsp fun s9 H9 s09 h9 I9 => ⟨_, rfl, wpAny_pure ⟨_, rfl, .ref aL, H9, I9, rfl, q aL H9 na s09 h9⟩⟩
  · intro e
    have hlt := Heap.lt_size (Heap.get?_push_of_some (seqObj "tuple" acc.toList.toArray 0) ho1)
    rw [← e] at hlt
    exact Nat.lt_irrefl _ hlt
  · have := hr.un
    have := hdep x hx
    show X.A.units + 1 + 1 + _ < _
    omega
end
end Sf
namespace Sf
open PySem PySem.Spec PyProof.Rows L2 TL
/-! ### moves in their order -/
def dMv (m : Mv) : PyData := .tuple [.str (one m.1), .int m.2.1, .int m.2.2]
def sortM (ms : List Mv) : List Mv := ms.mergeSort (PySem.W.dataLe false dMv)
open PySem.W in
theorem toks_inj {a b : Mv} (h : keyToks (dMv a) = keyToks (dMv b)) : a = b := by
  obtain ⟨c, s, e⟩ := a
  obtain ⟨c', s', e'⟩ := b
  unfold dMv at h
  simp only [keyToks, keyToksAll, List.cons_append, List.nil_append] at h
  simp [one] at h
  obtain ⟨rfl, rfl, rfl⟩ := h
  rfl
theorem mle_trans (a b c : Mv) : PySem.W.dataLe false dMv a b = true → PySem.W.dataLe false dMv b c = true → PySem.W.dataLe false dMv a c = true := (PySem.W.sortLe_total _ _ _).trans a b c
theorem mle_total (a b : Mv) : (PySem.W.dataLe false dMv a b || PySem.W.dataLe false dMv b a) = true := by
  rw [Bool.or_eq_true]
  exact (PySem.W.sortLe_total _ _ _).total a b
theorem mle_anti {a b : Mv} (h1 : PySem.W.dataLe false dMv a b = true) (h2 : PySem.W.dataLe false dMv b a = true) : a = b := by
  unfold PySem.W.dataLe PySem.W.sortLe at h1 h2
  simp only [cond_false, Bool.not_eq_true'] at h1 h2
  exact toks_inj ((PyProof.Rows.listOrd PyProof.Rows.itemOrd).total _ _ h2 h1)
theorem sortM_perm {l m : List Mv} (h : l.Perm m) : sortM l = sortM m := by
  refine List.Perm.eq_of_pairwise (le := fun a b => PySem.W.dataLe false dMv a b = true) (fun a b _ _ h1 h2 => mle_anti h1 h2) (List.pairwise_mergeSort mle_trans mle_total _) (List.pairwise_mergeSort mle_trans mle_total _) ?_
  exact ((List.mergeSort_perm _ _).trans h).trans (List.mergeSort_perm _ _).symm
theorem sortM_len (l : List Mv) : (sortM l).length = l.length := List.length_mergeSort _
theorem sortM_mem {l : List Mv} {m : Mv} : m ∈ sortM l ↔ m ∈ l := List.mem_mergeSort
theorem sortM_is {l : List Mv} : (sortM l).Perm l := List.mergeSort_perm _ _
/-- pairs of a value and its move, sorted -/
theorem sort_pairs (bs : List (V × Mv)) : (bs.mergeSort (PySem.W.dataLe false fun b => dMv b.2)).map (·.2) = sortM (bs.map (·.2)) := List.map_mergeSort fun a _ b _ => rfl
theorem mv_alike (a b : Mv) : PySem.W.alike (dMv a) (dMv b) = true := by
  unfold dMv
  simp [PySem.W.alike, PySem.W.alikeAll]
theorem mv_depth (a : Mv) : (dMv a).depth ≤ 60 := by
  unfold dMv
  simp only [PyData.depth, PyData.depthAll]
  decide
theorem mv_dp {K : PySem.W.Frag} {H : Hp} {v : V} {m : Mv} : MvAt H v m → Dp K H v (dMv m)
  | ⟨_, e, h⟩ => by
    rw [e]
    exact .tup (SqT.of h) (.cons (.str _) (.cons (.int _) (.cons (.int _) .nil)))
theorem zip_paired {α β : Type} {R : α → β → Prop} : ∀ {as : List α} {bs : List β}, Paired R as bs → ∃ l : List (α × β), l.map (·.1) = as ∧ l.map (·.2) = bs ∧ ∀ p ∈ l, R p.1 p.2
  | _, _, .nil => ⟨[], rfl, rfl, fun _ z => by cases z⟩
  | a :: _, b :: _, .cons r t => by
    obtain ⟨l, h1, h2, h3⟩ := zip_paired t
    refine ⟨(a, b) :: l, by rw [List.map_cons, h1], by rw [List.map_cons, h2], fun p hp => ?_⟩
    rcases List.mem_cons.mp hp with rfl | hp
    · exact r
    · exact h3 p hp
theorem paired_zip {α β : Type} {R : α → β → Prop} : ∀ {l : List (α × β)}, (∀ p ∈ l, R p.1 p.2) → Paired R (l.map (·.1)) (l.map (·.2))
  | [], _ => .nil
  | p :: l, h => .cons (h p List.mem_cons_self) (paired_zip fun q hq => h q (List.mem_cons_of_mem _ hq))
/-- sorted(moves) -/
def rSortM (K : PySem.W.Frag) : List V → Hp → VK → Prop := fun xs H Q => ∃ (a' : Addr) (bs : List (V × Mv)), xs = [.ref a'] ∧ SqL K H a' (bs.map (fun b => b.1)) ∧ (∀ b ∈ bs, Dp K H b.1 (dMv b.2)) ∧
    PySem.W.AllAlike (bs.map fun b => dMv b.2) ∧ PySem.W.Sortable (bs.map fun b => dMv b.2) ∧ (∀ b ∈ bs, (dMv b.2).depth ≤ 60) ∧ ∀ p, H p = none → Q (.ref p) (upd H p (.lst ((bs.mergeSort (PySem.W.dataLe false fun b => dMv b.2)).map (fun b => b.1))))
theorem call_sortM {X : Cx} (hu : X.A.units + 64 < cLine) : CallR X (.builtin "sorted") (rSortM X.K) := call_sortedData (β := V × Mv) (fun b => b.1) (fun b => dMv b.2) hu
theorem w_sortM {K : PySem.W.Frag} {H : Hp} {Q : VK} {a : Addr} {us : List V} {ms : List Mv} (ha : H a = some (.lst us)) (hm : MvsAt H us ms) (k : ∀ (p : Addr) (H' : Hp) (us' : List V), H' p = some (.lst us') → MvsAt H us' (sortM ms) → Nw p H H' → Q (.ref p) H') :
    rSortM K [.ref a] H Q := by
  obtain ⟨bs, h1, h2, h3⟩ := zip_paired hm
  refine ⟨a, bs, rfl, by rw [h1]; exact SqL.of ha, fun b hb => mv_dp (h3 b hb), ?_, ?_, fun b _ => mv_depth _, fun p np => ?_⟩
  · intro x hx y hy
    obtain ⟨b, _, rfl⟩ := List.mem_map.mp hx
    obtain ⟨c, _, rfl⟩ := List.mem_map.mp hy
    exact mv_alike _ _
  · refine .inl fun x hx => ?_
    obtain ⟨b, _, rfl⟩ := List.mem_map.mp hx
    exact ⟨_, _, rfl⟩
  · refine k p _ _ upd_same ?_ (.mk' np)
    rw [← h2, ← sort_pairs]
    exact paired_zip fun b hb => h3 b (List.mem_mergeSort.mp hb)
end Sf
namespace Sf
open PySem PySem.Spec PyProof.Rows L2 TL
/-! ### an expression under several locks -/
def frzs (H : Hp) (S : List Addr) (od : Addr → Obj) : Hp := fun a => if a ∈ S then (H a).map (fun u => .frz (od a) u) else H a
def unfz (H H' : Hp) (S : List Addr) : Hp := fun a => if a ∈ S then H a else H' a
def tLocks (t : TE) : TE := fun σ H Q => ∃ S : List Addr, S.Nodup ∧ (∀ a ∈ S, ∃ u, H a = some u ∧ Mut (some u)) ∧ ∀ od, t σ (frzs H S od) fun v H' => (∀ a ∈ S, H' a = frzs H S od a) ∧ Q v (unfz H H' S)
theorem frzs_in {H : Hp} {S : List Addr} {od : Addr → Obj} {a : Addr} {u : HO} (h : a ∈ S) (e : H a = some u) : frzs H S od a = some (.frz (od a) u) := by
  unfold frzs
  rw [if_pos h, e]
  rfl
theorem frzs_out {H : Hp} {S : List Addr} {od : Addr → Obj} {a : Addr} (h : a ∉ S) : frzs H S od a = H a := by
  unfold frzs
  rw [if_neg h]
section
variable {X : Cx} {pins : List (Addr × Obj)} {σ : L2.St} {s : Shared}
theorem lock_all : ∀ (S : List Addr) (H : Hp), Inv X pins σ H s → S.Nodup → (∀ a ∈ S, ∃ u, H a = some u ∧ Mut (some u)) → ∃ od, Inv X pins σ (frzs H S od) s
  | [], H, I, _, _ => ⟨fun _ => default, by
    have e : frzs H [] (fun _ => default) = H := funext fun a => frzs_out (by simp)
    rw [e]
    exact I⟩
  | d :: S, H, I, nd, hm => by
    obtain ⟨u, hu, mu⟩ := hm d List.mem_cons_self
    obtain ⟨o1, I1⟩ := I.lock hu mu
    have nd' := List.nodup_cons.mp nd
    have ne : ∀ a ∈ S, a ≠ d := fun a ha z => nd'.1 (z ▸ ha)
    obtain ⟨od, I2⟩ := lock_all S _ I1 nd'.2 fun a ha => by
      obtain ⟨v, hv, mv⟩ := hm a (List.mem_cons_of_mem _ ha)
      exact ⟨v, by rw [upd_ne (ne a ha)]; exact hv, mv⟩
    refine ⟨fun a => if a = d then o1 else od a, ?_⟩
    have e : frzs H (d :: S) (fun a => if a = d then o1 else od a) = frzs (upd H d (.frz o1 u)) S od := funext fun a => by
      by_cases h1 : a = d
      · subst h1
        rw [frzs_in List.mem_cons_self hu, frzs_out nd'.1, upd_same, if_pos rfl]
      · by_cases h2 : a ∈ S
        · obtain ⟨v, hv, _⟩ := hm a (List.mem_cons_of_mem _ h2)
          rw [frzs_in (List.mem_cons_of_mem _ h2) hv, frzs_in h2 (by rw [upd_ne h1]; exact hv), if_neg h1]
        · rw [frzs_out (by simp [h1, h2]), frzs_out h2, upd_ne h1]
    rw [e]
    exact I2
theorem unlock_all {H : Hp} : ∀ (S : List Addr) (H' : Hp), Inv X pins σ H' s → S.Nodup → (∀ a ∈ S, ∃ od u, H' a = some (.frz od u) ∧ H a = some u ∧ ∀ o' u', X.H_0 a ≠ some (.frz o' u')) → Inv X pins σ (unfz H H' S) s
  | [], H', I, _, _ => by
    have e : unfz H H' [] = H' := funext fun a => if_neg (by simp)
    rw [e]
    exact I
  | d :: S, H', I, nd, hm => by
    obtain ⟨od, u, h1, h2, h3⟩ := hm d List.mem_cons_self
    have nd' := List.nodup_cons.mp nd
    have ne : ∀ a ∈ S, a ≠ d := fun a ha z => nd'.1 (z ▸ ha)
    have I2 := unlock_all S (upd H' d u) (I.unlock h1 h3) nd'.2 fun a ha => by
      obtain ⟨o, v, k1, k2, k3⟩ := hm a (List.mem_cons_of_mem _ ha)
      exact ⟨o, v, by rw [upd_ne (ne a ha)]; exact k1, k2, k3⟩
    have e : unfz H H' (d :: S) = unfz H (upd H' d u) S := funext fun a => by
      unfold unfz
      by_cases k1 : a = d
      · subst k1
        rw [if_pos List.mem_cons_self, if_neg nd'.1, upd_same, h2]
      · by_cases k2 : a ∈ S
        · rw [if_pos (List.mem_cons_of_mem _ k2), if_pos k2]
        · rw [if_neg (by simp [k1, k2]), if_neg k2, upd_ne k1]
    rw [e]
    exact I2
theorem pe_locks {e : Expr} {t : TE} (h : PE X e t) : PE X e (tLocks t) := by
  refine ⟨fun pins s σ H Q I hw => ?_⟩
  obtain ⟨S, nd, hm, hw⟩ := hw
  obtain ⟨od, I1⟩ := lock_all S H I nd hm
  refine thn (h.run pins s σ _ _ I1 (hw od)) fun v s1 ⟨x, H1, I2, r, e2, q⟩ => ?_
  refine ⟨x, _, unlock_all S H1 I2 nd (fun a ha => ?_), r, q⟩
  obtain ⟨u, hu, mu⟩ := hm a ha
  exact ⟨od a, u, by rw [e2 a ha, frzs_in ha hu], hu, I.nofrz hu mu⟩
end
/-! ### a comprehension of two -/
section
variable {σ : L2.St} {H : Hp} {Q : VK} {K : PySem.W.Frag}
def kIn2 (g1 : TG) (tt1 : TT) (te : TE) (vs1 : List Nat) (σ2 : L2.St) (D : Addr) (N : Hp → Prop) : It → Hp → Prop := fun J1 H4 => ∃ W1 : Nat → Nat → Hp → Prop, (∃ m, W1 0 m H4) ∧ ∀ j k H, W1 j k H →
      (J1.stop j H ∧ N H) ∨ (J1.go j H ∧ ∃ Nx1 : Hp → Prop, (∀ H', Nx1 H' → ∃ k', k' < k ∧ W1 (j + 1) k' H') ∧ ∀ x H', J1.yld j H x H' → g1 x (wipe σ2 vs1) H' (kEach tt1 te vs1 σ2 D Nx1))
def kTst2 (wi1 : TI) (g1 : TG) (tt1 : TT) (te : TE) (vs1 : List Nat) (σ2 : L2.St) (D : Addr) (N : Hp → Prop) : Bool → Hp → Prop := fun b H3 => if b = true then wi1 σ2 H3 (kIn2 g1 tt1 te vs1 σ2 D N) else N H3
def kEach2 (tt : TT) (wi1 : TI) (g1 : TG) (tt1 : TT) (te : TE) (vs vs1 : List Nat) (σ : L2.St) (D : Addr) (N : Hp → Prop) : L2.St → Hp → Prop := fun σ2 H2 => wipe σ2 vs = wipe σ vs ∧ tt σ2 H2 (kTst2 wi1 g1 tt1 te vs1 σ2 D N)
def kLc2 (g : TG) (tt : TT) (wi1 : TI) (g1 : TG) (tt1 : TT) (te : TE) (vs vs1 : List Nat) (σ : L2.St) (Q : VK) : It → Hp → Prop := fun J H1 => ∀ D, H1 D = none → ∃ W : Nat → Nat → Hp → Prop, (∃ m, W 0 m (upd H1 D (.lst []))) ∧ ∀ i m H, W i m H →
  (J.stop i H ∧ Q (.ref D) H) ∨ (J.go i H ∧ ∃ Nx : Hp → Prop, (∀ H', Nx H' → ∃ m', m' < m ∧ W (i + 1) m' H') ∧ ∀ x H', J.yld i H x H' → g x (wipe σ vs) H' (kEach2 tt wi1 g1 tt1 te vs vs1 σ D Nx))
theorem w_lc2 {wi wi1 : TI} {g g1 : TG} {tt tt1 : TT} {te : TE} {vs vs1 : List Nat} (q : wi σ H (kLc2 g tt wi1 g1 tt1 te vs vs1 σ Q)) : tLc2 wi g tt wi1 g1 tt1 te vs vs1 σ H Q := q
theorem w_tst2T {wi1 : TI} {g1 : TG} {tt1 : TT} {te : TE} {vs1 : List Nat} {D : Addr} {N : Hp → Prop} (q : wi1 σ H (kIn2 g1 tt1 te vs1 σ D N)) : kTst2 wi1 g1 tt1 te vs1 σ D N true H := iteT q
theorem w_each2 {tt : TT} {wi1 : TI} {g1 : TG} {tt1 : TT} {te : TE} {vs vs1 : List Nat} {σ2 : L2.St} {D : Addr} {N : Hp → Prop} (e : wipe σ2 vs = wipe σ vs) (q : tt σ2 H (kTst2 wi1 g1 tt1 te vs1 σ2 D N)) : kEach2 tt wi1 g1 tt1 te vs vs1 σ D N σ2 H := ⟨e, q⟩
theorem w_lc2S {x : Str} {wi1 : TI} {g g1 : TG} {tt tt1 : TT} {te : TE} {vs vs1 : List Nat} (Pv : Addr → Nat → Hp → Prop) (h0 : ∀ p H1, H1 p = some (.lst []) → Nw p H H1 → Pv p 0 H1)
    (hs : ∀ p i c H, (tl x)[i]? = some c → Pv p i H → g (.str (one c)) (wipe σ vs) H (kEach2 tt wi1 g1 tt1 te vs vs1 σ p (Pv p (i + 1)))) (hd : ∀ p H, Pv p (tl x).length H → Q (.ref p) H) : kLc2 g tt wi1 g1 tt1 te vs vs1 σ Q (Its x) H := fun p np => by
  have hz : x.cps.size = (tl x).length := len_tl x
  refine ⟨fun i m H => m = x.cps.size - i ∧ i ≤ x.cps.size ∧ Pv p i H, ⟨x.cps.size, rfl, Nat.zero_le _, h0 p _ upd_same (.mk' np)⟩, ?_⟩
  rintro i m H ⟨rfl, hi, h⟩
  by_cases hlt : i < x.cps.size
  · refine .inr ⟨hlt, Pv p (i + 1), fun H' p' => ⟨x.cps.size - (i + 1), by omega, rfl, hlt, p'⟩, ?_⟩
    rintro v H' ⟨rfl, c, hc, rfl⟩
    exact hs p i c H' (getElem?_of_cps hc) h
  · have e : i = x.cps.size := by omega
    subst e
    exact .inl ⟨Nat.le_refl _, hd p H (by rw [← hz]; exact h)⟩
theorem w_items {td : TE} {R : It → Hp → Prop} (q : td σ H fun x H1 => ∃ d o kvs, x = .ref d ∧ H1 d = some (.frz o (.dK kvs)) ∧ R (Iti d o kvs) H1) : iItems td σ H R := q
theorem w_in2I {d : Addr} {o : Obj} {kvs : List (Key × V)} {g1 : TG} {tt1 : TT} {te : TE} {vs1 : List Nat} {D : Addr} {N : Hp → Prop} (Pv : Nat → Hp → Prop) (h0 : Pv 0 H) (hl : ∀ j H, Pv j H → H d = some (.frz o (.dK kvs)))
    (hs : ∀ j T k v H H', kvs[j]? = some (k, v) → Pv j H → H' T = some (.tup [kV k, v]) → Nw T H H' → g1 (.ref T) (wipe σ vs1) H' (kEach tt1 te vs1 σ D (Pv (j + 1)))) (hd : ∀ H, Pv kvs.length H → N H) : kIn2 g1 tt1 te vs1 σ D N (Iti d o kvs) H := by
  refine ⟨fun i m H => m = kvs.length - i ∧ i ≤ kvs.length ∧ Pv i H, ⟨kvs.length, rfl, Nat.zero_le _, h0⟩, ?_⟩
  rintro i m H ⟨rfl, hi, h⟩
  by_cases hlt : i < kvs.length
  · refine .inr ⟨⟨hl i H h, hlt⟩, Pv (i + 1), fun H' p' => ⟨kvs.length - (i + 1), by omega, rfl, hlt, p'⟩, ?_⟩
    rintro x H' ⟨T, k, v, hk, rfl, nT, rfl⟩
    exact hs i T k v H _ hk h upd_same (.mk' nT)
  · have e : i = kvs.length := by omega
    subst e
    exact .inl ⟨⟨hl _ H h, Nat.le_refl _⟩, hd H h⟩
end
end Sf
namespace Sf
open PySem PySem.Spec PyProof.Rows L2 TL
section
variable {P : Program} {w : World} {K : PySem.W.Frag} {mg : Str → Option Value} {base : Heap} {C : Addr}
/-! ### _law_mixed -/
def spMx : Sp := fun vs H Q _ => ∃ (b l p : Addr) (us : List V), vs = [.ref b, .ref p] ∧ Bag H b l ∧ H p = some (.lst us) ∧ p ≠ b ∧ us.length ≤ 10000 ∧
  ∀ (f : Addr) (us' : List V) (H' : Hp), us'.Perm us → H' f = some (.lst us') → H f = none → f ≠ b → f ≠ l → Bag H' b l → Fx b H H' → Q (.ref f) H'
theorem sc_mx : FnScope ["_law_bag", "_law_row", "_law_left", "_law_found", "_law_turn"] ["_law_bag", "_law_row"] (defScope s__law_mixed) := ⟨rfl, rfl, rfl, by decide +kernel, rfl, by decide +kernel, by decide +kernel⟩
theorem has_mx (F : FnAt K mg "_law_mixed" s__law_mixed ["_law_bag", "_law_row"]) (B : Blt mg) (h_Pu : HasPull P w K mg base) : Has P w K mg base 2 "_law_mixed" ["_law_bag", "_law_row"] spMx := F.has fun F => by
  obtain ⟨f_Pu, fd_Pu, g_Pu, k_Pu, b_Pu, G_Pu⟩ := h_Pu
  refine F.ok sc_mx (fun vs H Q E h => ?_) (fun cdv A outer s H vs Q E hr h => ?_)
  · obtain ⟨b, l, p, us, rfl, _⟩ := h
    rfl
  · obtain ⟨b, l, p, us, rfl, hB, hp, npb, hl, q⟩ := h
    refine ⟨_, (pss_cons (ps_set (i := 2) sc_mx.nd rfl (.inl rfl) (pe_callTy call_listO (by rfl) B.list (by decide +kernel) (pa_cons (pv 1) pa_nil))) (pss_cons (ps_set (i := 3) sc_mx.nd rfl (.inl rfl) (pe_lst pa_nil)) (pss_cons (ps_for PassesOwn.never rfl (pi_range1 rfl B.range (pa_cons (pe_callB call_lenQ (by rfl) B.len PySem.boot_len (pa_cons (pv 1) pa_nil)) pa_nil)) (pg_name (i := 4) sc_mx.nd rfl (.inl rfl)) (pss_one (ps_expr (pe_bm PySem.F.plainAttrs_list PySem.F.slot_list_append PySem.F.type_list_append mt_append (pv 3) (pa_cons (pe_bm PySem.F.plainAttrs_list PySem.F.slot_list_pop PySem.F.type_list_pop mt_popAt (pv 2) (pa_cons (pe_call G_Pu (hr.mono (by decide)) (by rfl) g_Pu k_Pu b_Pu .nil pass0 (pa_cons (pv 0) (pa_cons (pe_callB call_lenQ (by rfl) B.len PySem.boot_len (pa_cons (pv 2) pa_nil)) pa_nil))) pa_nil)) pa_nil))))) (pss_one (ps_ret (pv 3)))))), ?_⟩
    walk_at "go"
    refine w_listL hp (fun e H1 he ne => ?_)
    walk_at "go"
    refine w_newL (by walk_at "sz") (fun f H2 hf nf => ?_)
    have B1 := hB.nw ne
    have B2 := B1.nw nf
    have eb := hB.ne ne.nn
    have el := hB.neL ne.nn
    have fb := B1.ne nf.nn
    have fl := B1.neL nf.nn
    have ef : e ≠ f := nf.ne he
    have nfH : H f = none := by
      cases z : H f with
      | none => rfl
      | some o => have := nf.nn; rw [ne.at z] at this; cases this
    have hp2 := nf.at (ne.at hp)
    walk_at "go"
    refine w_kRng1 (by omega) (by omega) ?_
    refine w_range (fun i σ H3 => ∃ (y4 : Option V) (R S : List V), σ = [some (.ref b), some (.ref p), some (.ref e), some (.ref f), y4] ∧ Bag H3 b l ∧ Fx b H H3 ∧ H3 e = some (.lst R) ∧ H3 f = some (.lst S) ∧ (S ++ R).Perm us ∧ S.length = i)
      ⟨none, us, [], rfl, B2, (Fx.refl.nw ne).nw nf, nf.at he, hf, .refl _, rfl⟩ ?_ ?_
    · rintro i σ H3 hi ⟨y4, R, S, rfl, B3, f3, he3, hf3, hpm, hSl⟩
      have hi : i < us.length := by omega
      have hlen := hpm.length_eq
      rw [List.length_append] at hlen
      walk_at "go"
      refine ⟨b, l, _, rfl, B3, by omega, by omega, fun d H4 d0 d1 B4 f4 => ?_⟩
      walk_at "go"
      refine w_popV (f4.at eb he3) d0 d1 (by omega) (fun x R' H5 pR he5 o5 => ?_)
      have hf5 : H5 f = some (.lst S) := o5.at ef.symm (f4.at fb hf3)
      have B5 := B4.off eb el o5
      walk_at "go"
      refine w_append hf5 (lineLt_of (by omega)) (fun H6 hf6 o6 => ?_)
      walk_at "go"
      refine ⟨_, R', S ++ [x], rfl, B5.off fb fl o6, ((f3.trans f4).off o5 ?_).off o6 nfH, o6.at ef he5, hf6, ?_, by rw [List.length_append, hSl]; rfl⟩
      · exact ne.nn
      · rw [List.append_assoc]
        exact (List.Perm.append_left S pR.symm).trans hpm
    · rintro σ H3 ⟨y4, R, S, rfl, B3, f3, he3, hf3, hpm, hSl⟩
      have hlen := hpm.length_eq
      rw [List.length_append] at hlen
      have hR : R = [] := List.eq_nil_of_length_eq_zero (by
        have : S.length = us.length := by omega
        omega)
      rw [hR, List.append_nil] at hpm
      walk_at "go"
      exact q f S H3 hpm hf3 nfH fb fl B3 f3
end
/-! ### lists in another order -/
theorem paired_perm {α β : Type} {R : α → β → Prop} {as as' : List α} (h : as'.Perm as) : ∀ {bs : List β}, Paired R as bs → ∃ bs', Paired R as' bs' ∧ bs'.Perm bs := by
  induction h with
  | nil => exact fun h => ⟨_, h, .refl _⟩
  | cons x _ ih =>
    intro bs h
    cases h with
    | cons r t =>
      obtain ⟨bs', h1, h2⟩ := ih t
      exact ⟨_, .cons r h1, h2.cons _⟩
  | swap x y l =>
    intro bs h
    cases h with
    | cons r t =>
      cases t with
      | cons r2 t => exact ⟨_, .cons r2 (.cons r t), .swap _ _ _⟩
  | trans _ _ ih1 ih2 =>
    intro bs h
    obtain ⟨bs1, h1, h2⟩ := ih2 h
    obtain ⟨bs2, h3, h4⟩ := ih1 h1
    exact ⟨bs2, h3, h4.trans h2⟩
theorem paired_take {α β : Type} {R : α → β → Prop} : ∀ {as : List α} {bs : List β}, Paired R as bs → ∀ i, Paired R (as.take i) (bs.take i)
  | _, _, .nil, i => by
    rw [List.take_nil, List.take_nil]
    exact .nil
  | _, _, .cons r t, 0 => .nil
  | _, _, .cons r t, i + 1 => .cons r (paired_take t i)
theorem paired_drop {α β : Type} {R : α → β → Prop} : ∀ {as : List α} {bs : List β}, Paired R as bs → ∀ i, Paired R (as.drop i) (bs.drop i)
  | _, _, .nil, i => by
    rw [List.drop_nil, List.drop_nil]
    exact .nil
  | _, _, .cons r t, 0 => .cons r t
  | _, _, .cons r t, i + 1 => paired_drop t i
theorem paired_app {α β : Type} {R : α → β → Prop} : ∀ {as : List α} {bs : List β} {cs : List α} {ds : List β}, Paired R as bs → Paired R cs ds → Paired R (as ++ cs) (bs ++ ds)
  | _, _, _, _, .nil, h => h
  | _, _, _, _, .cons r t, h => .cons r (paired_app t h)
theorem mvs_perm {H : Hp} {us us' : List V} {ms : List Mv} (h : us'.Perm us) (hm : MvsAt H us ms) : ∃ ms', MvsAt H us' ms' ∧ ms'.Perm ms := paired_perm h hm
theorem WOk.perm {n : Int} {ms ms' : List Mv} (h : WOk n ms) (p : ms'.Perm ms) : WOk n ms' :=
  ⟨fun m hm => h.rg m (p.mem_iff.mp hm), h.pw.perm p.symm fun {x y} k e => ⟨fun z => (k e.symm).1 z.symm, fun z => (k e.symm).2 z.symm⟩⟩
theorem LM_uni {n : Int} {ms : List Mv} (ok : WOk n ms) {c : Nat} : ∀ p ∈ LM ms c, ∀ q ∈ LM ms c, p.1 = q.1 → p = q := by
  intro p hp q hq e
  obtain ⟨m, hm, h1⟩ := LM_mem.mp hp
  obtain ⟨k, hk, h2⟩ := LM_mem.mp hq
  have r1 := ok.rg m hm
  have r2 := ok.rg k hk
  have key : m = k := by
    refine Classical.byContradiction fun hne => ?_
    have : (m.1 = k.1 → m.2.1 ≠ k.2.1 ∧ m.2.2 ≠ k.2.2) ∨ (k.1 = m.1 → k.2.1 ≠ m.2.1 ∧ k.2.2 ≠ m.2.2) := by
      obtain ⟨i, hi, rfl⟩ := List.mem_iff_getElem.mp hm
      obtain ⟨j, hj, rfl⟩ := List.mem_iff_getElem.mp hk
      have hij : i ≠ j := fun z => hne (by subst z; rfl)
      rcases Nat.lt_or_gt_of_ne hij with h | h
      · exact .inl (List.pairwise_iff_getElem.mp ok.pw i j hi hj h)
      · exact .inr (List.pairwise_iff_getElem.mp ok.pw j i hj hi h)
    rcases this with t | t
    · have := fun z => t z
      rcases h1 with h1 | h1 <;> rcases h2 with h2 | h2
      · exact (t (by omega)).1 (by omega)
      · omega
      · omega
      · exact (t (by omega)).2 (by omega)
    · rcases h1 with h1 | h1 <;> rcases h2 with h2 | h2
      · exact (t (by omega)).1 (by omega)
      · omega
      · omega
      · exact (t (by omega)).2 (by omega)
  subst key
  refine Prod.ext e ?_
  rcases h1 with h1 | h1 <;> rcases h2 with h2 | h2 <;> omega
theorem stp_perm {n : Int} {ms ms' : List Mv} (ok : WOk n ms) (p : ms'.Perm ms) : stp (LM ms') = stp (LM ms) := by
  funext c x
  unfold stp
  have mem : ∀ q, q ∈ LM ms' c ↔ q ∈ LM ms c := fun q => by
    rw [LM_mem, LM_mem]
    constructor
    · rintro ⟨m, hm, h⟩
      exact ⟨m, p.mem_iff.mp hm, h⟩
    · rintro ⟨m, hm, h⟩
      exact ⟨m, p.mem_iff.mpr hm, h⟩
  cases e : lk (LM ms c) x with
  | none =>
    refine lk_none fun q hq z => ?_
    have : lk (LM ms c) x = some q.2 := lk_of (LM_uni ok) (by rw [← z]; exact (mem q).mp hq)
    rw [e] at this
    cases this
  | some y => exact lk_of (LM_uni (ok.perm p)) ((mem _).mpr (lk_mem e))
theorem LM_small {ms : List Mv} {c : Nat} {p : Int × Int} (hc : ∀ m ∈ ms, m.1 ≠ c + 32) : p ∈ LM ms c ↔ (c, p.1, p.2) ∈ ms := by
  rw [LM_mem]
  constructor
  · rintro ⟨⟨a, s, e⟩, hm, ⟨h1, h2, h3⟩ | ⟨_, h2, _⟩⟩
    · have h1 : a = c := h1
      have h2 : s = p.1 := h2
      have h3 : e = p.2 := h3
      rw [← h1, ← h2, ← h3]
      exact hm
    · exact absurd h2 (hc _ hm)
  · exact fun h => ⟨_, h, .inl ⟨rfl, rfl, rfl⟩⟩
theorem dp_mvs {K : PySem.W.Frag} {H : Hp} {us : List V} {ms : List Mv} (h : MvsAt H us ms) : DpAll K H us (ms.map dMv) := by
  induction h with
  | nil => exact .nil
  | cons r _ ih => exact .cons (mv_dp r) ih
theorem mv_lay {m : Mv} (h : 97 ≤ m.1 ∧ m.1 ≤ 104) : PyData.canLay0 (dMv m) = true := by
  unfold dMv
  simp only [PyData.canLay0, PyData.canLayAll0, Bool.and_true]
  have := strOk_wd (wd_one (sgn_iff.mpr (.inl h)))
  simpa [PyData.canLay0] using this
theorem mvs_shaped {n : Int} {ms : List Mv} (ok : WOk n ms) : SeqAt.shaped (.list (ms.map dMv)) = true := shaped_list (fun m hm => mv_lay (by have := ok.rg m hm; omega)) fun m _ => mv_depth m
end Sf
namespace Sf
open PySem PySem.Spec PyProof.Rows L2 TL
section
variable {P : Program} {w : World} {K : PySem.W.Frag} {mg : Str → Option Value} {base : Heap} {C CN : Addr}
/-! ### renumbered -/
theorem w_dcI {σ : L2.St} {H : Hp} {Q : VK} {d : Addr} {o : Obj} {kvs : List (Key × V)} {g : TG} {tt : TT} {tk tv : TE} {vs : List Nat} (Pv : Addr → Nat → Hp → Prop) (h0 : ∀ p H1, H1 p = some (.dK []) → Nw p H H1 → Pv p 0 H1) (hl : ∀ p i H, Pv p i H → H d = some (.frz o (.dK kvs)))
    (hs : ∀ p i T k v H H', kvs[i]? = some (k, v) → Pv p i H → H' T = some (.tup [kV k, v]) → Nw T H H' → g (.ref T) (wipe σ vs) H' (kEachD tt tk tv vs σ p (Pv p (i + 1)))) (hd : ∀ p H, Pv p kvs.length H → Q (.ref p) H) : kDc g tt tk tv vs σ Q (Iti d o kvs) H := by
  refine w_dcG (n := kvs.length) Pv h0 (fun p i H hi h => ⟨hl p i H h, hi⟩) (fun p H h => ⟨hl p _ H h, Nat.le_refl _⟩) ?_ hd
  rintro p i x H H' hi h ⟨T, k, v, hk, rfl, nT, rfl⟩
  exact hs p i T k v H _ hk h upd_same (.mk' nT)
theorem w_dcE {σ : L2.St} {H : Hp} {Q : VK} {d : Addr} {o : Obj} {kvs : List (Key × V)} {g : TG} {tt : TT} {tk tv : TE} {vs : List Nat} (Pv : Addr → Nat → Hp → Prop) (h0 : ∀ p H1, H1 p = some (.dK []) → Nw p H H1 → Pv p 0 H1) (hl : ∀ p i H, Pv p i H → H d = some (.frz o (.dK kvs)))
    (hs : ∀ p i T k v H H', kvs[i]? = some (k, v) → Pv p i H → H' T = some (.tup [.int (i : Nat), kV k]) → Nw T H H' → g (.ref T) (wipe σ vs) H' (kEachD tt tk tv vs σ p (Pv p (i + 1)))) (hd : ∀ p H, Pv p kvs.length H → Q (.ref p) H) : kDc g tt tk tv vs σ Q (Itek d o kvs) H := by
  refine w_dcG (n := kvs.length) Pv h0 (fun p i H hi h => ⟨hl p i H h, hi⟩) (fun p H h => ⟨hl p _ H h, Nat.le_refl _⟩) ?_ hd
  rintro p i x H H' hi h ⟨T, k, v, hk, rfl, nT, rfl⟩
  exact hs p i T k v H _ hk h upd_same (.mk' nT)
def spRn : Sp := fun vs H Q _ => ∃ (a b : Addr) (l : List (Int × Int)) (ks : List Int), vs = [.ref a, .ref b] ∧ a ≠ b ∧ H a = some (.dK (kvI l)) ∧ H b = some (.dK (kvI (numL ks))) ∧ (l.map (·.1)).Nodup ∧ (∀ q ∈ l, q.1 ∈ ks → q.2 ∈ ks) ∧ l.length ≤ 100000 ∧
  ∀ (r : Addr) (H' : Hp), H r = none → Same H H' → H' r = some (.dK (kvI (renM ks l))) → Q (.ref r) H'
theorem sc_rn : FnScope ["led", "numbers", "start", "end"] ["led", "numbers"] (defScope s_renumbered) := ⟨rfl, rfl, rfl, by decide +kernel, rfl, by decide +kernel, by decide +kernel⟩
theorem has_rn (F : FnAt K mg "renumbered" s_renumbered ["led", "numbers"]) : Has P w K mg base 1 "renumbered" ["led", "numbers"] spRn := F.has fun F => by
  refine F.ok sc_rn (fun vs H Q E h => ?_) (fun cdv A outer s H vs Q E hr h => ?_)
  · obtain ⟨a, b, l, ks, rfl, _⟩ := h
    rfl
  · obtain ⟨a, b, l, ks, rfl, hab, ha, hb, nd, hcl, hll, q⟩ := h
    refine ⟨_, (pss_one (ps_ret (pe_lock (pe_dc (own := [("start", 2), ("end", 3)]) (g := gTup K 2 (gCons (gName 2) (gCons (gName 3) gNil))) (by rfl) sc_rn.nd (pi_items (pv 0)) (blkOk_by (own := [("start", 2), ("end", 3)]) (N := ["led", "numbers", "start", "end"]) (sc := defScope s_renumbered) (by decide +kernel)) (fun _ _ _ _ _ => pg_tup rfl (pgs_cons (pg_name (i := 2) sc_rn.nd rfl (.inl rfl)) (pgs_cons (pg_name (i := 3) sc_rn.nd rfl (.inl rfl)) pgs_nil))) (fun _ _ _ _ _ => pts_one (pt_cmp (pc_din (hu_of hr) (pv 2) (pv 1)))) (fun _ _ _ _ _ => (pe_dget (hu_of hr) (pv 1) (pv 2) (fun _ _ => rfl))) (fun _ _ _ _ _ => (pe_dget (hu_of hr) (pv 1) (pv 3) (fun _ _ => rfl))))))), ?_⟩
    walk_at "go"
    refine ⟨a, _, ha, trivial, fun od => ?_⟩
    have hb0 : upd H a (.frz od (.dK (kvI l))) b = some (.dK (kvI (numL ks))) := by rw [upd_ne hab.symm]; exact hb
    have isin : ∀ x : Int, (valV (kvI (numL ks)) (Sum.inl x)).isSome = decide (x ∈ ks) := fun x => by
      rw [val_kvI, Option.isSome_map, lk_isSome, numL_keys]
    walk_at "go"
    refine w_items ?_
    walk_at "go"
    refine ⟨a, od, _, rfl, upd_same, ?_⟩
    refine w_dcI (fun r i H2 => Same (upd H a (.frz od (.dK (kvI l)))) H2 ∧ upd H a (.frz od (.dK (kvI l))) r = none ∧ H2 r = some (.dK (kvI (renM ks (l.take i))))) (fun r H2 hr nr => ⟨nr.same, nr.nn, hr⟩) (fun r i H2 h => h.1.at upd_same) ?_ ?_
    · rintro r i T k v H2 H3 hk ⟨s2, nr, hr2⟩ hT nT
      unfold kvI at hk
      rw [List.getElem?_map, Option.map_eq_some_iff] at hk
      obtain ⟨⟨x, y⟩, hxy, e⟩ := hk
      cases e
      have hT : H3 T = some (.tup [V.int x, V.int y]) := hT
      have s3 := s2.nw nT
      have hb3 := s3.at hb0
      have hxl : (x, y) ∈ l := List.mem_of_getElem? hxy
      have hil : i < l.length := (List.getElem?_eq_some_iff.mp hxy).1
      have rb : r ≠ b := fun z => by rw [z, hb0] at nr; cases nr
      walk_at "go"
      rw [isin x, take_snoc hxy]
      by_cases hx : x ∈ ks
      · rw [renM_snoc_in (q := (x, y)) hx, decide_eq_true hx]
        have hy := hcl _ hxl hx
        refine w_tstDT ?_
        walk_at "go"
        refine w_kDGetI hb3 (by rw [val_kvI, lk_num hx]; rfl) ?_
        walk_at "go"
        refine w_kDGetI hb3 (by rw [val_kvI, lk_num hy]; rfl) ?_
        walk_at "go"
        have hr3 := nT.at hr2
        refine w_kItDI hr3 (by rw [kvI_len]; have := renM_len ks (l.take i); rw [List.length_take] at this; exact lineLt_of (by omega)) (fun H4 hr4 o4 => ⟨s3.off o4 nr, nr, ?_⟩)
        rw [hr4, kvI_put (renM_new (q := (x, y)) ?_ hx)]
        rw [← take_snoc hxy]
        exact nd.sublist ((List.take_sublist _ _).map _)
      · rw [renM_snoc_out (q := (x, y)) hx, decide_eq_false hx]
        refine w_tstDB (fun z => nomatch z) fun _ => ?_
        exact ⟨s3, nr, nT.at hr2⟩
    · rintro r H2 ⟨s2, nr, hr2⟩
      rw [kvI_len, List.take_length] at hr2
      have nra : r ≠ a := fun z => by rw [z, upd_same] at nr; cases nr
      refine ⟨s2.at upd_same, ?_⟩
      refine q r _ (by rw [upd_ne nra] at nr; exact nr) (fun c o e => ?_) (by rw [upd_ne nra]; exact hr2)
      by_cases hc : c = a
      · subst hc
        rw [upd_same, ← ha]
        exact e
      · rw [upd_ne hc]
        exact s2 c o (by rw [upd_ne hc]; exact e)
/-! ### world_of -/
theorem wf_eq (pl ld : Addr) : wf pl ld = [(("places" : Str), .ref pl), (("leads" : Str), .ref ld)] := by
  unfold wf
  simp [putF, fpl_ne]
theorem wf_len (pl ld : Addr) : (wf pl ld).length < 1000 := by
  rw [wf_eq]
  show 2 < 1000
  decide
theorem wf_putP (pl ld r : Addr) : putF "places" (.ref r) (wf pl ld) = wf r ld := by
  rw [wf_eq, wf_eq]
  simp [putF]
theorem wf_putL (pl ld r : Addr) : putF "leads" (.ref r) (wf pl ld) = wf pl r := by
  rw [wf_eq, wf_eq]
  simp [putF, fpl_ne]
def spWf (C : Addr) : Sp := fun vs H Q _ => ∃ (n : Int) (ld : Addr) (d : Nat → Addr) (L : Nat → List (Int × Int)), vs = [.int n, .ref ld] ∧ 0 ≤ n ∧ n ≤ 1000 ∧ LdAt H ld d L ∧ ∀ (p : Addr) (H' : Hp), H p = none → Same H H' → WAt C H' p n L → Q (.ref p) H'
theorem sc_wf : FnScope ["many", "leads", "world"] ["many", "leads"] (defScope s_world_of) := ⟨rfl, rfl, rfl, by decide +kernel, rfl, by decide +kernel, by decide +kernel⟩
theorem has_wf (F : FnAt K mg "world_of" s_world_of ["many", "leads"]) (B : Blt mg) (T_World : WC K mg C) (mk : PySem.W.makesIn K C = true) (kc : PySem.W.keepIn K (.ref C) = true) (h_WI : HasM P w K mg base C 4 "__init__" ["self", "many", "moves"] (spWI C)) : Has P w K mg base 6 "world_of" ["many", "leads"] (spWf C) := F.has fun F => by
  obtain ⟨f_WI, fd_WI, m_WI, b_WI, G_WI⟩ := h_WI
  have M_WI : Mk K C f_WI := ⟨mk, m_WI.at_, m_WI.fn, kc⟩
  have g_World := T_World.mgC
  refine F.ok sc_wf (fun vs H Q E h => ?_) (fun cdv A outer s H vs Q E hr h => ?_)
  · obtain ⟨n, ld, d, L, rfl, _⟩ := h
    rfl
  · obtain ⟨n, ld, d, L, rfl, n0, n1, hl, q⟩ := h
    refine ⟨_, (pss_cons (ps_set (i := 2) sc_wf.nd rfl (.inl rfl) (pe_make M_WI G_WI (hr.mono (by decide)) (by rfl) g_World b_WI .nil pass0 (pa_cons pe_int (pa_cons (pe_lst pa_nil) pa_nil)))) (pss_cons (ps_fld (pv 2) (pe_listRg rfl (by rfl) B.list (prg_1 (by rfl) B.range (pv 0))) rfl) (pss_cons (ps_fld (pv 2) (pv 1) rfl) (pss_one (ps_ret (pv 2)))))), ?_⟩
    walk_at "go"
    refine w_newL (by walk_at "sz") (fun l1 H1 hl1 nl1 => ?_)
    walk_at "go"
    refine w_world (ms := []) hl1 .nil ⟨by decide, by decide⟩ (by decide) (by decide) (by decide) (fun p H2 G2 hW2 sG2 hG2 s2 => ?_)
    have ⟨dx, pl, ld0, d0, hp, _, _⟩ := hW2
    have np : H p = none := nl1.same.free (hG2 p _ hp)
    have hp2 := sG2.at hp
    walk_at "go"
    refine w_kRgL (.of_le (by decide) (by omega) (by decide) (by omega)) (fun r H3 hr3 nr3 => ?_)
    walk_at "go"
    refine w_kSFld (nr3.at hp2) T_World.cl T_World.nP (wf_len _ _) (fun H4 hp4 o4 => ?_)
    rw [wf_putP] at hp4
    walk_at "go"
    refine w_kSFld hp4 T_World.cl T_World.nL (wf_len _ _) (fun H5 hp5 o5 => ?_)
    rw [wf_putL] at hp5
    walk_at "go"
    have s3 : Same H H3 := (nl1.same.trans s2).nw nr3
    have s5 : Same H H5 := (s3.off o4 np).off o5 np
    have rp : r ≠ p := (nr3.ne hp2).symm
    refine q p H5 np s5 ⟨dx, r, ld, d, hp5, o5.at rp (o4.at rp hr3), hl.same s5⟩
end
end Sf
namespace Sf
open PySem PySem.Spec PyProof.Rows L2 TL
section
variable {P : Program} {w : World} {K : PySem.W.Frag} {mg : Str → Option Value} {base : Heap} {C CN : Addr}
theorem seen_binds {K : PySem.W.Frag} {T : Addr} {o : Obj} {dv : Value} {n : Nat} (ho : K.lookup T = some o) (hs : o.data = .seq #[dv] n) (kV doc pm : Value) (an : Option Addr) (cdv ct : Value) (s : Shared) (us : List Value) (X : K.In s.heap) (hl : us.length = 2) :
    BindsTo s (PySem.W.fnOf "seen" "World.seen" (defArgs s_World_seen) (defBody s_World_seen) (defScope s_World_seen) (.ref T) kV doc pm an cdv ct) ⟨us, []⟩ ((["self", "place"] : List Str).zip us) := by
  match us, hl with
  | [_, _], _ => exact PySem.W.binds_K X rfl ho hs rfl rfl
theorem seen_bindsD {K : PySem.W.Frag} {T : Addr} {o : Obj} {dv : Value} {n : Nat} (ho : K.lookup T = some o) (hs : o.data = .seq #[dv] n) (kV doc pm : Value) (an : Option Addr) (cdv ct : Value) (s : Shared) (us : List Value) (X : K.In s.heap) (hl : (us ++ [dv]).length = 2) :
    BindsTo s (PySem.W.fnOf "seen" "World.seen" (defArgs s_World_seen) (defBody s_World_seen) (defScope s_World_seen) (.ref T) kV doc pm an cdv ct) ⟨us, []⟩ ((["self", "place"] : List Str).zip (us ++ [dv])) := by
  have hl : us.length = 1 := by
    rw [List.length_append] at hl
    have : [dv].length = 1 := rfl
    omega
  match us, hl with
  | [_], _ => exact PySem.W.binds_K X rfl ho hs rfl rfl
theorem ways_binds {K : PySem.W.Frag} {T : Addr} {o : Obj} {dv : Value} {n : Nat} (ho : K.lookup T = some o) (hs : o.data = .seq #[dv] n) (kV doc pm : Value) (an : Option Addr) (cdv ct : Value) (s : Shared) (us : List Value) (X : K.In s.heap) (hl : us.length = 2) :
    BindsTo s (PySem.W.fnOf "ways" "World.ways" (defArgs s_World_ways) (defBody s_World_ways) (defScope s_World_ways) (.ref T) kV doc pm an cdv ct) ⟨us, []⟩ ((["self", "place"] : List Str).zip us) := by
  match us, hl with
  | [_, _], _ => exact PySem.W.binds_K X rfl ho hs rfl rfl
theorem ways_bindsD {K : PySem.W.Frag} {T : Addr} {o : Obj} {dv : Value} {n : Nat} (ho : K.lookup T = some o) (hs : o.data = .seq #[dv] n) (kV doc pm : Value) (an : Option Addr) (cdv ct : Value) (s : Shared) (us : List Value) (X : K.In s.heap) (hl : (us ++ [dv]).length = 2) :
    BindsTo s (PySem.W.fnOf "ways" "World.ways" (defArgs s_World_ways) (defBody s_World_ways) (defScope s_World_ways) (.ref T) kV doc pm an cdv ct) ⟨us, []⟩ ((["self", "place"] : List Str).zip (us ++ [dv])) := by
  have hl : us.length = 1 := by
    rw [List.length_append] at hl
    have : [dv].length = 1 := rfl
    omega
  match us, hl with
  | [_], _ => exact PySem.W.binds_K X rfl ho hs rfl rfl
/-! ### World.ways -/
def wyV (fs : List Fd) : List V := fs.map fun k => V.str k.2
def spWyX (C CN : Addr) : Sp := fun vs H Q E => ∃ (p : Addr) (n x : Int) (L : Nat → List (Int × Int)), vs = [.ref p, .int x] ∧ WAt C H p n L ∧ LRg n L ∧ n ≤ 1000 ∧ -1000000000000 ≤ x ∧ x ≤ 1000000000000 ∧ (¬ (0 ≤ x ∧ x < n) → XEp CN x H E) ∧
  (0 ≤ x ∧ x < n → ∀ (r : Addr) (H' : Hp) (fs : List Fd), H r = none → Same H H' → H' r = some (.lst (wyV fs)) → FinB L x fs → FsOk n fs → Q (.ref r) H')
theorem sc_wy : FnScope ["self", "place"] ["self", "place"] (defScope s_World_ways) := ⟨rfl, rfl, rfl, by decide +kernel, rfl, by decide +kernel, by decide +kernel⟩
theorem has_wyX {dv : Value} (F : MAtD K C "ways" "World.ways" s_World_ways ["self", "place"] dv) (B : Blt mg) (T_World : WC K mg C) (h_Npl : HasMX P w K mg base C 4 "need_place" ["self", "place"] (spNplX C CN)) (h_Ct : HasM P w K mg base C 1 "come_to" ["self", "place"] (spCt C)) : HasMXD P w K mg base C 5 "ways" ["self", "place"] dv (spWyX C CN) := by
  obtain ⟨f, fd, g, F, bb, bd⟩ := F
  refine ⟨f, fd, g, bb, bd, ?_⟩
  obtain ⟨f_Npl, fd_Npl, m_Npl, b_Npl, G_Npl⟩ := h_Npl
  obtain ⟨f_Ct, fd_Ct, m_Ct, b_Ct, G_Ct⟩ := h_Ct
  refine F.okX sc_wy (fun vs H Q E h => ?_) (fun cdv A outer s H vs Q E hr h => ?_)
  · obtain ⟨p, n, x, L, rfl, _⟩ := h
    rfl
  · obtain ⟨p, n, x, L, rfl, hW, hL, hn, x0, x1, qp, q⟩ := h
    refine ⟨_, (pss_cons (ps_expr (pe_meth (pv 0) T_World.cl m_Npl G_Npl (hr.mono (by decide)) b_Npl .nil (passes_call (takes_of rfl rfl rfl rfl) (fun _ _ _ _ h => h)) (pa_cons (pv 1) pa_nil))) (pss_one (ps_ret (pe_callTy (call_lvals rfl) (by rfl) B.list (by decide +kernel) (pa_cons (pe_dvs (pe_meth (pv 0) T_World.cl m_Ct G_Ct (hr.mono (by decide)) b_Ct .nil pass0 (pa_cons (pv 1) pa_nil))) pa_nil))))), ?_⟩
    obtain ⟨dx, pl, ld, d, hp, hpl, hl⟩ := id hW
    walk_at "go"
    refine w_kMeth hp (wf_no _ _ (by decide +kernel) (by decide +kernel)) ?_
    walk_at "go"
    refine ⟨p, n, x, L, rfl, hW, x0, x1, fun hx => ?_, fun hx => qp hx⟩
    walk_at "go"
    refine w_dvs ?_
    walk_at "go"
    refine w_kMeth hp (wf_no _ _ (by decide +kernel) (by decide +kernel)) ?_
    walk_at "go"
    refine ⟨p, n, x, L, rfl, hW, hL, hn, hx.1, hx.2, fun d1 H1 fs nd1 s1 hd1 fin ok => ?_⟩
    refine ⟨d1, _, rfl, hd1, fun v nv => ?_⟩
    have sv : Same H1 (upd H1 v (vwO v d1)) := same_upd nv
    walk_at "go"
    refine ⟨v, d1, _, rfl, upd_same, sv.at hd1, fun r nr => ?_⟩
    refine q hx r _ fs ?_ (s1.trans (sv.trans (same_upd nr))) ?_ fin ok
    · exact s1.free (sv.free nr)
    · rw [upd_same]
      unfold kvW wyV
      rw [List.map_map]
      rfl
/-! ### World.seen -/
def kEnumD (R : It → Hp → Prop) : List V → Hp → Prop := fun vs H1 => ∃ d kvs, vs = [.ref d] ∧ H1 d = some (.dK kvs) ∧ ∀ o, R (Itek d o kvs) (upd H1 d (.frz o (.dK kvs)))
theorem w_enumD {ta : TA} {σ : L2.St} {H : Hp} {R : It → Hp → Prop} (q : ta σ H (kEnumD R)) : iEnumD ta σ H R := q
theorem uniq_of {l : List (Int × Int)} (nd : (l.map (·.1)).Nodup) : ∀ p ∈ l, ∀ q ∈ l, p.1 = q.1 → p = q := by
  induction l with
  | nil => intro p hp; cases hp
  | cons a l ih =>
    have nd' := List.nodup_cons.mp nd
    have no : ∀ q ∈ l, a.1 ≠ q.1 := fun q hq e => nd'.1 (List.mem_map.mpr ⟨q, hq, e.symm⟩)
    intro p hp q hq e
    rcases List.mem_cons.mp hp with h1 | h1
    · rcases List.mem_cons.mp hq with h2 | h2
      · rw [h1, h2]
      · exact absurd (by rw [← h1]; exact e) (no q h2)
    · rcases List.mem_cons.mp hq with h2 | h2
      · exact absurd (by rw [← h2]; exact e.symm) (no p h1)
      · exact ih nd'.2 p h1 q h2 e
theorem FinB.cl {L : Nat → List (Int × Int)} {x : Int} {fs : List Fd} (h : FinB L x fs) (hN : LNd L) {c : Nat} (hc : c ∈ sgs) : ∀ q ∈ L c, q.1 ∈ fs.map (·.1) → q.2 ∈ fs.map (·.1) := fun q hq hk => by
  obtain ⟨k, hk, e⟩ := List.mem_map.mp hk
  exact h.closed hk hc (e := q.2) (by show lk (L c) k.1 = some q.2; rw [e]; exact lk_of (uniq_of (hN c hc)) hq)
theorem leV_snoc (d : Nat → Addr) (l : List Nat) (c : Nat) (a : Addr) (h : c ∉ l) : leV (fun e => if e = c then a else d e) (l ++ [c]) = leV d l ++ [((Sum.inr (one c) : Key), V.ref a)] := by
  unfold leV
  rw [List.map_append]
  congr 1
  · refine List.map_congr_left fun e he => ?_
    show ((Sum.inr (one e) : Key), V.ref (if e = c then a else d e)) = _
    rw [if_neg (fun z => h (by rw [← z]; exact he))]
  · show [((Sum.inr (one c) : Key), V.ref (if c = c then a else d c))] = _
    rw [if_pos rfl]
theorem leV_none {d : Nat → Addr} {l : List Nat} {c : Nat} (h : c ∉ l) : valV (leV d l) (Sum.inr (one c)) = none := val_sgs_none h
def spSeX (C CN : Addr) : Sp := fun vs H Q E => ∃ (p : Addr) (n x : Int) (L : Nat → List (Int × Int)), vs = [.ref p, .int x] ∧ WAt C H p n L ∧ LRg n L ∧ LNd L ∧ (∀ c ∈ sgs, (L c).length ≤ 10000) ∧ n ≤ 1000 ∧ -1000000000000 ≤ x ∧ x ≤ 1000000000000 ∧ (¬ (0 ≤ x ∧ x < n) → XEp CN x H E) ∧
  (0 ≤ x ∧ x < n → ∀ (r : Addr) (H' : Hp) (fs : List Fd), H r = none → Same H H' → WAt C H' r (fs.length : Int) (renL (fs.map (·.1)) L) → FinB L x fs → FsOk n fs → Q (.ref r) H')
theorem sc_se1 : FnScope ["self", "place", "number", "here", "numbers", "sign"] ["self", "place"] (defScope s_World_seen) := ⟨rfl, rfl, rfl, by decide +kernel, rfl, by decide +kernel, by decide +kernel⟩
theorem has_seX {dv : Value} (F : MAtD K C "seen" "World.seen" s_World_seen ["self", "place"] dv) (B : Blt mg) (Be : mg "enumerate" = none) (T_World : WC K mg C) {t1 : Tok} (C_SIGNS : mg "SIGNS" = some (.str (Str.ofString "aAbBcCdDeEfFgGhH") t1)) (h_Npl : HasMX P w K mg base C 4 "need_place" ["self", "place"] (spNplX C CN)) (h_Ct : HasM P w K mg base C 1 "come_to" ["self", "place"] (spCt C))
    (h_Rn : Has P w K mg base 1 "renumbered" ["led", "numbers"] spRn) (h_Wf : Has P w K mg base 6 "world_of" ["many", "leads"] (spWf C)) : HasMXD P w K mg base C 7 "seen" ["self", "place"] dv (spSeX C CN) := by
  obtain ⟨f, fd, g, F, bb, bd⟩ := F
  refine ⟨f, fd, g, bb, bd, ?_⟩
  obtain ⟨f_Npl, fd_Npl, m_Npl, b_Npl, G_Npl⟩ := h_Npl
  obtain ⟨f_Ct, fd_Ct, m_Ct, b_Ct, G_Ct⟩ := h_Ct
  obtain ⟨f_Rn, fd_Rn, g_Rn, k_Rn, b_Rn, G_Rn⟩ := h_Rn
  obtain ⟨f_Wf, fd_Wf, g_Wf, k_Wf, b_Wf, G_Wf⟩ := h_Wf
  refine F.okX sc_se1 (fun vs H Q E h => ?_) (fun cdv A outer s H vs Q E hr h => ?_)
  · obtain ⟨p, n, x, L, rfl, _⟩ := h
    rfl
  · obtain ⟨p, n, x, L, rfl, hW, hL, hN, hsz, hn, x0, x1, qp, q⟩ := h
    refine ⟨_, (pss_cons (ps_expr (pe_meth (pv 0) T_World.cl m_Npl G_Npl (hr.mono (by decide)) b_Npl .nil (passes_call (takes_of rfl rfl rfl rfl) (fun _ _ _ _ h => h)) (pa_cons (pv 1) pa_nil))) (pss_cons (ps_set (i := 4) sc_se1.nd rfl (.inr rfl) (pe_dc (own := [("number", 2), ("here", 3)]) (g := gTup K 2 (gCons (gName 2) (gCons (gName 3) gNil))) (tt := tYes) (by rfl) sc_se1.nd (pi_enumD (by rfl) Be (pa_cons (pe_meth (pv 0) T_World.cl m_Ct G_Ct (hr.mono (by decide)) b_Ct .nil pass0 (pa_cons (pv 1) pa_nil)) pa_nil)) (blkOk_by (own := [("number", 2), ("here", 3)]) (N := ["self", "place", "number", "here", "numbers", "sign"]) (sc := defScope s_World_seen) (by decide +kernel)) (fun _ _ _ _ _ => pg_tup rfl (pgs_cons (pg_name (i := 2) sc_se1.nd rfl (.inl rfl)) (pgs_cons (pg_name (i := 3) sc_se1.nd rfl (.inl rfl)) pgs_nil))) (fun _ _ _ _ _ => pts_nil) (fun _ _ _ _ _ => (pv 3)) (fun _ _ _ _ _ => (pv 2)))) (pss_one (ps_ret (pe_call G_Wf (hr.mono (by decide)) (by rfl) g_Wf k_Wf b_Wf .nil pass0 (pa_cons (pe_callB call_lenDc (by rfl) B.len PySem.boot_len (pa_cons (pv 4) pa_nil)) (pa_cons (pe_dc (own := [("sign", 5)]) (g := gName 5) (tt := tYes) (tv := tCall spRn [] E0 (tCons (tDGet (tFld K (tVar 0) "leads") (tVar 5)) (tCons (tVar 4) tNil))) (by rfl) sc_se1.nd (pi_str (pe_gS (by rfl) C_SIGNS)) (blkOk_by (own := [("sign", 5)]) (N := ["self", "place", "number", "here", "numbers", "sign"]) (sc := defScope s_World_seen) (by decide +kernel)) (fun _ _ _ _ _ => pg_name (i := 5) sc_se1.nd rfl (.inl rfl)) (fun _ _ _ _ _ => pts_nil) (fun _ _ _ _ _ => (pv 5)) (fun _ _ _ _ _ => by exact (pe_call G_Rn (hr.mono (by decide)) (by rfl) g_Rn k_Rn b_Rn .nil pass0 (pa_cons (pe_dget (hu_of hr) (pe_fld (pv 0) rfl) (pv 5) (fun _ _ => rfl)) (pa_cons (pv 4) pa_nil))))) pa_nil))))))), ?_⟩
    obtain ⟨dx, pl, ld, d, hp, hpl, hl⟩ := id hW
    walk_at "go"
    refine w_kMeth hp (wf_no _ _ (by decide +kernel) (by decide +kernel)) ?_
    walk_at "go"
    refine ⟨p, n, x, L, rfl, hW, x0, x1, fun hx => ?_, fun hx => qp hx⟩
    walk_at "go"
    refine w_enumD ?_
    walk_at "go"
    refine w_kMeth hp (wf_no _ _ (by decide +kernel) (by decide +kernel)) ?_
    walk_at "go"
    refine ⟨p, n, x, L, rfl, hW, hL, hn, hx.1, hx.2, fun d1 H1 fs nd1 s1 hd1 fin ok => ?_⟩
    walk_at "go"
    refine ⟨d1, _, rfl, hd1, fun o => ?_⟩
    have len := ok.len
    have hks : (fs.map (·.1)).length = fs.length := List.length_map ..
    generalize hH2 : upd H1 d1 (.frz o (.dK (kvW fs))) = H2
    have s2 : Same H H2 := fun c u e => by
      rw [← hH2, upd_ne (ne_of_none e nd1)]
      exact s1 c u e
    have hd2 : H2 d1 = some (.frz o (.dK (kvW fs))) := by rw [← hH2, upd_same]
    refine w_dcE (fun r i H3 => Same H2 H3 ∧ H2 r = none ∧ H3 r = some (.dK (kvI (numL ((fs.map (·.1)).take i))))) (fun r H3 hr nr => ⟨nr.same, nr.nn, hr⟩) (fun r i H3 h => h.1.at hd2) ?_ ?_
    · rintro r i T k v H3 H4 hk ⟨s3, nr, hr3⟩ hT nT
      unfold kvW at hk
      rw [List.getElem?_map, Option.map_eq_some_iff] at hk
      obtain ⟨fd, hfd, e⟩ := hk
      cases e
      have hT : H4 T = some (.tup [V.int (i : Nat), V.int fd.1]) := hT
      have hki : (fs.map (·.1))[i]? = some fd.1 := by rw [List.getElem?_map, hfd]; rfl
      have hil : i < fs.length := (List.getElem?_eq_some_iff.mp hfd).1
      have nd := ok.nd
      have hni : fd.1 ∉ (fs.map (·.1)).take i := fun z => by
        have nd2 : ((fs.map (·.1)).take (i + 1)).Nodup := nd.sublist (List.take_sublist _ _)
        rw [take_snoc hki, List.nodup_append] at nd2
        exact nd2.2.2 _ z _ (List.mem_singleton.mpr rfl) rfl
      walk_at "go"
      refine w_kItDI (nT.at hr3) (by rw [kvI_len, numL_len, List.length_take]; exact lineLt_of (by omega)) (fun H5 hr5 o5 => ⟨(s3.nw nT).off o5 nr, nr, ?_⟩)
      have el : ((fs.map (·.1)).take i).length = i := by rw [List.length_take]; omega
      rw [hr5, kvI_put ?_, take_snoc hki, numL_snoc, el]
      rw [lk_none]
      intro q hq e
      refine hni ?_
      rw [← e]
      have : q.1 ∈ (numL ((fs.map (·.1)).take i)).map (·.1) := List.mem_map.mpr ⟨q, hq, rfl⟩
      rw [numL_keys] at this
      exact this
    · rintro r H3 ⟨s3, nr, hr3⟩
      rw [kvW_len, ← hks, List.take_length] at hr3
      have sH3 : Same H H3 := s2.trans s3
      have nrH : H r = none := s2.free nr
      walk_at "go"
      refine w_dcS (fun r2 i H4 => ∃ dd : Nat → Addr, Same H3 H4 ∧ H3 r2 = none ∧ H4 r2 = some (.dK (leV dd (sgs.take i))) ∧ ∀ c ∈ sgs.take i, H4 (dd c) = some (.dK (kvI (renL (fs.map (·.1)) L c))) ∧ dd c ≠ r2) (fun r2 H4 hr nr => ⟨fun _ => 0, nr.same, nr.nn, hr, fun c hc => by rw [List.take_zero] at hc; cases hc⟩) ?_ ?_
      · rintro r2 i c H4 hc ⟨dd, s4, nr2, hr4, hdd⟩
        rw [sgs_tl] at hc
        have hs : c ∈ sgs := List.mem_of_getElem? hc
        have hil : i < 16 := (List.getElem?_eq_some_iff.mp hc).1
        have hni : c ∉ sgs.take i := fun z => by
          have nd2 : (sgs.take (i + 1)).Nodup := sgs_nd.sublist (List.take_sublist _ _)
          rw [take_snoc hc, List.nodup_append] at nd2
          exact nd2.2.2 _ z _ (List.mem_singleton.mpr rfl) rfl
        have sH4 : Same H H4 := sH3.trans s4
        walk_at "go"
        refine w_kFld (sH4.at hp) T_World.cl T_World.nL (wf_leads _ _) ?_
        walk_at "go"
        refine w_kDGetS (sH4.at hl.hd) (val_sgs hs) ?_
        walk_at "go"
        refine ⟨d c, r, L c, fs.map (·.1), rfl, ne_of_none (hl.hc c hs) nrH, sH4.at (hl.hc c hs), s4.at hr3, hN c hs, fin.cl hN hs, by have := hsz c hs; omega, fun v H5 nv s5 hv5 => ?_⟩
        walk_at "go"
        have hr5 := s5.at hr4
        have vr2 : v ≠ r2 := fun z => by rw [z, hr4] at nv; cases nv
        refine w_kItDS hr5 (by unfold leV; rw [List.length_map, List.length_take]; exact lineLt_of (by omega)) (fun H6 hr6 o6 => ?_)
        rw [putK_new _ (leV_none hni), ← leV_snoc dd _ c v hni, ← take_snoc hc] at hr6
        refine ⟨_, (s4.trans s5).off o6 nr2, nr2, hr6, fun e he => ?_⟩
        rw [take_snoc hc] at he
        by_cases hec : e = c
        · rw [if_pos hec, hec]
          exact ⟨o6.at vr2 hv5, vr2⟩
        · rw [if_neg hec]
          have he' : e ∈ sgs.take i := by
            rcases List.mem_append.mp he with z | z
            · exact z
            · exact absurd (List.mem_singleton.mp z) hec
          obtain ⟨h1, h2⟩ := hdd e he'
          exact ⟨o6.at h2 (s5.at h1), h2⟩
      · rintro r2 H4 ⟨dd, s4, nr2, hr4, hdd⟩
        rw [sgs_tl, List.take_length] at hr4 hdd
        walk_at "go"
        rw [kvI_len, numL_len, hks]
        refine ⟨(fs.length : Int), r2, dd, renL (fs.map (·.1)) L, rfl, by omega, by omega, ⟨hr4, fun c hc => (hdd c hc).1⟩, fun p' H5 np' s5 hW5 => ?_⟩
        exact q hx p' H5 fs ((sH3.trans s4).free np') ((sH3.trans s4).trans s5) hW5 fin ok
end
end Sf
namespace Sf
open PySem PySem.Spec PyProof.Rows L2 TL
/-! ### == of leads, with either answer -/
def eqI (l m : List (Int × Int)) : Bool := (l.length == m.length) && l.all fun q => decide (lk m q.1 = some q.2)
theorem eqI_refl {l : List (Int × Int)} (nd : ∀ p ∈ l, ∀ q ∈ l, p.1 = q.1 → p = q) : eqI l l = true := by
  unfold eqI
  rw [beq_self_eq_true, Bool.true_and, List.all_eq_true]
  exact fun q hq => decide_eq_true (lk_of nd hq)
section
variable {P : Program} {w : World} {A : Around} {s : Shared}
theorem hits_kvI {m : List (Int × Int)} {vb : List (Key × Value)} (rb : KV (kvI m) vb) : ∀ {l : List (Int × Int)} {va : List (Key × Value)}, KV (kvI l) va → PySem.W.KeqHitsP P w A s vb va (l.all fun q => decide (lk m q.1 = some q.2))
  | [], va, ra => by
    have ra' : Paired _ [] va := ra
    cases ra'
    exact .nil
  | (x, y) :: l, va, ra => by
    have ra' : Paired _ ((Sum.inl x, V.int y) :: kvI l) va := ra
    cases ra' with
    | @cons _ q _ qs h t =>
      obtain ⟨h1, h2⟩ := h
      obtain ⟨key, v⟩ := q
      have h1' : (Sum.inl x : Key) = key := h1
      subst h1'
      have ih := hits_kvI rb (show KV (kvI l) qs from t)
      rw [List.all_cons]
      have rr := rb.val (Sum.inl x)
      rw [val_kvI] at rr
      obtain ⟨tk, h2⟩ : ∃ tk, v = Value.int y tk := h2
      subst h2
      cases e : lk m x with
      | none =>
        rw [e] at rr
        rw [decide_eq_false (by intro z; cases z), Bool.false_and]
        exact .miss rr.none_of
      | some y' =>
        rw [e] at rr
        obtain ⟨u, hu, ru⟩ := rr.some_of
        obtain ⟨tk', ru⟩ : ∃ tk', u = Value.int y' tk' := ru
        subst ru
        have hb : decide ((some y' : Option Int) = some y) = (y == y') := by
          by_cases z : y = y'
          · subst z
            rw [decide_eq_true rfl, beq_self_eq_true]
          · rw [decide_eq_false (fun k => z (Option.some.inj k).symm), beq_eq_false_iff_ne.mpr z]
        show PySem.W.KeqHitsP P w A s vb _ (decide ((some y' : Option Int) = some y) && _)
        rw [hb]
        exact .hit hu (SeqAt.EqAt.int_int y tk y' tk').eqP ih
end
section
variable {X : Cx} {pins : List (Addr × Obj)} {σ : L2.St} {H : Hp} {s : Shared}
theorem kvI_inj {l m : List (Int × Int)} (h : kvI l = kvI m) : l = m := by
  unfold kvI at h
  refine List.map_inj_right (f := fun p : Int × Int => ((Sum.inl p.1 : Key), V.int p.2)) ?_ |>.mp h
  rintro ⟨a, b⟩ ⟨c, d⟩ e
  have e1 := Sum.inl.inj (congrArg Prod.fst e)
  have e2 := V.int.inj (congrArg Prod.snd e)
  rw [show a = c from e1, show b = d from e2]
theorem eqP_kvI (I : Inv X pins σ H s) {A : Around} (hu : A.units < cLine) {a b : Addr} {l m : List (Int × Int)} (ha : H a = some (.dK (kvI l))) (hb : H b = some (.dK (kvI m))) (nd : (l.map (·.1)).Nodup) : SeqAt.EqP X.prog X.w A s (.ref a) (.ref b) (eqI l m) := by
  by_cases e : a = b
  · subst e
    rw [ha] at hb
    have := kvI_inj (HO.dK.inj (Option.some.inj hb))
    subst this
    rw [eqI_refl (uniq_of nd)]
    exact (SeqAt.EqAt.same _).eqP
  · obtain ⟨_, ya, va, ra, da⟩ := dk_of I.hok ha
    obtain ⟨_, yb, vb, rb, db⟩ := dk_of I.hok hb
    refine SeqAt.eqP_refs e fun E Q q => PySem.W.rcP_dicts (knd := mixKind X.prog X.w) ya yb da db hu (fun _ => hits_kvI rb ra) E Q ?_
    have l1 := ra.length
    have l2 := rb.length
    rw [kvI_len] at l1 l2
    rw [← l1, ← l2]
    exact q
theorem hits_leV (I : Inv X pins σ H s) {A : Around} (hu : A.units < cLine) {d d' : Nat → Addr} {L L' : Nat → List (Int × Int)} {vb : List (Key × Value)} (rb : KV (leV d' sgs) vb) (hd : ∀ c ∈ sgs, H (d c) = some (.dK (kvI (L c)))) (hd' : ∀ c ∈ sgs, H (d' c) = some (.dK (kvI (L' c)))) (hN : LNd L) :
    ∀ {cs : List Nat} {va : List (Key × Value)}, (∀ c ∈ cs, c ∈ sgs) → KV (leV d cs) va → PySem.W.KeqHitsP X.prog X.w A s vb va (cs.all fun c => eqI (L c) (L' c))
  | [], va, _, ra => by
    have ra' : Paired _ [] va := ra
    cases ra'
    exact .nil
  | c :: cs, va, hc, ra => by
    have ra' : Paired _ (((Sum.inr (one c) : Key), V.ref (d c)) :: leV d cs) va := ra
    cases ra' with
    | @cons _ q _ qs h t =>
      obtain ⟨h1, h2⟩ := h
      obtain ⟨key, v⟩ := q
      have h1' : (Sum.inr (one c) : Key) = key := h1
      subst h1'
      have hcs := hc c List.mem_cons_self
      have ih := hits_leV I hu rb hd hd' hN (fun e he => hc e (List.mem_cons_of_mem _ he)) (show KV (leV d cs) qs from t)
      rw [List.all_cons]
      have rr := rb.val (Sum.inr (one c))
      rw [show valV (leV d' sgs) (Sum.inr (one c)) = some (V.ref (d' c)) from val_sgs hcs] at rr
      obtain ⟨u, hu', ru⟩ := rr.some_of
      have ru : u = Value.ref (d' c) := ru
      have h2 : v = Value.ref (d c) := h2
      subst ru h2
      exact .hit hu' (eqP_kvI I hu (hd c hcs) (hd' c hcs) (hN c hcs)) ih
def ldB (L L' : Nat → List (Int × Int)) : Bool := sgs.all fun c => eqI (L c) (L' c)
def rEqLd : R2 := fun x y H Q => ∃ (a b : Addr) (d d' : Nat → Addr) (L L' : Nat → List (Int × Int)), x = .ref a ∧ y = .ref b ∧ LdAt H a d L ∧ LdAt H b d' L' ∧ LNd L ∧ Q (.bl (ldB L L')) H
theorem op_eqLd (hu : X.A.units + 64 < cLine) : OpR X (compareOp .Eq) rEqLd := by
  intro pins s σ H x y v u Q I rx ry h
  obtain ⟨a, b, d, d', L, L', rfl, rfl, ha, hb, hN, q⟩ := h
  obtain rfl : v = Value.ref a := rx
  obtain rfl : u = Value.ref b := ry
  obtain ⟨_, ya, va, ra, da⟩ := dk_of I.hok ha.hd
  obtain ⟨_, yb, vb, rb, db⟩ := dk_of I.hok hb.hd
  refine PySem.W.rcP_dicts (knd := mixKind X.prog X.w) ya yb da db (by omega) (fun _ => hits_leV I (A := X.A.in1) (by show X.A.units + 1 < cLine; omega) rb ha.hc hb.hc hN (fun _ h => h) ra) _ _ ?_
  have l1 : (leV d sgs).length = va.length := ra.length
  have l2 : (leV d' sgs).length = vb.length := rb.length
  unfold leV at l1 l2
  rw [List.length_map] at l1 l2
  rw [← l1, ← l2, beq_self_eq_true, Bool.true_and]
  exact ⟨.bl _, H, I, rfl, q⟩
theorem w_eqLd {Q : VK} {a b : Addr} {d d' : Nat → Addr} {L L' : Nat → List (Int × Int)} (h1 : LdAt H a d L) (h2 : LdAt H b d' L') (hN : LNd L) (q : Q (.bl (ldB L L')) H) : rEqLd (.ref a) (.ref b) H Q := ⟨a, b, d, d', L, L', rfl, rfl, h1, h2, hN, q⟩
end
end Sf
namespace Sf
open PySem PySem.Spec PyProof.Rows L2 TL
theorem LM_rg {n : Int} {ms : List Mv} (ok : WOk n ms) : LRg n (LM ms) := fun c hc q hq => by
  obtain ⟨m, hm, e⟩ := LM_mem.mp hq
  have := ok.rg m hm
  rcases e with ⟨_, e1, e2⟩ | ⟨_, _, e1, e2⟩ <;> omega
theorem LM_nd {n : Int} {ms : List Mv} (ok : WOk n ms) : LNd (LM ms) := fun c _ => by
  have key : ∀ l : List Mv, (l.Pairwise fun m k => m.1 = k.1 → m.2.1 ≠ k.2.1 ∧ m.2.2 ≠ k.2.2) → (∀ m ∈ l, 97 ≤ m.1 ∧ m.1 ≤ 104) → ((l.filterMap (mvOn c)).map (·.1)).Nodup := by
    intro l
    induction l with
    | nil => intro _ _; exact .nil
    | cons m l ih =>
      intro hp hr
      have hp' := List.pairwise_cons.mp hp
      have ih := ih hp'.2 fun k hk => hr k (List.mem_cons_of_mem _ hk)
      rw [List.filterMap_cons]
      cases e : mvOn c m with
      | none => exact ih
      | some q =>
        refine List.nodup_cons.mpr ⟨fun z => ?_, ih⟩
        obtain ⟨q', hq', e'⟩ := List.mem_map.mp z
        obtain ⟨m', hm', e2⟩ := List.mem_filterMap.mp hq'
        have r1 := hr m List.mem_cons_self
        have r2 := hr m' (List.mem_cons_of_mem _ hm')
        have hmm := hp'.1 m' hm'
        unfold mvOn at e e2
        split at e
        · split at e2
          · cases e
            cases e2
            exact (hmm (by omega)).1 e'.symm
          · split at e2
            · omega
            · cases e2
        · split at e
          · split at e2
            · omega
            · split at e2
              · cases e
                cases e2
                exact (hmm (by omega)).2 e'.symm
              · cases e2
          · cases e
  exact key ms ok.pw fun m hm => by
    have := ok.rg m hm
    omega
theorem exS_wd {L : Nat → List (Int × Int)} {k : Fd} (hk : Wd k.2) : ∀ (cs : List Nat) (fs : List Fd), (∀ c ∈ cs, c ∈ sgs) → (∀ q ∈ fs, Wd q.2) → ∀ q ∈ exS L k fs cs, Wd q.2
  | [], fs, _, h => h
  | c :: cs, fs, hc, h => exS_wd hk cs _ (fun d hd => hc d (List.mem_cons_of_mem _ hd)) fun q hq => by
    unfold ex1 at hq
    split at hq
    · split at hq
      · exact h q hq
      · rcases List.mem_append.mp hq with z | z
        · exact h q z
        · rw [List.mem_singleton.mp z]
          intro d hd
          have hd : d ∈ tl (k.2 ++ one c) := hd
          rw [tl_append, tl_one] at hd
          rcases List.mem_append.mp hd with y | y
          · exact hk d y
          · rw [List.mem_singleton.mp y]
            exact sgs_iff.mp (hc c List.mem_cons_self)
    · exact h q hq
theorem bfs_wd {L : Nat → List (Int × Int)} {p : Int} : ∀ i, ∀ q ∈ bfs L p i, Wd q.2
  | 0 => fun q hq => by
    rw [List.mem_singleton.mp hq]
    intro d hd
    have hd : d ∈ tl (Str.ofString "") := hd
    rw [show tl (Str.ofString "") = [] by decide +kernel] at hd
    cases hd
  | i + 1 => by
    cases h : (bfs L p i)[i]? with
    | none => rw [bfs_stop (List.getElem?_eq_none_iff.mp h)]; exact bfs_wd i
    | some k => rw [bfs_succ h]; exact exS_wd (bfs_wd i k (List.mem_of_getElem? h)) sgs _ (fun _ h => h) (bfs_wd i)
theorem FinB.wd {L : Nat → List (Int × Int)} {p : Int} {fs : List Fd} (h : FinB L p fs) : ∀ q ∈ fs, Wd q.2 := by
  obtain ⟨N, rfl, _⟩ := h
  exact bfs_wd N
end Sf
namespace Sf
open PySem PySem.Spec PyProof.Rows L2 TL
/-! ### worlds that are alike -/
structure Iso (D : Int → Prop) (φ : Int → Int) (L L' : Nat → List (Int × Int)) : Prop where
  inj : ∀ x y, D x → D y → φ x = φ y → x = y
  cl : ∀ c ∈ sgs, ∀ x, D x → ∀ e, stp L c x = some e → D e
  st : ∀ c ∈ sgs, ∀ x, D x → stp L' c (φ x) = (stp L c x).map φ
def phF (φ : Int → Int) (fs : List Fd) : List Fd := fs.map fun k => (φ k.1, k.2)
theorem phF_keys (φ : Int → Int) (fs : List Fd) : (phF φ fs).map (·.1) = (fs.map (·.1)).map φ := by
  unfold phF
  rw [List.map_map, List.map_map]
  rfl
theorem phF_words (φ : Int → Int) (fs : List Fd) : (phF φ fs).map (·.2) = fs.map (·.2) := by
  unfold phF
  rw [List.map_map]
  rfl
section
variable {D : Int → Prop} {φ : Int → Int} {L L' : Nat → List (Int × Int)}
theorem Iso.mem (I : Iso D φ L L') {ks : List Int} (hk : ∀ x ∈ ks, D x) {e : Int} (he : D e) : φ e ∈ ks.map φ ↔ e ∈ ks := by
  constructor
  · intro h
    obtain ⟨y, hy, e2⟩ := List.mem_map.mp h
    rw [← I.inj y e (hk y hy) he e2]
    exact hy
  · exact fun h => List.mem_map.mpr ⟨e, h, rfl⟩
theorem Iso.ex1 (I : Iso D φ L L') {k : Fd} {fs : List Fd} {c : Nat} (hc : c ∈ sgs) (hk : D k.1) (hf : ∀ x ∈ fs.map (·.1), D x) :
    ex1 L' (φ k.1, k.2) (phF φ fs) c = phF φ (ex1 L k fs c) ∧ ∀ x ∈ (ex1 L k fs c).map (·.1), D x := by
  have h1 := I.st c hc k.1 hk
  unfold Sf.ex1
  rw [show stp L' c (φ k.1, k.2).1 = (stp L c k.1).map φ from h1]
  cases e : stp L c k.1 with
  | none => exact ⟨rfl, hf⟩
  | some y =>
    have hy := I.cl c hc k.1 hk y e
    show (if φ y ∈ (phF φ fs).map (·.1) then phF φ fs else phF φ fs ++ [(φ y, k.2 ++ one c)]) = phF φ (if y ∈ fs.map (·.1) then fs else fs ++ [(y, k.2 ++ one c)]) ∧ ∀ x ∈ (if y ∈ fs.map (·.1) then fs else fs ++ [(y, k.2 ++ one c)]).map (·.1), D x
    have hm := I.mem hf hy
    rw [phF_keys]
    by_cases hin : y ∈ fs.map (·.1)
    · rw [if_pos hin, if_pos (hm.mpr hin)]
      exact ⟨rfl, hf⟩
    · rw [if_neg hin, if_neg (fun z => hin (hm.mp z))]
      refine ⟨by unfold phF; rw [List.map_append]; rfl, fun x hx => ?_⟩
      rw [List.map_append] at hx
      rcases List.mem_append.mp hx with z | z
      · exact hf x z
      · rw [List.mem_singleton.mp z]
        exact hy
theorem Iso.exS (I : Iso D φ L L') {k : Fd} (hk : D k.1) : ∀ (cs : List Nat) (fs : List Fd), (∀ c ∈ cs, c ∈ sgs) → (∀ x ∈ fs.map (·.1), D x) →
    exS L' (φ k.1, k.2) (phF φ fs) cs = phF φ (exS L k fs cs) ∧ ∀ x ∈ (exS L k fs cs).map (·.1), D x
  | [], fs, _, hf => ⟨rfl, hf⟩
  | c :: cs, fs, hc, hf => by
    have h1 := I.ex1 (hc c List.mem_cons_self) hk hf
    have h2 := I.exS hk cs (Sf.ex1 L k fs c) (fun d hd => hc d (List.mem_cons_of_mem _ hd)) h1.2
    refine ⟨?_, h2.2⟩
    show Sf.exS L' (φ k.1, k.2) (Sf.ex1 L' (φ k.1, k.2) (phF φ fs) c) cs = _
    rw [h1.1]
    exact h2.1
theorem Iso.bfs (I : Iso D φ L L') {p : Int} (hp : D p) : ∀ i, bfs L' (φ p) i = phF φ (bfs L p i) ∧ ∀ x ∈ (bfs L p i).map (·.1), D x
  | 0 => ⟨rfl, fun x hx => by rw [List.mem_singleton.mp hx]; exact hp⟩
  | i + 1 => by
    have ih := I.bfs hp i
    have e1 : (Sf.bfs L' (φ p) i)[i]? = ((Sf.bfs L p i)[i]?).map fun k => (φ k.1, k.2) := by
      rw [ih.1]
      unfold phF
      rw [List.getElem?_map]
    cases h : (Sf.bfs L p i)[i]? with
    | none =>
      rw [h] at e1
      rw [bfs_stop (List.getElem?_eq_none_iff.mp h), bfs_stop (List.getElem?_eq_none_iff.mp e1)]
      exact ih
    | some k =>
      rw [h] at e1
      have hk : D k.1 := ih.2 k.1 (List.mem_map.mpr ⟨k, List.mem_of_getElem? h, rfl⟩)
      have e1 : (Sf.bfs L' (φ p) i)[i]? = some (φ k.1, k.2) := e1
      rw [bfs_succ h, bfs_succ e1, ih.1]
      exact I.exS hk sgs _ (fun _ h => h) ih.2
theorem Iso.fin (I : Iso D φ L L') {p : Int} (hp : D p) {fs fs' : List Fd} (h : FinB L p fs) (h' : FinB L' (φ p) fs') : fs' = phF φ fs ∧ ∀ x ∈ fs.map (·.1), D x := by
  obtain ⟨N, rfl, hN⟩ := h
  have hb := I.bfs hp N
  refine ⟨h'.one ⟨N, hb.1.symm, ?_⟩, hb.2⟩
  unfold phF
  rw [List.length_map]
  exact hN
theorem Iso.led (I : Iso D φ L L') : ∀ (l : List Nat) (x : Int), (∀ c ∈ l, c ∈ sgs) → D x → ledM (stp L') l (φ x) = (ledM (stp L) l x).map φ ∧ ∀ e, ledM (stp L) l x = some e → D e
  | [], x, _, hx => ⟨rfl, fun e h => by cases h; exact hx⟩
  | c :: l, x, hl, hx => by
    have h1 := I.st c (hl c List.mem_cons_self) x hx
    show (stp L' c (φ x)).bind (ledM (stp L') l) = ((stp L c x).bind (ledM (stp L) l)).map φ ∧ ∀ e, (stp L c x).bind (ledM (stp L) l) = some e → D e
    rw [h1]
    cases e : stp L c x with
    | none => exact ⟨rfl, fun e h => nomatch h⟩
    | some y => exact I.led l y (fun d hd => hl d (List.mem_cons_of_mem _ hd)) (I.cl c (hl c List.mem_cons_self) x hx y e)
/-! numbers -/
theorem lk_phi {φ : Int → Int} {x : Int} : ∀ {l : List (Int × Int)}, (∀ q ∈ l, φ q.1 = φ x → q.1 = x) → lk (l.map fun q => (φ q.1, q.2)) (φ x) = lk l x
  | [], _ => rfl
  | (a, b) :: r, h => by
    have ih := lk_phi (l := r) fun q hq => h q (List.mem_cons_of_mem _ hq)
    unfold lk at ih ⊢
    rw [List.map_cons, List.find?_cons, List.find?_cons]
    by_cases e : a = x
    · subst e
      rw [decide_eq_true rfl, decide_eq_true rfl]
      rfl
    · rw [decide_eq_false e, decide_eq_false (show ¬ φ a = φ x from fun z => e (h (a, b) List.mem_cons_self z))]
      exact ih
theorem numF_phi (φ : Int → Int) : ∀ (ks : List Int) (o : Int), numF o (ks.map φ) = (numF o ks).map fun q => (φ q.1, q.2)
  | [], _ => rfl
  | k :: ks, o => by
    show (φ k, o) :: numF (o + 1) (ks.map φ) = (φ k, o) :: (numF (o + 1) ks).map _
    rw [numF_phi φ ks (o + 1)]
theorem rk_phi {φ : Int → Int} {ks : List Int} {x : Int} (inj : ∀ y ∈ ks, φ y = φ x → y = x) : rk (ks.map φ) (φ x) = rk ks x := by
  unfold rk numL
  rw [numF_phi, lk_phi fun q hq e => inj q.1 ?_ e]
  have : q.1 ∈ (numF 0 ks).map (·.1) := List.mem_map.mpr ⟨q, hq, rfl⟩
  rw [numF_keys] at this
  exact this
theorem rk_head (x : Int) (ks : List Int) : rk (x :: ks) x = 0 := by
  unfold rk lk numL numF
  rw [List.find?_cons, decide_eq_true rfl]
  rfl
/-- the world that is seen is one that is alike -/
theorem iso_ren {ks : List Int} {L : Nat → List (Int × Int)} (hN : LNd L) (hcl : ∀ c ∈ sgs, ∀ q ∈ L c, q.1 ∈ ks → q.2 ∈ ks) : Iso (· ∈ ks) (rk ks) L (renL ks L) where
  inj := fun x y hx hy e => rk_inj hx hy e
  cl := fun c hc x hx e h => hcl c hc _ (lk_mem h) hx
  st := fun c hc x hx => by
    have un := uniq_of (hN c hc)
    have un2 : ∀ p ∈ renL ks L c, ∀ q ∈ renL ks L c, p.1 = q.1 → p = q := fun a ha b hb e => by
      unfold renL renM at ha hb
      obtain ⟨u, hu, rfl⟩ := List.mem_map.mp ha
      obtain ⟨v, hv, rfl⟩ := List.mem_map.mp hb
      rw [List.mem_filter] at hu hv
      rw [un u hu.1 v hv.1 (rk_inj (of_decide_eq_true hu.2) (of_decide_eq_true hv.2) e)]
    cases e : stp L c x with
    | some y =>
      refine lk_of un2 ?_
      unfold renL renM
      exact List.mem_map.mpr ⟨(x, y), List.mem_filter.mpr ⟨lk_mem e, decide_eq_true hx⟩, rfl⟩
    | none =>
      refine lk_none fun p hp z => ?_
      unfold renL renM at hp
      obtain ⟨u, hu, rfl⟩ := List.mem_map.mp hp
      rw [List.mem_filter] at hu
      have e2 : u.1 = x := rk_inj (of_decide_eq_true hu.2) hx z
      have : stp L c x = some u.2 := lk_of un (by rw [← e2]; exact hu.1)
      rw [e] at this
      cases this
theorem ren_none {ks : List Int} {L : Nat → List (Int × Int)} {c : Nat} {j : Int} (h : ∀ x ∈ ks, rk ks x ≠ j) : stp (renL ks L) c j = none := lk_none fun p hp z => by
  unfold renL renM at hp
  obtain ⟨u, hu, rfl⟩ := List.mem_map.mp hp
  rw [List.mem_filter] at hu
  exact h u.1 (of_decide_eq_true hu.2) z
theorem ren_nd {ks : List Int} {L : Nat → List (Int × Int)} (hN : LNd L) : LNd (renL ks L) := fun c hc => by
  have h := hN c hc
  unfold renL renM
  rw [List.map_map]
  unfold List.Nodup at h ⊢
  rw [List.pairwise_map] at h ⊢
  refine ((h.sublist List.filter_sublist).imp_of_mem (l := (L c).filter _) fun {a b} ha hb hab z => hab ?_)
  exact rk_inj (of_decide_eq_true (List.mem_filter.mp ha).2) (of_decide_eq_true (List.mem_filter.mp hb).2) z
theorem Iso.ren (I : Iso D φ L L') {ks : List Int} (hk : ∀ x ∈ ks, D x) (hN : LNd L) (hN' : LNd L') (hcl : ∀ c ∈ sgs, ∀ q ∈ L c, q.1 ∈ ks → q.2 ∈ ks) (hcl' : ∀ c ∈ sgs, ∀ q ∈ L' c, q.1 ∈ ks.map φ → q.2 ∈ ks.map φ) {c : Nat} (hc : c ∈ sgs) (j : Int) : stp (renL (ks.map φ) L') c j = stp (renL ks L) c j := by
  have rkp : ∀ x ∈ ks, rk (ks.map φ) (φ x) = rk ks x := fun x hx => rk_phi fun y hy e => I.inj y x (hk y hy) (hk x hx) e
  by_cases h : ∃ x ∈ ks, rk ks x = j
  · obtain ⟨x, hx, rfl⟩ := h
    rw [(iso_ren hN hcl).st c hc x hx, ← rkp x hx, (iso_ren hN' hcl').st c hc (φ x) (List.mem_map.mpr ⟨x, hx, rfl⟩), I.st c hc x (hk x hx)]
    cases e : stp L c x with
    | none => rfl
    | some y =>
      have hy := (iso_ren hN hcl).cl c hc x hx y e
      show some (rk (ks.map φ) (φ y)) = some (rk ks y)
      rw [rkp y hy]
  · rw [ren_none fun x hx z => h ⟨x, hx, z⟩, ren_none fun y hy z => ?_]
    obtain ⟨x, hx, rfl⟩ := List.mem_map.mp hy
    exact h ⟨x, hx, by rw [← rkp x hx]; exact z⟩
end
/-! == of leads -/
theorem eqI_iff {l m : List (Int × Int)} (hl : (l.map (·.1)).Nodup) (hm : (m.map (·.1)).Nodup) : eqI l m = true ↔ ∀ j, lk l j = lk m j := by
  unfold eqI
  rw [Bool.and_eq_true, beq_iff_eq, List.all_eq_true]
  constructor
  · rintro ⟨h1, h2⟩ j
    cases e : lk l j with
    | some y => exact (of_decide_eq_true (h2 _ (lk_mem e))).symm
    | none =>
      cases e2 : lk m j with
      | none => rfl
      | some y =>
        -- j is a key of m and none of l: m has more keys
        have hj : j ∈ m.map (·.1) := List.mem_map.mpr ⟨_, lk_mem e2, rfl⟩
        have hnj : j ∉ l.map (·.1) := fun z => by
          have := lk_isSome (l := l) (x := j)
          rw [decide_eq_true z, e] at this
          cases this
        have := nd_len (j :: l.map (·.1)) (m.map (·.1)) (List.nodup_cons.mpr ⟨hnj, hl⟩) fun x hx => by
          rcases List.mem_cons.mp hx with rfl | hx
          · exact hj
          · obtain ⟨q, hq, rfl⟩ := List.mem_map.mp hx
            exact List.mem_map.mpr ⟨_, lk_mem (of_decide_eq_true (h2 q hq)), rfl⟩
        rw [List.length_cons, List.length_map, List.length_map] at this
        omega
  · intro h
    have sub : ∀ {a b : List (Int × Int)}, (∀ j, lk a j = lk b j) → (a.map (·.1)).Nodup → (b.map (·.1)).Nodup → a.length ≤ b.length := fun {a b} h ha hb => by
      have := nd_len (a.map (·.1)) (b.map (·.1)) ha fun x hx => by
        have e1 := lk_isSome (l := a) (x := x)
        have e2 := lk_isSome (l := b) (x := x)
        rw [h x, e2] at e1
        exact of_decide_eq_true (e1.trans (decide_eq_true hx))
      rw [List.length_map, List.length_map] at this
      exact this
    refine ⟨Nat.le_antisymm (sub h hl hm) (sub (fun j => (h j).symm) hm hl), fun q hq => decide_eq_true ?_⟩
    rw [← h q.1]
    exact lk_of (uniq_of hl) hq
theorem ldB_iff {L L' : Nat → List (Int × Int)} (hN : LNd L) (hN' : LNd L') : ldB L L' = true ↔ ∀ c ∈ sgs, ∀ j, stp L c j = stp L' c j := by
  unfold ldB
  rw [List.all_eq_true]
  constructor
  · intro h c hc j
    exact (eqI_iff (hN c hc) (hN' c hc)).mp (h c hc) j
  · intro h c hc
    exact (eqI_iff (hN c hc) (hN' c hc)).mpr (h c hc)
/-! words to places -/
theorem ex1_led {L : Nat → List (Int × Int)} {p : Int} {k : Fd} (hk : ledM (stp L) (tl k.2) p = some k.1) {fs : List Fd} {c : Nat} (h : ∀ q ∈ fs, ledM (stp L) (tl q.2) p = some q.1) : ∀ q ∈ ex1 L k fs c, ledM (stp L) (tl q.2) p = some q.1 := fun q hq => by
  unfold ex1 at hq
  split at hq
  · rename_i e he
    split at hq
    · exact h q hq
    · rcases List.mem_append.mp hq with z | z
      · exact h q z
      · rw [List.mem_singleton.mp z]
        show ledM (stp L) (tl (k.2 ++ one c)) p = some e
        rw [tl_append, tl_one, ledM_app, hk]
        show (stp L c k.1).bind (fun y => some y) = some e
        rw [he]
        rfl
  · exact h q hq
theorem exS_led {L : Nat → List (Int × Int)} {p : Int} {k : Fd} (hk : ledM (stp L) (tl k.2) p = some k.1) : ∀ (cs : List Nat) (fs : List Fd), (∀ q ∈ fs, ledM (stp L) (tl q.2) p = some q.1) → ∀ q ∈ exS L k fs cs, ledM (stp L) (tl q.2) p = some q.1
  | [], fs, h => h
  | c :: cs, fs, h => exS_led hk cs _ (ex1_led hk h)
theorem bfs_led {L : Nat → List (Int × Int)} {p : Int} : ∀ i, ∀ q ∈ bfs L p i, ledM (stp L) (tl q.2) p = some q.1
  | 0 => fun q hq => by
    rw [List.mem_singleton.mp hq]
    show ledM (stp L) (tl (Str.ofString "")) p = some p
    rw [show tl (Str.ofString "") = [] by decide +kernel]
    rfl
  | i + 1 => by
    cases h : (bfs L p i)[i]? with
    | none => rw [bfs_stop (List.getElem?_eq_none_iff.mp h)]; exact bfs_led i
    | some k => rw [bfs_succ h]; exact exS_led (bfs_led i k (List.mem_of_getElem? h)) sgs _ (bfs_led i)
theorem FinB.led {L : Nat → List (Int × Int)} {p : Int} {fs : List Fd} (h : FinB L p fs) : ∀ q ∈ fs, ledM (stp L) (tl q.2) p = some q.1 := by
  obtain ⟨N, rfl, _⟩ := h
  exact bfs_led N
theorem FinB.head {L : Nat → List (Int × Int)} {p : Int} {fs : List Fd} (h : FinB L p fs) : ∃ t, fs = (p, Str.ofString "") :: t := by
  obtain ⟨N, rfl, _⟩ := h
  obtain ⟨t, ht⟩ := bfs_mono (L := L) (p := p) (Nat.zero_le N)
  exact ⟨t, ht.symm⟩
/-! words that go alike -/
def sg8 : List Nat := [97, 65, 98, 66, 99, 67, 100, 68]
abbrev En := Option Int × Option Int
def goE (L L' : Nat → List (Int × Int)) (x x' : Int) (w : Str) : En := (ledM (stp L) (tl w) x, ledM (stp L') (tl w) x')
def likeE (a b : En) : Bool := decide (a.1 = b.1) == decide (a.2 = b.2)
def noneE (a : En) : Bool := decide (a.1 = none) != decide (a.2 = none)
def likeB (es : List En) : Bool := es.all fun a => !(noneE a || !(es.all fun b => likeE a b))
def moreW (ws : List Str) : List Str := ws ++ ws.flatMap fun w => sg8.map fun c => w ++ one c
structure Two (L : Nat → List (Int × Int)) (x : Int) (n : Int) (fs : List Fd) : Prop where
  fin : FinB L x fs
  ok : FsOk n fs
  nd : LNd L
  few : ∀ c ∈ sgs, c ∉ sg8 → L c = []
theorem likeB_iff {es : List En} : likeB es = true ↔ ∀ a ∈ es, (a.1 = none ↔ a.2 = none) ∧ ∀ b ∈ es, (a.1 = b.1 ↔ a.2 = b.2) := by
  unfold likeB
  rw [List.all_eq_true]
  refine forall_congr' fun a => forall_congr' fun ha => ?_
  rw [Bool.not_eq_true', Bool.or_eq_false_iff, Bool.not_eq_false', List.all_eq_true]
  unfold noneE likeE
  rw [bne_eq_false_iff_eq, decide_eq_decide]
  refine and_congr Iff.rfl (forall_congr' fun b => forall_congr' fun hb => ?_)
  rw [beq_iff_eq, decide_eq_decide]
theorem fd_uniq {l : List Fd} (nd : (l.map (·.1)).Nodup) : ∀ p ∈ l, ∀ q ∈ l, p.1 = q.1 → p = q := by
  induction l with
  | nil => intro p hp; cases hp
  | cons a l ih =>
    have nd' := List.nodup_cons.mp nd
    have no : ∀ q ∈ l, a.1 ≠ q.1 := fun q hq e => nd'.1 (List.mem_map.mpr ⟨q, hq, e.symm⟩)
    intro p hp q hq e
    rcases List.mem_cons.mp hp with h1 | h1
    · rcases List.mem_cons.mp hq with h2 | h2
      · rw [h1, h2]
      · exact absurd (by rw [← h1]; exact e) (no q h2)
    · rcases List.mem_cons.mp hq with h2 | h2
      · exact absurd (by rw [← h2]; exact e.symm) (no p h1)
      · exact ih nd'.2 p h1 q h2 e
theorem likeB_true {L L' : Nat → List (Int × Int)} {x x' n n' : Int} {fs fs' : List Fd} (A : Two L x n fs) (B : Two L' x' n' fs') :
    likeB ((moreW (fs.map (·.2) ++ fs'.map (·.2))).map (goE L L' x x')) = true ↔ fs.length = fs'.length ∧ ldB (renL (fs.map (·.1)) L) (renL (fs'.map (·.1)) L') = true := by
  have isoA := iso_ren A.nd (fun c hc => A.fin.cl A.nd hc)
  have isoB := iso_ren B.nd (fun c hc => B.fin.cl B.nd hc)
  obtain ⟨ta, ea⟩ := A.fin.head
  obtain ⟨tb, eb⟩ := B.fin.head
  have xin : x ∈ fs.map (·.1) := by rw [ea]; exact List.mem_cons_self
  have xin' : x' ∈ fs'.map (·.1) := by rw [eb]; exact List.mem_cons_self
  have r0 : rk (fs.map (·.1)) x = 0 := by rw [ea]; exact rk_head _ _
  have r0' : rk (fs'.map (·.1)) x' = 0 := by rw [eb]; exact rk_head _ _
  have hwd : ∀ u ∈ moreW (fs.map (·.2) ++ fs'.map (·.2)), ∀ c ∈ tl u, c ∈ sgs := by
    have h0 : ∀ u ∈ fs.map (·.2) ++ fs'.map (·.2), ∀ c ∈ tl u, c ∈ sgs := fun u hu c hc => by
      rcases List.mem_append.mp hu with z | z
      · obtain ⟨k, hk, rfl⟩ := List.mem_map.mp z
        exact sgs_iff.mpr (A.fin.wd k hk c hc)
      · obtain ⟨k, hk, rfl⟩ := List.mem_map.mp z
        exact sgs_iff.mpr (B.fin.wd k hk c hc)
    intro u hu c hc
    unfold moreW at hu
    rcases List.mem_append.mp hu with z | z
    · exact h0 u z c hc
    · obtain ⟨v, hv, z⟩ := List.mem_flatMap.mp z
      obtain ⟨d, hd, rfl⟩ := List.mem_map.mp z
      rw [tl_append, tl_one] at hc
      rcases List.mem_append.mp hc with y | y
      · exact h0 v hv c y
      · rw [List.mem_singleton.mp y]
        have : ∀ d ∈ sg8, d ∈ sgs := by decide
        exact this d hd
  rw [likeB_iff, ldB_iff (ren_nd A.nd) (ren_nd B.nd)]
  constructor
  · intro h
    have hE : ∀ u ∈ moreW (fs.map (·.2) ++ fs'.map (·.2)), (ledM (stp L) (tl u) x = none ↔ ledM (stp L') (tl u) x' = none) ∧ ∀ v ∈ moreW (fs.map (·.2) ++ fs'.map (·.2)), (ledM (stp L) (tl u) x = ledM (stp L) (tl v) x ↔ ledM (stp L') (tl u) x' = ledM (stp L') (tl v) x') := fun u hu => by
      have h1 := h _ (List.mem_map.mpr ⟨u, hu, rfl⟩)
      exact ⟨h1.1, fun v hv => h1.2 _ (List.mem_map.mpr ⟨v, hv, rfl⟩)⟩
    have inA : ∀ k ∈ fs, k.2 ∈ moreW (fs.map (·.2) ++ fs'.map (·.2)) := fun k hk => List.mem_append_left _ (List.mem_append_left _ (List.mem_map.mpr ⟨k, hk, rfl⟩))
    have inA' : ∀ k ∈ fs, ∀ c ∈ sg8, k.2 ++ one c ∈ moreW (fs.map (·.2) ++ fs'.map (·.2)) := fun k hk c hc => List.mem_append_right _ (List.mem_flatMap.mpr ⟨k.2, List.mem_append_left _ (List.mem_map.mpr ⟨k, hk, rfl⟩), List.mem_map.mpr ⟨c, hc, rfl⟩⟩)
    let φ : Int → Int := fun y => (((fs.find? fun k => decide (k.1 = y)).bind fun k => ledM (stp L') (tl k.2) x')).getD 0
    have hφ : ∀ k ∈ fs, ledM (stp L') (tl k.2) x' = some (φ k.1) := fun k hk => by
      have hs : ∃ y, ledM (stp L') (tl k.2) x' = some y := by
        have := (hE k.2 (inA k hk)).1
        rw [A.fin.led k hk] at this
        cases e : ledM (stp L') (tl k.2) x' with
        | none => exact absurd (this.mpr e) (fun z => nomatch z)
        | some y => exact ⟨y, rfl⟩
      obtain ⟨y, hy⟩ := hs
      have hf : fs.find? (fun q => decide (q.1 = k.1)) = some k := by
        cases e : fs.find? (fun q => decide (q.1 = k.1)) with
        | none =>
          rw [List.find?_eq_none] at e
          exact absurd (decide_eq_true rfl) (e k hk)
        | some q =>
          have h1 : q.1 = k.1 := of_decide_eq_true (List.find?_some (p := fun q : Fd => decide (q.1 = k.1)) e)
          have h2 := List.mem_of_find?_eq_some e
          have nd := A.ok.nd
          rw [fd_uniq nd q h2 k hk h1]
      have : φ k.1 = y := by
        show (((fs.find? fun q => decide (q.1 = k.1)).bind fun k => ledM (stp L') (tl k.2) x')).getD 0 = y
        rw [hf]
        show (ledM (stp L') (tl k.2) x').getD 0 = y
        rw [hy]
        rfl
      rw [hy, this]
    have snoc : ∀ (M : Nat → List (Int × Int)) (u : Str) (c : Nat) (p q : Int), ledM (stp M) (tl u) p = some q → ledM (stp M) (tl (u ++ one c)) p = stp M c q := fun M u c p q e => by
      rw [tl_append, tl_one, ledM_app, e]
      show (stp M c q).bind (fun y => some y) = _
      cases stp M c q <;> rfl
    have iso : Iso (· ∈ fs.map (·.1)) φ L L' := {
      inj := fun a b ha hb e => by
        obtain ⟨k, hk, rfl⟩ := List.mem_map.mp ha
        obtain ⟨q, hq, rfl⟩ := List.mem_map.mp hb
        have := (hE k.2 (inA k hk)).2 q.2 (inA q hq)
        rw [A.fin.led k hk, A.fin.led q hq, hφ k hk, hφ q hq] at this
        exact Option.some.inj (this.mpr (by rw [e]))
      cl := isoA.cl
      st := fun c hc a ha => by
        by_cases h8 : c ∈ sg8
        · obtain ⟨k, hk, rfl⟩ := List.mem_map.mp ha
          have h1 := hE _ (inA' k hk c h8)
          rw [snoc L k.2 c x k.1 (A.fin.led k hk), snoc L' k.2 c x' _ (hφ k hk)] at h1
          cases e : stp L c k.1 with
          | none => exact h1.1.mp e
          | some y =>
            have hy := A.fin.closed hk hc e
            obtain ⟨q, hq, rfl⟩ := List.mem_map.mp hy
            have h2 := h1.2 q.2 (inA q hq)
            rw [A.fin.led q hq, hφ q hq] at h2
            exact h2.mp e
        · unfold stp
          rw [A.few c hc h8, B.few c hc h8]
          rfl }
    have hx' : φ x = x' := by
      have := hφ (x, Str.ofString "") (by rw [ea]; exact List.mem_cons_self)
      rw [show tl ((x, Str.ofString "") : Fd).2 = [] by show tl (Str.ofString "") = []; decide +kernel] at this
      exact (Option.some.inj this).symm
    have hfin := iso.fin xin A.fin (by rw [hx']; exact B.fin)
    refine ⟨by rw [hfin.1]; unfold phF; rw [List.length_map], fun c hc j => ?_⟩
    have ek : fs'.map (·.1) = (fs.map (·.1)).map φ := by rw [hfin.1, phF_keys]
    have clB := fun c hc => B.fin.cl B.nd (c := c) hc
    rw [ek] at clB ⊢
    exact (iso.ren (fun _ h => h) A.nd B.nd (fun c hc => A.fin.cl A.nd hc) clB hc j).symm
  · rintro ⟨_, h⟩ a ha
    have key : ∀ u ∈ moreW (fs.map (·.2) ++ fs'.map (·.2)), (ledM (stp L) (tl u) x).map (rk (fs.map (·.1))) = (ledM (stp L') (tl u) x').map (rk (fs'.map (·.1))) ∧ (∀ e, ledM (stp L) (tl u) x = some e → e ∈ fs.map (·.1)) ∧ (∀ e, ledM (stp L') (tl u) x' = some e → e ∈ fs'.map (·.1)) := fun u hu => by
      have h1 := isoA.led (tl u) x (hwd u hu) xin
      have h2 := isoB.led (tl u) x' (hwd u hu) xin'
      refine ⟨?_, h1.2, h2.2⟩
      rw [← h1.1, ← h2.1, r0, r0']
      have : ∀ (l : List Nat) (j : Int), (∀ c ∈ l, c ∈ sgs) → ledM (stp (renL (fs.map (·.1)) L)) l j = ledM (stp (renL (fs'.map (·.1)) L')) l j := by
        intro l
        induction l with
        | nil => exact fun _ _ => rfl
        | cons c l ih =>
          intro j hl
          show (stp _ c j).bind _ = (stp _ c j).bind _
          rw [h c (hl c List.mem_cons_self) j]
          cases stp (renL (fs'.map (·.1)) L') c j with
          | none => rfl
          | some y => exact ih y fun d hd => hl d (List.mem_cons_of_mem _ hd)
      exact this _ _ (hwd u hu)
    have inj : ∀ (ks : List Int) (a b : Option Int), (∀ e, a = some e → e ∈ ks) → (∀ e, b = some e → e ∈ ks) → (a.map (rk ks) = b.map (rk ks) ↔ a = b) := fun ks a b h1 h2 => by
      constructor
      · intro e
        cases a with
        | none => cases b with
          | none => rfl
          | some b => cases e
        | some a => cases b with
          | none => cases e
          | some b => rw [rk_inj (h1 a rfl) (h2 b rfl) (Option.some.inj e)]
      · rintro rfl; rfl
    obtain ⟨u, hu, rfl⟩ := List.mem_map.mp ha
    have ku := key u hu
    refine ⟨?_, fun b hb => ?_⟩
    · show ledM (stp L) (tl u) x = none ↔ ledM (stp L') (tl u) x' = none
      rw [← Option.map_eq_none_iff (f := rk (fs.map (·.1))), ku.1, Option.map_eq_none_iff]
    · obtain ⟨v, hv, rfl⟩ := List.mem_map.mp hb
      have kv := key v hv
      show ledM (stp L) (tl u) x = ledM (stp L) (tl v) x ↔ ledM (stp L') (tl u) x' = ledM (stp L') (tl v) x'
      rw [← inj _ _ _ ku.2.1 kv.2.1, ku.1, kv.1, inj _ _ _ ku.2.2 kv.2.2]
/-! places numbered otherwise -/
theorem iso_moves {n : Int} {ms ms' : List Mv} {φ : Int → Int} (ok : WOk n ms) (hp : ms'.Perm (ms.map fun m => (m.1, φ m.2.1, φ m.2.2))) (inj : ∀ x y, 0 ≤ x ∧ x < n → 0 ≤ y ∧ y < n → φ x = φ y → x = y) {n' : Int} (ok' : WOk n' ms') : Iso (fun x => 0 ≤ x ∧ x < n) φ (LM ms) (LM ms') where
  inj := inj
  cl := fun c hc x hx e h => (LM_rg ok c hc _ (lk_mem h)).2.2
  st := fun c hc x hx => by
    have mem : ∀ q ∈ LM ms' c, ∃ r ∈ LM ms c, q = (φ r.1, φ r.2) := fun q hq => by
      obtain ⟨m, hm, e⟩ := LM_mem.mp hq
      obtain ⟨k, hk, rfl⟩ := List.mem_map.mp (hp.mem_iff.mp hm)
      rcases e with ⟨h1, h2, h3⟩ | ⟨h0, h1, h2, h3⟩
      · exact ⟨(k.2.1, k.2.2), LM_mem.mpr ⟨k, hk, .inl ⟨h1, rfl, rfl⟩⟩, Prod.ext h2.symm h3.symm⟩
      · exact ⟨(k.2.2, k.2.1), LM_mem.mpr ⟨k, hk, .inr ⟨h0, h1, rfl, rfl⟩⟩, Prod.ext h2.symm h3.symm⟩
    cases e : stp (LM ms) c x with
    | some y =>
      refine lk_of (LM_uni ok') ?_
      obtain ⟨m, hm, e⟩ := LM_mem.mp (lk_mem e)
      refine LM_mem.mpr ⟨_, hp.mem_iff.mpr (List.mem_map.mpr ⟨m, hm, rfl⟩), ?_⟩
      rcases e with ⟨h1, h2, h3⟩ | ⟨h0, h1, h2, h3⟩
      · exact .inl ⟨h1, by rw [← show m.2.1 = x from h2], by rw [← show m.2.2 = y from h3]⟩
      · exact .inr ⟨h0, h1, by rw [← show m.2.2 = x from h2], by rw [← show m.2.1 = y from h3]⟩
    | none =>
      refine lk_none fun q hq z => ?_
      obtain ⟨r, hr, rfl⟩ := mem q hq
      have hrg := LM_rg ok c hc r hr
      have e2 : r.1 = x := inj r.1 x ⟨hrg.1, hrg.2.1⟩ hx z
      have : stp (LM ms) c x = some r.2 := lk_of (LM_uni ok) (by rw [← e2]; exact hr)
      rw [e] at this
      cases this
theorem ok_moves {n n' : Int} {ms : List Mv} {φ : Int → Int} (ok : WOk n ms) (inj : ∀ x y, 0 ≤ x ∧ x < n → 0 ≤ y ∧ y < n → φ x = φ y → x = y) (rg : ∀ x, 0 ≤ x ∧ x < n → 0 ≤ φ x ∧ φ x < n') : WOk n' (ms.map fun m => (m.1, φ m.2.1, φ m.2.2)) := by
  refine ⟨fun q hq => ?_, ?_⟩
  · obtain ⟨m, hm, rfl⟩ := List.mem_map.mp hq
    have h := ok.rg m hm
    have h1 := rg m.2.1 ⟨h.2.2.1, h.2.2.2.1⟩
    have h2 := rg m.2.2 h.2.2.2.2
    exact ⟨h.1, h.2.1, h1.1, h1.2, h2.1, h2.2⟩
  · rw [List.pairwise_map]
    refine ok.pw.imp_of_mem fun {a b} ha hb h e => ?_
    have r1 := ok.rg a ha
    have r2 := ok.rg b hb
    have h := h e
    exact ⟨fun z => h.1 (inj _ _ ⟨r1.2.2.1, r1.2.2.2.1⟩ ⟨r2.2.2.1, r2.2.2.2.1⟩ z), fun z => h.2 (inj _ _ r1.2.2.2.2 r2.2.2.2.2 z)⟩
/-! seen again -/
theorem Two.again {L : Nat → List (Int × Int)} {x n : Int} {fs gs : List Fd} (A : Two L x n fs) (h : FinB (renL (fs.map (·.1)) L) 0 gs) : fs.length = gs.length ∧ ldB (renL (gs.map (·.1)) (renL (fs.map (·.1)) L)) (renL (fs.map (·.1)) L) = true := by
  have isoA := iso_ren A.nd (fun c hc => A.fin.cl A.nd hc)
  obtain ⟨ta, ea⟩ := A.fin.head
  have xin : x ∈ fs.map (·.1) := by rw [ea]; exact List.mem_cons_self
  have r0 : rk (fs.map (·.1)) x = 0 := by rw [ea]; exact rk_head _ _
  have hf := isoA.fin xin A.fin (by rw [r0]; exact h)
  refine ⟨by rw [hf.1]; unfold phF; rw [List.length_map], ?_⟩
  rw [ldB_iff (ren_nd (ren_nd A.nd)) (ren_nd A.nd)]
  intro c hc j
  have ek : gs.map (·.1) = (fs.map (·.1)).map (rk (fs.map (·.1))) := by rw [hf.1, phF_keys]
  have hcl := fun c hc => h.cl (ren_nd A.nd) (c := c) hc
  rw [ek] at hcl ⊢
  exact isoA.ren (fun _ h => h) A.nd (ren_nd A.nd) (fun c hc => A.fin.cl A.nd hc) hcl hc j
end Sf
namespace Sf
open PySem PySem.Spec PyProof.Rows L2 TL
/-! ### == of lists of numbers, with either answer -/
theorem eqvAll_ints : ∀ l m : List Int, PyData.eqvAll (l.map .int) (m.map .int) = decide (l = m)
  | [], [] => by simp [PyData.eqvAll]
  | [], b :: m => by simp [PyData.eqvAll]
  | a :: l, [] => by simp [PyData.eqvAll]
  | a :: l, b :: m => by
    rw [List.map_cons, List.map_cons, PyData.eqvAll, PyData.eqv, eqvAll_ints l m]
    by_cases h : a = b
    · subst h
      simp
    · rw [beq_eq_false_iff_ne.mpr h, Bool.false_and, decide_eq_false (fun e => h (List.cons.inj e).1)]
theorem w_eqIs {K : PySem.W.Frag} {H : Hp} {Q : VK} {p q : Addr} {l m : List Int} (h : H p = some (.lst (l.map V.int))) (h' : H q = some (.lst (m.map V.int))) (k : Q (.bl (decide (l = m))) H) : rEqD K (.ref p) (.ref q) H Q :=
  ⟨_, _, .lst (SqL.of h) (dpI l), .lst (SqL.of h') (dpI m), shapedI l, shapedI m, by rw [PyData.eqv, eqvAll_ints]; exact k⟩
section
variable {X : Cx} {σ : L2.St} {H : Hp} {Q : VK} {k : Nat} {f C : Addr} {fd : FuncData} {ps : List Str} {sp : Sp}
theorem op_eqN (F : FnOk X.prog X.w X.K X.mg X.base CX0 k f fd ps sp) (hs : PySem.W.findIn X.K (.ref C) "__eq__" = some (some (.ref f))) (hf : PySem.W.isFn X.K (.ref f) = true) (hb : Binds X.K fd ps []) (hr : Room k X.A) : OpR X (compareOp .Eq) (rEqOwn C sp) := op_eqOwn F hs hf hb hr
def kEqOwn (Q : VK) : VK := fun v H' => ∃ t, v = .bl t ∧ Q (.bl t) H'
theorem w_eqOwn {C a b dx dy : Addr} {fs gs : List (Str × V)} {sp : Sp} (ha : H a = some (.ins C dx fs)) (hb : H b = some (.ins C dy gs)) (q : sp [.ref a, .ref b] H (kEqOwn Q) E0) : rEqOwn C sp (.ref a) (.ref b) H Q := ⟨a, b, dx, dy, fs, gs, rfl, rfl, ha, hb, q⟩
theorem w_kEqOwn {t : Bool} (q : Q (.bl t) H) : kEqOwn Q (.bl t) H := ⟨t, rfl, q⟩
/-- a == y, a of the class at C, y of another kind -/
def rEqOt (K : PySem.W.Frag) (C : Addr) (sp : Sp) : R2 := fun x y H Q => ∃ a dx fs t, x = .ref a ∧ H a = some (.ins C dx fs) ∧ TyX K H y t ∧ PySem.W.notFirst K C t = true ∧ sp [.ref a, y] H (kEqOwn Q) E0
theorem op_eqOt (F : FnOk X.prog X.w X.K X.mg X.base CX0 k f fd ps sp) (hs : PySem.W.findIn X.K (.ref C) "__eq__" = some (some (.ref f))) (hf : PySem.W.isFn X.K (.ref f) = true) (hb : Binds X.K fd ps []) (hr : Room k X.A) : OpR X (compareOp .Eq) (rEqOt X.K C sp) := by
  intro pins s σ H x y v u Q I rx ry h
  obtain ⟨a, dx, fs, t, rfl, ha, ty, nf, h⟩ := h
  cases rx
  obtain ⟨mA, J, _⟩ := ins_get I.hok ha
  obtain ⟨od, J, _⟩ := J.look
  obtain ⟨m, hF⟩ := I.fr
  obtain ⟨Pk, kx, pk, _⟩ := kit_of I ry ty
  refine PySem.W.cmp_K (op := .Eq) (tb := t) hr.units0 hF I.ok.mod.kin J (kx.ty _ _ I.kIn pk) nf hs hf ?_
  refine wpAny_mono (run_fnA (Er := X.xe) F hr I.env0 hb I (show Vals [V.ref a, y] [Value.ref a, u] from .cons rfl (.cons ry .nil)) h) (fun v s' hv => ?_) fun _ _ z => z
  obtain ⟨z, H', I', rz, t, rfl, q⟩ := hv
  cases rz
  exact ⟨.bl t, H', I', rfl, q⟩
theorem w_eqOt {K : PySem.W.Frag} {C a dx : Addr} {fs : List (Str × V)} {sp : Sp} {y : V} {t : Value} (ha : H a = some (.ins C dx fs)) (ty : TyX K H y t) (nf : PySem.W.notFirst K C t = true) (q : sp [.ref a, y] H (kEqOwn Q) E0) : rEqOt K C sp (.ref a) y H Q := ⟨a, dx, fs, t, rfl, ha, ty, nf, q⟩
end
theorem plc_inj {n m : Int} (hn : 0 ≤ n) (hm : 0 ≤ m) : plc n = plc m ↔ n = m := by
  constructor
  · intro h
    have := congrArg List.length h
    rw [plc_len, plc_len] at this
    omega
  · rintro rfl; rfl
section
variable {P : Program} {w : World} {K : PySem.W.Frag} {mg : Str → Option Value} {base : Heap} {C : Addr}
/-! ### World.__eq__, with either answer -/
def spWEq (K : PySem.W.Frag) (C : Addr) : Sp := fun vs H Q _ => ∃ (p : Addr) (y : V) (n : Int) (L : Nat → List (Int × Int)), vs = [.ref p, y] ∧ WAt C H p n L ∧ 0 ≤ n ∧
  ((∃ (r : Addr) (n' : Int) (L' : Nat → List (Int × Int)), y = .ref r ∧ WAt C H r n' L' ∧ 0 ≤ n' ∧ LNd L ∧ Q (.bl (decide (n = n') && ldB L L')) H) ∨ ∃ t : Value, TyX K H y t ∧ PySem.W.kitOne K t (.ref C) = some false ∧ Q (.bl false) H)
theorem sc_weq : FnScope ["self", "other"] ["self", "other"] (defScope s_World___eq__) := ⟨rfl, rfl, rfl, by decide +kernel, rfl, by decide +kernel, by decide +kernel⟩
theorem has_weq (F : MAt K C "__eq__" "World.__eq__" s_World___eq__ ["self", "other"]) (B : Blt mg) (T_World : WC K mg C) : HasM P w K mg base C 1 "__eq__" ["self", "other"] (spWEq K C) := F.has fun F => by
  refine F.ok sc_weq (fun vs H Q E h => ?_) (fun cdv A outer s H vs Q E hr h => ?_)
  · obtain ⟨p, y, n, L, rfl, _⟩ := h
    rfl
  · obtain ⟨p, y, n, L, rfl, ⟨dx, pl, ld, d, hp, hpl, hL⟩, n0, h⟩ := h
    refine ⟨_, (pss_one (ps_ret (pe_and (pe_callB call_isi (by rfl) B.isinstance (by decide +kernel) (pa_cons (pv 1) (pa_cons (pe_glob (v := .ref C) (by rfl) T_World.mgC rfl) pa_nil))) (pe_and (pe_cmpR (op_eqD hr.units) (pe_fld (pv 0) rfl) (pe_fld (pv 1) rfl) (nomark _)) (pe_one (pe_cmpR (op_eqLd hr.units) (pe_fld (pv 0) rfl) (pe_fld (pv 1) rfl) (nomark _))))))), ?_⟩
    rcases h with ⟨r, n', L', rfl, ⟨dx', pl', ld', d', hp', hpl', hL'⟩, n0', hN, q⟩ | ⟨t, ty, kf, q⟩
    · rw [rgV_plc] at hpl hpl'
      walk_at "go"
      refine ⟨_, _, _, _, true, rfl, .own C, .base (.ins hp' T_World.cl T_World.ha T_World.hn T_World.htk T_World.hm), kit_self, ?_⟩
      walk_at "go"
      refine w_kFld hp T_World.cl T_World.nP (wf_places _ _) ?_
      walk_at "go"
      refine w_kFld hp' T_World.cl T_World.nP (wf_places _ _) ?_
      refine w_eqIs hpl hpl' ?_
      have e : decide (plc n = plc n') = decide (n = n') := decide_eq_decide.mpr (plc_inj n0 n0')
      rw [e]
      refine w_andV2 (fun e => ?_) (fun e => ?_)
      · rw [decide_eq_true e, Bool.true_and] at q
        walk_at "go"
        refine w_kFld hp T_World.cl T_World.nL (wf_leads _ _) ?_
        walk_at "go"
        refine w_kFld hp' T_World.cl T_World.nL (wf_leads _ _) ?_
        exact w_eqLd hL hL' hN q
      · rw [decide_eq_false e, Bool.false_and] at q
        exact q
    · walk_at "go"
      refine ⟨_, _, _, _, false, rfl, .own C, ty, kf, ?_⟩
      walk_at "go"
      exact q
end
end Sf
namespace Sf
open PySem PySem.Spec PyProof.Rows L2 TL
section
variable {P : Program} {w : World} {K : PySem.W.Frag} {mg : Str → Option Value} {base : Heap} {C : Addr}
/-! ### World.need_place, go, where the place is one -/
def spNpl (C : Addr) : Sp := fun vs H Q _ => ∃ (p : Addr) (n x : Int) (L : Nat → List (Int × Int)), vs = [.ref p, .int x] ∧ WAt C H p n L ∧ 0 ≤ x ∧ x < n ∧ Q .non H
theorem sc_npl2 : FnScope ["self", "place"] ["self", "place"] (defScope s_World_need_place) := ⟨rfl, rfl, rfl, by decide +kernel, rfl, by decide +kernel, by decide +kernel⟩
theorem has_npl (F : MAt K C "need_place" "World.need_place" s_World_need_place ["self", "place"]) (B : Blt mg) (T_World : WC K mg C) (h_Up : HasUp P w K mg base) : HasM P w K mg base C 2 "need_place" ["self", "place"] (spNpl C) := F.has fun F => by
  obtain ⟨f_Up, fd_Up, g_Up, k_Up, b_Up, G_Up⟩ := h_Up
  refine F.ok sc_npl2 (fun vs H Q E h => ?_) (fun cdv A outer s H vs Q E hr h => ?_)
  · obtain ⟨p, n, x, L, rfl, _⟩ := h
    rfl
  · obtain ⟨p, n, x, L, rfl, ⟨dx, pl, ld, d, hp, hpl, hL⟩, x0, x1, q⟩ := h
    refine ⟨_, (pss_one (ps_if (pt_not (pt_val (pe_call G_Up (hr.mono (by decide)) (by rfl) g_Up k_Up b_Up .nil pass0 (pa_cons (pv 1) (pa_cons (pe_op op_sub (pe_callB call_lenQ (by rfl) B.len PySem.boot_len (pa_cons (pe_fld (pv 0) rfl) pa_nil)) pe_int) pa_nil))))) (pss_one (ps_never)) pss_nil)), ?_⟩
    rw [rgV_plc] at hpl
    walk_at "go"
    refine w_kFld hp T_World.cl T_World.nP (wf_places _ _) ?_
    walk_at "go"
    refine ⟨_, _, rfl, trivial, ?_⟩
    rw [upB_true x0 (by rw [List.length_map, plc_len]; omega)]
    walk_at "go"
    exact q
def spGo (C : Addr) : Sp := fun vs H Q _ => ∃ (p : Addr) (n x : Int) (L : Nat → List (Int × Int)) (z : Str), vs = [.ref p, .str z, .int x] ∧ WAt C H p n L ∧ Wd z ∧ z.length ≤ 60 ∧ 0 ≤ x ∧ x < n ∧ ∀ H', Same H H' → Q (oV (ledM (stp L) (tl z) x)) H'
theorem sc_go2 : FnScope ["self", "word", "place"] ["self", "word", "place"] (defScope s_World_go) := ⟨rfl, rfl, rfl, by decide +kernel, rfl, by decide +kernel, by decide +kernel⟩
theorem has_go {dv : Value} (F : MAtD K C "go" "World.go" s_World_go ["self", "word", "place"] dv) (T_World : WC K mg C) (h_Ne : HasNeed P w K mg base) (h_Npl : HasM P w K mg base C 2 "need_place" ["self", "place"] (spNpl C)) (h_Led : HasM P w K mg base C 1 "led" ["self", "word", "place"] (spLed C)) : HasMD P w K mg base C 3 "go" ["self", "word", "place"] dv (spGo C) := F.has fun F => by
  obtain ⟨f_Ne, fd_Ne, g_Ne, k_Ne, b_Ne, G_Ne⟩ := h_Ne
  obtain ⟨f_Npl, fd_Npl, m_Npl, b_Npl, G_Npl⟩ := h_Npl
  obtain ⟨f_Led, fd_Led, m_Led, b_Led, G_Led⟩ := h_Led
  refine F.ok sc_go2 (fun vs H Q E h => ?_) (fun cdv A outer s H vs Q E hr h => ?_)
  · obtain ⟨p, n, x, L, z, rfl, _⟩ := h
    rfl
  · obtain ⟨p, n, x, L, z, rfl, hW, hz, hzl, x0, x1, q⟩ := h
    refine ⟨_, (pss_cons (ps_expr (pe_call G_Ne (hr.mono (by decide)) (by rfl) g_Ne k_Ne b_Ne .nil pass0 (pa_cons (pv 1) pa_nil))) (pss_cons (ps_expr (pe_meth (pv 0) T_World.cl m_Npl G_Npl (hr.mono (by decide)) b_Npl .nil pass0 (pa_cons (pv 2) pa_nil))) (pss_one (ps_ret (pe_meth (pv 0) T_World.cl m_Led G_Led (hr.mono (by decide)) b_Led .nil pass0 (pa_cons (pv 1) (pa_cons (pv 2) pa_nil))))))), ?_⟩
    obtain ⟨dx, pl, ld, d, hp, hpl, hL⟩ := id hW
    walk_at "go"
    refine ⟨z, rfl, hz, hzl, fun H1 s1 => ?_⟩
    walk_at "go"
    refine w_kMeth (s1.at hp) (wf_no _ _ (by decide +kernel) (by decide +kernel)) ?_
    walk_at "go"
    refine ⟨p, n, x, L, rfl, hW.same s1, x0, x1, ?_⟩
    walk_at "go"
    refine w_kMeth (s1.at hp) (wf_no _ _ (by decide +kernel) (by decide +kernel)) ?_
    walk_at "go"
    exact ⟨p, n, x, L, z, rfl, hW.same s1, hz, q H1 s1⟩
end
end Sf
namespace Sf
open PySem PySem.Spec PyProof.Rows L2 TL
theorem perm_ints {us : List V} {l : List Int} (h : us.Perm (l.map V.int)) : ∃ ls : List Int, us = ls.map V.int ∧ ls.Perm l := by
  have hp : Paired (fun (v : V) (x : Int) => v = .int x) (l.map V.int) l := by
    clear h
    induction l with
    | nil => exact .nil
    | cons x l ih => exact .cons rfl ih
  obtain ⟨ls, h1, h2⟩ := paired_perm h hp
  refine ⟨ls, ?_, h2⟩
  clear h hp h2
  induction h1 with
  | nil => rfl
  | cons r _ ih => rw [r, ih]; rfl
theorem plc_nd (n : Int) : (plc n).Nodup := by
  unfold plc
  unfold List.Nodup
  rw [List.pairwise_map]
  exact (List.pairwise_lt_range).imp fun {i j} h z => by omega
/-- what stands by a number -/
def byN (ls : List Int) (x : Int) : Int := (ls[x.toNat]?).getD 0
theorem byN_get {ls : List Int} {x : Int} (h0 : 0 ≤ x) (h1 : x < ls.length) : ls[x.toNat]? = some (byN ls x) := by
  unfold byN
  rw [List.getElem?_eq_getElem (by omega)]
  rfl
theorem byN_inj {ls : List Int} (nd : ls.Nodup) {x y : Int} (hx : 0 ≤ x ∧ x < ls.length) (hy : 0 ≤ y ∧ y < ls.length) (e : byN ls x = byN ls y) : x = y := by
  have h1 := byN_get hx.1 hx.2
  have h2 := byN_get hy.1 hy.2
  rw [e] at h1
  have : x.toNat = y.toNat := by
    obtain ⟨a1, e1⟩ := List.getElem?_eq_some_iff.mp h1
    obtain ⟨a2, e2⟩ := List.getElem?_eq_some_iff.mp h2
    rcases Nat.lt_trichotomy x.toNat y.toNat with z | z | z
    · exact absurd (e1.trans e2.symm) (List.pairwise_iff_getElem.mp nd _ _ a1 a2 z)
    · exact z
    · exact absurd (e2.trans e1.symm) (List.pairwise_iff_getElem.mp nd _ _ a2 a1 z)
  omega
theorem byN_atI {ls : List Int} {x : Int} (h0 : 0 ≤ x) (h1 : x < ls.length) : atI (ls.map V.int) x = some (.int (byN ls x)) := by
  have e : x = ((x.toNat : Nat) : Int) := by omega
  rw [e]
  refine at_of (j := x.toNat) rfl ?_
  rw [List.getElem?_map, ← e, byN_get h0 h1]
  rfl
section
variable {P : Program} {w : World} {K : PySem.W.Frag} {mg : Str → Option Value} {base : Heap} {C CN : Addr} {dv dg : Value}
/-! ### _law_otherwise -/
def phM (φ : Int → Int) (ms : List Mv) : List Mv := ms.map fun m => (m.1, φ m.2.1, φ m.2.2)
def spOth : Sp := fun vs H Q _ => ∃ (b l a : Addr) (n : Int) (us : List V) (ms : List Mv), vs = [.ref b, .int n, .ref a] ∧ Bag H b l ∧ H a = some (.lst us) ∧ MvsAt H us ms ∧ a ≠ b ∧ WOk n ms ∧ ms.length ≤ 9000 ∧ 1 ≤ n ∧ n ≤ 100 ∧
  ∀ (t rw pl : Addr) (H' : Hp) (n' : Int) (us' : List V) (ms' : List Mv) (ls : List Int), H' t = some (.tup [.int n', .ref rw, .ref pl]) → H' rw = some (.lst us') → MvsAt H' us' ms' → ms'.Perm (phM (byN ls) ms) → ls.Nodup → (∀ x ∈ ls, 0 ≤ x ∧ x < n') → (ls.length : Int) = n' → n ≤ n' → n' ≤ n + 2 →
    H' pl = some (.lst (ls.map V.int)) → rw ≠ b → pl ≠ b → t ≠ b → Bag H' b l → Fx b H H' → Q (.ref t) H'
theorem sc_oth : FnScope ["_law_bag", "_law_many", "_law_moves", "_law_more", "_law_places", "_law_letter", "_law_start", "_law_end", "_law_rows"] ["_law_bag", "_law_many", "_law_moves"] (defScope s__law_otherwise) := ⟨rfl, rfl, rfl, by decide +kernel, rfl, by decide +kernel, by decide +kernel⟩
theorem has_oth (F : FnAt K mg "_law_otherwise" s__law_otherwise ["_law_bag", "_law_many", "_law_moves"]) (B : Blt mg) (h_Pu : HasPull P w K mg base) (h_Mx : Has P w K mg base 2 "_law_mixed" ["_law_bag", "_law_row"] spMx) : Has P w K mg base 3 "_law_otherwise" ["_law_bag", "_law_many", "_law_moves"] spOth := F.has fun F => by
  obtain ⟨f_Pu, fd_Pu, g_Pu, k_Pu, b_Pu, G_Pu⟩ := h_Pu
  obtain ⟨f_Mx, fd_Mx, g_Mx, k_Mx, b_Mx, G_Mx⟩ := h_Mx
  refine F.ok sc_oth (fun vs H Q E h => ?_) (fun cdv A outer s H vs Q E hr h => ?_)
  · obtain ⟨b, l, a, n, us, ms, rfl, _⟩ := h
    rfl
  · obtain ⟨b, l, a, n, us, ms, rfl, hB, ha, hm, nab, ok, hml, n1, n2, q⟩ := h
    refine ⟨_, (pss_cons (ps_set (i := 3) sc_oth.nd rfl (.inl rfl) (pe_op op_add (pv 1) (pe_call G_Pu (hr.mono (by decide)) (by rfl) g_Pu k_Pu b_Pu .nil pass0 (pa_cons (pv 0) (pa_cons pe_int pa_nil))))) (pss_cons (ps_set (i := 4) sc_oth.nd rfl (.inr rfl) (pe_call G_Mx (hr.mono (by decide)) (by rfl) g_Mx k_Mx b_Mx .nil pass0 (pa_cons (pv 0) (pa_cons (pe_listRg rfl (by rfl) B.list (prg_1 (by rfl) B.range (pv 3))) pa_nil)))) (pss_cons (ps_setLc (i := 8) (own := [("_law_letter", 5), ("_law_start", 6), ("_law_end", 7)]) (g := gTup K 3 (gCons (gName 5) (gCons (gName 6) (gCons (gName 7) gNil)))) (tt := tYes) (te := tTup (tCons (tVar 5) (tCons (tOp (rIxL K) (tVar 4) (tVar 6)) (tCons (tOp (rIxL K) (tVar 4) (tVar 7)) tNil)))) (by rfl) sc_oth.nd rfl rfl (sw_true rfl rfl rfl (by decide +kernel)) (pi_list (pv 2)) (blkOk_by (own := [("_law_letter", 5), ("_law_start", 6), ("_law_end", 7)]) (N := ["_law_bag", "_law_many", "_law_moves", "_law_more", "_law_places", "_law_letter", "_law_start", "_law_end", "_law_rows"]) (sc := defScope s__law_otherwise) (by decide +kernel)) (fun _ _ _ _ _ => pg_tup rfl (pgs_cons (pg_name (i := 5) sc_oth.nd rfl (.inl rfl)) (pgs_cons (pg_name (i := 6) sc_oth.nd rfl (.inl rfl)) (pgs_cons (pg_name (i := 7) sc_oth.nd rfl (.inl rfl)) pgs_nil)))) (fun _ _ _ _ _ => pts_nil) (fun _ _ _ _ _ => by exact (pe_tup (pa_cons (pv 5) (pa_cons (pe_ix ix_list (pv 4) (pv 6) (fun _ _ => rfl)) (pa_cons (pe_ix ix_list (pv 4) (pv 7) (fun _ _ => rfl)) pa_nil)))))) (pss_one (ps_ret (pe_tup (pa_cons (pv 3) (pa_cons (pe_call G_Mx (hr.mono (by decide)) (by rfl) g_Mx k_Mx b_Mx .nil pass0 (pa_cons (pv 0) (pa_cons (pv 8) pa_nil))) (pa_cons (pv 4) pa_nil))))))))), ?_⟩
    walk_at "go"
    refine ⟨b, l, 3, rfl, hB, by decide, by decide, fun d H1 d0 d1 B1 f1 => ?_⟩
    walk_at "go"
    refine w_kRgL (.of_le (by decide) (by omega) (by decide) (by omega)) (fun r H2 hr2 nr2 => ?_)
    rw [rgV_plc] at hr2
    have B2 := B1.nw nr2
    walk_at "go"
    refine ⟨b, l, r, _, rfl, B2, hr2, B1.ne nr2.nn, by rw [List.length_map, plc_len]; omega, fun pl vs' H3 pm hpl npl plb pll B3 f3 => ?_⟩
    obtain ⟨ls, rfl, pls⟩ := perm_ints pm
    have lsn : (ls.length : Int) = n + d := by rw [pls.length_eq, plc_len]; omega
    have f13 : Fx b H H3 := (f1.nw nr2).trans f3
    have ha3 := f13.at nab ha
    have hm3 : MvsAt H3 us ms := hm.tps (.fx hB f13)
    have nd : ls.Nodup := pls.nodup_iff.mpr (plc_nd _)
    walk_at "go"
    refine w_lcL (xs := us) (fun r i H4 => ∃ us', Same H3 H4 ∧ H3 r = none ∧ H4 r = some (.lst us') ∧ MvsAt H4 us' (phM (byN ls) (ms.take i)) ∧ us'.length = i) (fun r H4 hr nr => ⟨[], nr.same, nr.nn, hr, .nil, rfl⟩) (fun r i H4 _ ⟨_, h, _⟩ => h.at ha3) ?_ ?_
    · rintro r i v H4 hv ⟨us', s4, nr, hr4, hm4, hl4⟩
      obtain ⟨mv, hmi, t, rfl, ht⟩ := paired_get (hm3.tps (.of s4)) hv
      have hmm : mv ∈ ms := List.mem_of_getElem? hmi
      have hil : i < ms.length := (List.getElem?_eq_some_iff.mp hmi).1
      have hpl4 := s4.at hpl
      have rg := ok.rg mv hmm
      walk_at "go"
      refine w_ixL hpl4 (byN_atI (by omega) (by omega)) ?_
      walk_at "go"
      refine w_ixL hpl4 (byN_atI (by omega) (by omega)) ?_
      walk_at "go"
      refine w_newT (by walk_at "sz") (fun t5 H5 ht5 nt5 => ?_)
      refine w_kIt (nt5.at hr4) (lineLt_of (by omega)) (fun H6 h6 o6 => ?_)
      have tr : t5 ≠ r := (nt5.ne hr4).symm
      refine ⟨_, (s4.nw nt5).off o6 nr, nr, h6, ?_, by rw [List.length_append, hl4]; rfl⟩
      rw [take_snoc hmi]
      unfold phM
      rw [List.map_append]
      exact paired_snoc ⟨t5, rfl, o6.at tr ht5⟩ ((hm4.tps (.of nt5.same)).tps (Tps.refl.off (nt5.at hr4) o6))
    · rintro r H4 ⟨us', s4, nr, hr4, hm4, hl4⟩
      rw [show us.length = ms.length from Paired.length hm, List.take_length] at hm4
      have B4 := B3.same s4
      have rb : r ≠ b := B3.ne nr
      walk_at "go"
      refine ⟨b, l, r, us', rfl, B4, hr4, rb, by rw [hl4, show us.length = ms.length from Paired.length hm]; omega, fun rw' us2 H5 pm2 hrw nrw rwb rwl B5 f5 => ?_⟩
      obtain ⟨ms', hm5, pms⟩ := mvs_perm pm2 (hm4.tps (.fx B4 f5))
      have hpl5 := f5.at plb (s4.at hpl)
      walk_at "go"
      refine w_newT (by walk_at "sz") (fun t H6 ht nt => ?_)
      refine q t rw' pl H6 (n + d) us2 ms' ls ht (nt.at hrw) (hm5.tps (.of nt.same)) pms nd (fun x hx => ?_) lsn (by omega) (by omega) (nt.at hpl5) rwb plb (B5.ne nt.nn) (B5.nw nt) (((f13.same s4).trans f5).nw nt)
      exact mem_plc.mp (pls.mem_iff.mp hx)
/-! ### _law_go_alike -/
def sV (ws : List Str) : List V := ws.map V.str
theorem wyV_sV (fs : List Fd) : wyV fs = sV (fs.map (·.2)) := by
  unfold wyV sV
  rw [List.map_map]
  rfl
theorem sV_app (a b : List Str) : sV a ++ sV b = sV (a ++ b) := by
  unfold sV
  rw [List.map_append]
theorem sV_len (a : List Str) : (sV a).length = a.length := List.length_map ..
def EnAt (H : Hp) (us : List V) (es : List En) : Prop := Paired (fun (v : V) (e : En) => ∃ t, v = .ref t ∧ H t = some (.tup [oV e.1, oV e.2])) us es
theorem EnAt.tps {H H' : Hp} (s : Tps H H') {us : List V} {es : List En} (h : EnAt H us es) : EnAt H' us es := Paired.mapP h fun v m ⟨t, e, ht⟩ => ⟨t, e, s _ _ ht⟩
theorem oV_scal (a b : Option Int) : scal (oV a) (oV b) = true := by cases a <;> cases b <;> rfl
theorem oV_dec (a b : Option Int) : decide (oV a = oV b) = decide (a = b) := by
  cases a <;> cases b <;> simp [oV]
theorem oV_non (a : Option Int) : decide (oV a = .non) = decide (a = none) := by
  cases a <;> simp [oV]
theorem moreL_len (ws : List Str) (i : Nat) : (ws ++ (ws.take i).flatMap fun w => sg8.map fun c => w ++ one c).length ≤ 9 * ws.length := by
  have h : ∀ l : List Str, (l.flatMap fun w => sg8.map fun c => w ++ one c).length = 8 * l.length := by
    intro l
    induction l with
    | nil => rfl
    | cons a l ih =>
      rw [List.flatMap_cons, List.length_append, ih, List.length_map, List.length_cons]
      show 8 + 8 * l.length = _
      omega
  rw [List.length_append, h, List.length_take]
  omega
def spGa (C : Addr) : Sp := fun vs H Q _ => ∃ (p r : Addr) (n n' x x' : Int) (L L' : Nat → List (Int × Int)), vs = [.ref p, .int x, .ref r, .int x'] ∧ WAt C H p n L ∧ WAt C H r n' L' ∧ LRg n L ∧ LRg n' L' ∧ n ≤ 12 ∧ n' ≤ 12 ∧ 0 ≤ x ∧ x < n ∧ 0 ≤ x' ∧ x' < n' ∧
  ∀ (H' : Hp) (fs fs' : List Fd), Same H H' → FinB L x fs → FsOk n fs → FinB L' x' fs' → FsOk n' fs' → Q (.bl (likeB ((moreW (fs.map (·.2) ++ fs'.map (·.2))).map (goE L L' x x')))) H'
theorem sc_ga : FnScope ["_law_one", "_law_first", "_law_other", "_law_second", "_law_found", "_law_words", "_law_word", "_law_sign", "_law_ends", "_law_a", "_law_b", "_law_c", "_law_d"] ["_law_one", "_law_first", "_law_other", "_law_second"] (defScope s__law_go_alike) := ⟨rfl, rfl, rfl, by decide +kernel, rfl, by decide +kernel, by decide +kernel⟩
theorem has_ga (F : FnAt K mg "_law_go_alike" s__law_go_alike ["_law_one", "_law_first", "_law_other", "_law_second"]) (B : Blt mg) (T_World : WC K mg C) (h_Wy : HasMXD P w K mg base C 5 "ways" ["self", "place"] dv (spWyX C CN)) (h_Go : HasMD P w K mg base C 3 "go" ["self", "word", "place"] dg (spGo C)) : Has P w K mg base 6 "_law_go_alike" ["_law_one", "_law_first", "_law_other", "_law_second"] (spGa C) := F.has fun F => by
  obtain ⟨f_Wy, fd_Wy, m_Wy, b_Wy, bd_Wy, G_Wy⟩ := h_Wy
  obtain ⟨f_Go, fd_Go, m_Go, b_Go, bd_Go, G_Go⟩ := h_Go
  refine F.ok sc_ga (fun vs H Q E h => ?_) (fun cdv A outer s H vs Q E hr h => ?_)
  · obtain ⟨p, r, n, n', x, x', L, L', rfl, _⟩ := h
    rfl
  · obtain ⟨p, r, n, n', x, x', L, L', rfl, hW, hW', hL, hL', hn, hn', x0, x1, x0', x1', q⟩ := h
    refine ⟨_, (pss_cons (ps_set (i := 4) sc_ga.nd rfl (.inl rfl) (pe_op op_cat (pe_meth (pv 0) T_World.cl m_Wy G_Wy (hr.mono (by decide)) b_Wy .nil (passes_call (E := E0) takes0 (fun _ _ _ _ h => h)) (pa_cons (pv 1) pa_nil)) (pe_meth (pv 2) T_World.cl m_Wy G_Wy (hr.mono (by decide)) b_Wy .nil (passes_call (E := E0) takes0 (fun _ _ _ _ h => h)) (pa_cons (pv 3) pa_nil)))) (pss_cons (ps_set (i := 5) sc_ga.nd rfl (.inl rfl) (pe_callTy call_listO (by rfl) B.list (by decide +kernel) (pa_cons (pv 4) pa_nil))) (pss_cons (ps_for PassesOwn.never rfl (pi_list (pv 4)) (pg_name (i := 6) sc_ga.nd rfl (.inr rfl)) (pss_one (ps_set (i := 5) sc_ga.nd rfl (.inl rfl) (pe_op op_cat (pv 5) (pe_lc (own := [("_law_sign", 7)]) (g := gName 7) (tt := tYes) (by rfl) sc_ga.nd (pi_str pe_str) (blkOk_by (own := [("_law_sign", 7)]) (N := ["_law_one", "_law_first", "_law_other", "_law_second", "_law_found", "_law_words", "_law_word", "_law_sign", "_law_ends", "_law_a", "_law_b", "_law_c", "_law_d"]) (sc := defScope s__law_go_alike) (by decide +kernel)) (fun _ _ _ _ _ => pg_name (i := 7) sc_ga.nd rfl (.inl rfl)) (fun _ _ _ _ _ => pts_nil) (fun _ _ _ _ _ => (pe_op op_addS (pv 6) (pv 7)))))))) (pss_cons (ps_setLc (i := 8) (own := [("_law_word", 6)]) (g := gName 6) (by rfl) sc_ga.nd rfl rfl (sw_true rfl rfl rfl (by decide +kernel)) (pi_list (pv 5)) (blkOk_by (own := [("_law_word", 6)]) (N := ["_law_one", "_law_first", "_law_other", "_law_second", "_law_found", "_law_words", "_law_word", "_law_sign", "_law_ends", "_law_a", "_law_b", "_law_c", "_law_d"]) (sc := defScope s__law_go_alike) (by decide +kernel)) (fun _ _ _ _ _ => pg_name (i := 6) sc_ga.nd rfl (.inl rfl)) (fun _ _ _ _ _ => pts_one (pt_cmpR op_le (pe_callB call_lenS (by rfl) B.len PySem.boot_len (pa_cons (pv 6) pa_nil)) pe_int (nomark _))) (fun _ _ _ _ _ => (pe_tup (pa_cons (pe_meth (pv 0) T_World.cl m_Go G_Go (hr.mono (by decide)) b_Go .nil pass0 (pa_cons (pv 6) (pa_cons (pv 1) pa_nil))) (pa_cons (pe_meth (pv 2) T_World.cl m_Go G_Go (hr.mono (by decide)) b_Go .nil pass0 (pa_cons (pv 6) (pa_cons (pv 3) pa_nil))) pa_nil))))) (pss_cons (ps_for PassesOwn.never rfl (pi_list (pv 8)) (pg_tup rfl (pgs_cons (pg_name (i := 9) sc_ga.nd rfl (.inr rfl)) (pgs_cons (pg_name (i := 10) sc_ga.nd rfl (.inr rfl)) pgs_nil))) (pss_one (ps_if (PW.pt (pw_or (pt_cmpR op_ne (pe_cmpR op_isNn (pv 9) pe_non (nomark _)) (pe_cmpR op_isNn (pv 10) pe_non (nomark _)) (nomark _)) (pw_or1 (pt_not (pt_val (pe_callB (cr_all rfl) (by rfl) B.all (by decide +kernel) (pa_cons (pe_lc (own := [("_law_c", 11), ("_law_d", 12)]) (g := gTup K 2 (gCons (gName 11) (gCons (gName 12) gNil))) (tt := tYes) (by rfl) sc_ga.nd (pi_list (pv 8)) (blkOk_by (own := [("_law_c", 11), ("_law_d", 12)]) (N := ["_law_one", "_law_first", "_law_other", "_law_second", "_law_found", "_law_words", "_law_word", "_law_sign", "_law_ends", "_law_a", "_law_b", "_law_c", "_law_d"]) (sc := defScope s__law_go_alike) (by decide +kernel)) (fun _ _ _ _ _ => pg_tup rfl (pgs_cons (pg_name (i := 11) sc_ga.nd rfl (.inl rfl)) (pgs_cons (pg_name (i := 12) sc_ga.nd rfl (.inl rfl)) pgs_nil))) (fun _ _ _ _ _ => pts_nil) (fun _ _ _ _ _ => (pe_cmpR op_eq (pe_cmpR op_eq (pv 9) (pv 11) (nomark _)) (pe_cmpR op_eq (pv 10) (pv 12) (nomark _)) (nomark _)))) pa_nil))))))) (pss_one (ps_ret pe_bl)) pss_nil))) (pss_one (ps_ret pe_bl))))))), ?_⟩
    have ⟨dx, plx, ldx, ddx, hp, _⟩ := hW
    have ⟨dy, ply, ldy, ddy, hr', _⟩ := hW'
    walk_at "go"
    refine w_kMeth hp (wf_no _ _ (by decide +kernel) (by decide +kernel)) ?_
    walk_at "go"
    refine ⟨p, n, x, L, rfl, hW, hL, by omega, by omega, by omega, fun h => absurd ⟨x0, x1⟩ h, fun _ a1 H1 fs na1 s1 ha1 fin ok => ?_⟩
    walk_at "go"
    refine w_kMeth (s1.at hr') (wf_no _ _ (by decide +kernel) (by decide +kernel)) ?_
    walk_at "go"
    refine ⟨r, n', x', L', rfl, hW'.same s1, hL', by omega, by omega, by omega, fun h => absurd ⟨x0', x1'⟩ h, fun _ a2 H2 fs' na2 s2 ha2 fin' ok' => ?_⟩
    have len := ok.len
    have len' := ok'.len
    replace q := fun (H' : Hp) (s : Same H H') => q H' fs fs' s fin ok fin' ok'
    rw [wyV_sV] at ha1 ha2
    generalize hws : fs.map (·.2) ++ fs'.map (·.2) = ws at q
    have lws : ws.length ≤ 24 := by
      rw [← hws, List.length_append, List.length_map, List.length_map]
      omega
    have wok : ∀ u ∈ ws, Wd u ∧ u.length ≤ 12 := fun u hu => by
      rw [← hws] at hu
      rcases List.mem_append.mp hu with z | z
      · obtain ⟨k, hk, rfl⟩ := List.mem_map.mp z
        have := ok.wl k hk
        exact ⟨fin.wd k hk, by omega⟩
      · obtain ⟨k, hk, rfl⟩ := List.mem_map.mp z
        have := ok'.wl k hk
        exact ⟨fin'.wd k hk, by omega⟩
    walk_at "go"
    refine w_cat (s2.at ha1) ha2 (line_of (by rw [sV_len, sV_len, List.length_map, List.length_map]; omega)) (fun a3 H3 ha3 na3 => ?_)
    rw [sV_app, hws] at ha3
    walk_at "go"
    refine w_listL ha3 (fun a4 H4 ha4 na4 => ?_)
    have s4 : Same H H4 := ((s1.trans s2).nw na3).nw na4
    have ha3 := na4.at ha3
    walk_at "go"
    refine w_list (xs := sV ws) (fun i σ H5 => ∃ (y6 y7 : Option V) (wa : Addr), σ = [some (.ref p), some (.int x), some (.ref r), some (.int x'), some (.ref a3), some (.ref wa), y6, y7, none, none, none, none, none] ∧ Same H4 H5 ∧ H5 wa = some (.lst (sV (ws ++ (ws.take i).flatMap fun w => sg8.map fun c => w ++ one c)))) ⟨none, none, a4, rfl, Same.refl _, by rw [List.take_zero]; show H4 a4 = some (.lst (sV (ws ++ []))); rw [List.append_nil]; exact ha4⟩ (fun i σ H5 _ ⟨_, _, _, _, h, _⟩ => h.at ha3) ?_ ?_
    · rintro i v σ H5 hv ⟨y6, y7, wa, rfl, s5, hwa⟩
      obtain ⟨u, hu, rfl⟩ : ∃ u, ws[i]? = some u ∧ V.str u = v := by
        unfold sV at hv
        rw [List.getElem?_map, Option.map_eq_some_iff] at hv
        exact hv
      have hul := (wok u (List.mem_of_getElem? hu)).2
      walk_at "go"
      refine w_lcS (fun c j H6 => Same H5 H6 ∧ H5 c = none ∧ H6 c = some (.lst (sV ((sg8.take j).map fun d => u ++ one d)))) (fun c H6 hc nc => ⟨nc.same, nc.nn, hc⟩) ?_ ?_
      · rintro c j d H6 hd ⟨s6, nc, hc6⟩
        rw [show tl (Str.ofString "aAbBcCdD") = sg8 by decide +kernel] at hd
        walk_at "go"
        refine w_addS (line_of (by rw [len_one]; omega)) ?_
        refine w_kIt hc6 (by rw [sV_len, List.length_map, List.length_take]; refine lineLt_of (by have : sg8.length = 8 := rfl; omega)) (fun H7 h7 o7 => ⟨s6.off o7 nc, nc, ?_⟩)
        rw [h7, take_snoc hd, List.map_append, ← sV_app]
        rfl
      · rintro c H6 ⟨s6, nc, hc6⟩
        rw [show tl (Str.ofString "aAbBcCdD") = sg8 by decide +kernel, List.take_length] at hc6
        refine w_cat (s6.at hwa) hc6 (line_of ?_) (fun a7 H7 ha7 na7 => ?_)
        · rw [sV_len, sV_len, List.length_map]
          have := moreL_len ws i
          have : sg8.length = 8 := rfl
          omega
        walk_at "go"
        refine ⟨_, _, _, rfl, (s5.trans s6).nw na7, ?_⟩
        rw [ha7, sV_app, take_snoc hu, List.flatMap_append, List.append_assoc]
        show _ = some (HO.lst (sV (ws ++ ((ws.take i).flatMap _ ++ ((sg8.map fun d => u ++ one d) ++ [])))))
        rw [List.append_nil]
    · rintro σ H5 ⟨y6, y7, wa, rfl, s5, hwa⟩
      rw [sV_len, List.take_length] at hwa
      have s05 : Same H H5 := s4.trans s5
      have lmw : (moreW ws).length ≤ 216 := by
        have := moreL_len ws ws.length
        rw [List.take_length] at this
        show (ws ++ ws.flatMap _).length ≤ 216
        omega
      have mok : ∀ u ∈ moreW ws, Wd u ∧ u.length ≤ 13 := fun u hu => by
        rcases List.mem_append.mp hu with z | z
        · have := wok u z
          exact ⟨this.1, by omega⟩
        · obtain ⟨v, hv, z⟩ := List.mem_flatMap.mp z
          obtain ⟨d, hd, rfl⟩ := List.mem_map.mp z
          have := wok v hv
          refine ⟨fun c hc => ?_, by rw [len_snoc]; omega⟩
          rw [tl_append, tl_one] at hc
          rcases List.mem_append.mp hc with y | y
          · exact this.1 c y
          · rw [List.mem_singleton.mp y]
            have : ∀ d ∈ sg8, sgn d = true := by decide
            exact this d hd
      have hwa : H5 wa = some (.lst (sV (moreW ws))) := hwa
      generalize moreW ws = mw at hwa lmw mok q
      walk_at "go"
      refine w_lcL (xs := sV mw) (fun c i H6 => ∃ us, Same H5 H6 ∧ H5 c = none ∧ H6 c = some (.lst us) ∧ EnAt H6 us ((mw.take i).map (goE L L' x x')) ∧ us.length = i) (fun c H6 hc nc => ⟨[], nc.same, nc.nn, hc, .nil, rfl⟩) (fun c i H6 _ ⟨_, h, _⟩ => h.at hwa) ?_ ?_
      · rintro c i v H6 hv ⟨us, s6, nc, hc6, he6, hl6⟩
        obtain ⟨u, hu, rfl⟩ : ∃ u, mw[i]? = some u ∧ V.str u = v := by
          unfold sV at hv
          rw [List.getElem?_map, Option.map_eq_some_iff] at hv
          exact hv
        have hul := mok u (List.mem_of_getElem? hu)
        have him : i < mw.length := (List.getElem?_eq_some_iff.mp hu).1
        have s06 := s05.trans s6
        walk_at "go"
        refine w_lenS (line_of (by omega)) ?_
        walk_at "go"
        rw [decide_eq_true (by omega : (u.length : Int) ≤ 60)]
        walk_at "go"
        refine w_kMeth (s06.at hp) (wf_no _ _ (by decide +kernel) (by decide +kernel)) ?_
        walk_at "go"
        refine ⟨p, n, x, L, u, rfl, hW.same s06, hul.1, by omega, x0, x1, fun H7 s7 => ?_⟩
        walk_at "go"
        refine w_kMeth (s7.at (s06.at hr')) (wf_no _ _ (by decide +kernel) (by decide +kernel)) ?_
        walk_at "go"
        refine ⟨r, n', x', L', u, rfl, hW'.same (s06.trans s7), hul.1, by omega, x0', x1', fun H8 s8 => ?_⟩
        walk_at "go"
        refine w_newT (by walk_at "sz") (fun t9 H9 ht9 nt9 => ?_)
        have s69 : Same H6 H9 := (s7.trans s8).nw nt9
        have hc9 := s69.at hc6
        refine w_kIt hc9 (lineLt_of (by omega)) (fun H10 h10 o10 => ?_)
        have tc : t9 ≠ c := fun z => by rw [z] at ht9; rw [ht9] at hc9; cases hc9
        refine ⟨_, (s6.trans s69).off o10 nc, nc, h10, ?_, by rw [List.length_append, hl6]; rfl⟩
        rw [take_snoc hu, List.map_append]
        exact paired_snoc ⟨t9, rfl, o10.at tc ht9⟩ ((he6.tps (.of s69)).tps (Tps.refl.off hc9 o10))
      · rintro c H6 ⟨us, s6, nc, hc6, he6, hl6⟩
        rw [sV_len, List.take_length] at he6
        rw [sV_len] at hl6
        generalize hes : mw.map (goE L L' x x') = es at he6 q
        have les : es.length ≤ 216 := by rw [← hes, List.length_map]; exact lmw
        walk_at "go"
        refine w_list (xs := us) (fun i σ H7 => ∃ (y6 y9 y10 y11 y12 : Option V), σ = [some (.ref p), some (.int x), some (.ref r), some (.int x'), some (.ref a3), some (.ref wa), y6, y7, some (.ref c), y9, y10, y11, y12] ∧ Same H6 H7 ∧ ∀ a ∈ es.take i, (noneE a || !(es.all fun b => likeE a b)) = false) ⟨_, _, _, _, _, rfl, Same.refl _, fun a ha => by rw [List.take_zero] at ha; cases ha⟩ (fun i σ H7 _ ⟨_, _, _, _, _, _, h, _⟩ => h.at hc6) ?_ ?_
        · rintro i v σ H7 hv ⟨y6, y9, y10, y11, y12, rfl, s7, hall⟩
          obtain ⟨a, hai, t, rfl, ht⟩ := paired_get (he6.tps (.of s7)) hv
          have ham : a ∈ es := List.mem_of_getElem? hai
          have hq : (noneE a || !(es.all fun b => likeE a b)) = true → ∀ H', Same H H' → Q (.bl false) H' := fun hb H' s' => by
            have := q H' s'
            have e : likeB es = false := by
              unfold likeB
              rw [List.all_eq_false]
              exact ⟨a, ham, by rw [hb]; decide⟩
            rw [e] at this
            exact this
          have s07 := (s05.trans s6).trans s7
          walk_at "go"
          rw [oV_non, oV_non]
          have e1 : (!decide (decide (a.1 = none) = decide (a.2 = none))) = noneE a := by
            unfold noneE
            cases decide (a.1 = none) <;> cases decide (a.2 = none) <;> rfl
          rw [e1]
          refine w_orB (fun e => ?_) (fun e => ?_)
          · walk_at "go"
            exact hq (by rw [e]; rfl) _ s07
          · have hc7 := s7.at hc6
            walk_at "go"
            refine w_lcL (xs := us) (fun d j H8 => Same H7 H8 ∧ H7 d = none ∧ H8 d = some (.lst (((es.take j).map (likeE a)).map V.bl))) (fun d H8 hd nd => ⟨nd.same, nd.nn, hd⟩) (fun d j H8 _ h => h.1.at hc7) ?_ ?_
            · rintro d j v H8 hv ⟨s8, nd, hd8⟩
              obtain ⟨b, hbj, t2, rfl, ht2⟩ := paired_get ((he6.tps (.of s7)).tps (.of s8)) hv
              have hjl : j < es.length := (List.getElem?_eq_some_iff.mp hbj).1
              walk_at "go"
              refine ⟨oV_scal _ _, ?_⟩
              rw [oV_dec]
              walk_at "go"
              refine ⟨oV_scal _ _, ?_⟩
              rw [oV_dec]
              walk_at "go"
              refine w_kIt hd8 (by rw [List.length_map, List.length_map, List.length_take]; exact lineLt_of (by omega)) (fun H9 h9 o9 => ⟨s8.off o9 nd, nd, ?_⟩)
              rw [h9, take_snoc hbj, List.map_append, List.map_append]
              have e2 : decide (decide (a.1 = b.1) = decide (a.2 = b.2)) = likeE a b := by
                unfold likeE
                cases decide (a.1 = b.1) <;> cases decide (a.2 = b.2) <;> rfl
              rw [e2]
              rfl
            · rintro d H8 ⟨s8, nd, hd8⟩
              rw [show us.length = es.length from Paired.length he6, List.take_length] at hd8
              walk_at "go"
              refine w_all hd8 ?_
              have e3 : ((es.map (likeE a)).all id) = es.all fun b => likeE a b := by
                rw [List.all_map]
                rfl
              rw [e3]
              walk_at "go"
              refine w_ifB (fun e4 => ?_) (fun e4 => ?_)
              · walk_at "go"
                exact hq (by rw [e4, Bool.or_true]) _ (s07.trans s8)
              · walk_at "go"
                refine ⟨_, _, _, _, _, rfl, s7.trans s8, fun b hb => ?_⟩
                rw [take_snoc hai] at hb
                rcases List.mem_append.mp hb with z | z
                · exact hall b z
                · rw [List.mem_singleton.mp z, e, e4]
                  rfl
        · rintro σ H7 ⟨y6, y9, y10, y11, y12, rfl, s7, hall⟩
          rw [show us.length = es.length from Paired.length he6, List.take_length] at hall
          walk_at "go"
          have := q H7 ((s05.trans s6).trans s7)
          have e : likeB es = true := by
            unfold likeB
            rw [List.all_eq_true]
            exact fun a ha => by rw [hall a ha]; rfl
          rw [e] at this
          exact this
end
end Sf
namespace Sf
open PySem PySem.Spec PyProof.Rows L2 TL
theorem kit_no {K : PySem.W.Frag} {C : Addr} {T : String} (h1 : PySem.W.isClsIn K C = true) (h2 : PySem.W.typeIn K (.ref C) = some (.type "type")) (h3 : PySem.W.subIn K (.type T) (.ref C) = some false) : PySem.W.kitOne K (.type T) (.ref C) = some false := by
  unfold PySem.W.isClsIn at h1
  unfold PySem.W.kitOne
  rw [if_neg (by intro e; have := eq_of_beq e; cases this)]
  unfold PySem.W.kitCls
  dsimp only
  rw [h1, h2, if_pos (by simp), h3]
theorem sIx_lo {n : Nat} {c : Int} {d : Nat} (h0 : 0 ≤ c) (h1 : c ≤ n) : HT.sIx n d (some c) = c.toNat := by
  have e : (if c < 0 then (c + (n : Int)).toNat else min c.toNat n) = c.toNat := by
    rw [if_neg (by omega)]
    omega
  exact e
theorem cutV_take {us : List V} {d : Int} (h0 : 0 ≤ d) (h1 : d ≤ us.length) : cutV us none (some d) = us.take d.toNat := by
  unfold cutV
  have e : HT.sIx us.length 0 none = 0 := rfl
  rw [e, sIx_lo h0 h1]
  rfl
theorem cutV_from {us : List V} {d : Int} (h0 : 0 ≤ d) : cutV us (some d) none = us.drop d.toNat := by
  by_cases h1 : d ≤ us.length
  · unfold cutV
    have e : HT.sIx us.length us.length none = us.length := rfl
    rw [e, sIx_lo h0 h1]
    exact List.take_of_length_le (by rw [List.length_drop]; omega)
  · have e1 : us.drop d.toNat = [] := List.drop_of_length_le (by omega)
    have e2 : (cutV us (some d) none).length = 0 := by
      unfold cutV
      have e : HT.sIx us.length us.length none = us.length := rfl
      have e3 : HT.sIx us.length 0 (some d) = us.length := by
        unfold HT.sIx
        dsimp only
        rw [if_neg (by omega)]
        omega
      rw [e, e3, List.length_take, List.length_drop]
      omega
    rw [e1]
    exact List.eq_nil_of_length_eq_zero e2
theorem eqv_ref2 {H : Hp} {p q : Addr} {n : Nat} {xs ys : List V} (hp : H p = some (.lst xs)) (hq : H q = some (.lst ys)) (hl : xs.length = ys.length) (h1 : xs.length ≤ 100000) (h : ∀ (i : Nat) (x y : V), xs[i]? = some x → ys[i]? = some y → Eqv H n x y) : Eqv H (n + 1) (.ref p) (.ref q) := .inr ⟨p, q, xs, ys, rfl, rfl, .inl ⟨hp, hq⟩, hl, h1, h⟩
theorem eqv_two {H : Hp} {p q : Addr} {n : Nat} {a b c d : V} (hp : H p = some (.lst [a, b])) (hq : H q = some (.lst [c, d])) (h1 : Eqv H n a c) (h2 : Eqv H n b d) : Eqv H (n + 1) (.ref p) (.ref q) := eqv_ref2 hp hq rfl (by show 2 ≤ 100000; decide) fun i x y hx hy => by
  match i, hx, hy with
  | 0, hx, hy => cases hx; cases hy; exact h1
  | 1, hx, hy => cases hx; cases hy; exact h2
theorem WAt.fx {C : Addr} {H H' : Hp} {b l p : Addr} {n : Int} {L : Nat → List (Int × Int)} (h : WAt C H p n L) (hB : Bag H b l) (f : Fx b H H') : WAt C H' p n L := by
  obtain ⟨dx, pl, ld, d, hp, hpl, hL⟩ := h
  obtain ⟨ns, k, z, r, hB⟩ := hB
  have hb := hB.hb
  refine ⟨dx, pl, ld, d, f _ _ hp (ne_of hp hb (by intro z; cases z)), f _ _ hpl fun z => ?_, f _ _ hL.hd (ne_of hL.hd hb (by intro z; cases z)), fun c hc => f _ _ (hL.hc c hc) (ne_of (hL.hc c hc) hb (by intro z; cases z))⟩
  rw [z, hb] at hpl
  rw [rgV_plc] at hpl
  have e := HO.lst.inj (Option.some.inj hpl)
  cases hq : plc n with
  | nil => rw [hq] at e; cases e
  | cons x xs => rw [hq] at e; cases e
theorem WOk.cut {n : Int} {ms : List Mv} (h : WOk n ms) (i : Nat) : WOk n (ms.take i ++ ms.drop (i + 1)) := by
  have sub : (ms.take i ++ ms.drop (i + 1)).Sublist ms := by
    have h1 : (ms.drop (i + 1)).Sublist (ms.drop i) := List.drop_sublist_drop_left ms (by omega)
    have h2 : (ms.take i ++ ms.drop (i + 1)).Sublist (ms.take i ++ ms.drop i) := List.Sublist.append_left h1 _
    rw [List.take_append_drop] at h2
    exact h2
  exact ⟨fun m hm => h.rg m (sub.subset hm), h.pw.sublist sub⟩
theorem few_ab {n : Int} {ms : List Mv} (ok : WOk n ms) (h : ∀ m ∈ ms, m.1 ≤ 98) : ∀ c ∈ sgs, c ∉ sg8 → LM ms c = [] := fun c hc h8 => by
  rw [List.eq_nil_iff_forall_not_mem]
  intro q hq
  obtain ⟨m, hm, e⟩ := LM_mem.mp hq
  have r1 := ok.rg m hm
  have r2 := h m hm
  refine h8 ?_
  unfold sg8
  simp only [List.mem_cons, List.not_mem_nil, or_false]
  rcases e with ⟨e, _⟩ | ⟨_, e, _⟩ <;> omega
theorem ren_rg {L : Nat → List (Int × Int)} {ks : List Int} (hcl : ∀ c ∈ sgs, ∀ q ∈ L c, q.1 ∈ ks → q.2 ∈ ks) : LRg (ks.length : Int) (renL ks L) := fun c hc q hq => by
  unfold renL renM at hq
  obtain ⟨u, hu, rfl⟩ := List.mem_map.mp hq
  rw [List.mem_filter] at hu
  have h1 := of_decide_eq_true hu.2
  have a := rk_rg h1
  have b := rk_rg (hcl c hc u hu.1 h1)
  exact ⟨a.1, a.2, b.1, b.2⟩
theorem ren_len {ks : List Int} {L : Nat → List (Int × Int)} {c m : Nat} (h : (L c).length ≤ m) : (renL ks L c).length ≤ m := Nat.le_trans (renM_len ks (L c)) h
/-- a world, its numbers and moves -/
structure Wok (n : Int) (L : Nat → List (Int × Int)) : Prop where
  rg : LRg n L
  nd : LNd L
  few : ∀ c ∈ sgs, c ∉ sg8 → L c = []
  sz : ∀ c ∈ sgs, (L c).length ≤ 10000
theorem Wok.of {n : Int} {ms : List Mv} (ok : WOk n ms) (h : ∀ m ∈ ms, m.1 ≤ 98) (hl : ms.length ≤ 10000) : Wok n (LM ms) := ⟨LM_rg ok, LM_nd ok, few_ab ok h, fun c _ => Nat.le_trans (LM_len ms c) hl⟩
theorem Wok.two {n x : Int} {L : Nat → List (Int × Int)} (h : Wok n L) {fs : List Fd} (fin : FinB L x fs) (ok : FsOk n fs) : Two L x n fs := ⟨fin, ok, h.nd, h.few⟩
theorem eqB {a b : Nat} {c : Bool} (h1 : a = b) (h2 : c = true) : (decide ((a : Int) = (b : Int)) && c) = true := by
  subst h1
  rw [h2, decide_eq_true rfl]
  rfl
theorem like_eq {L L' : Nat → List (Int × Int)} {x x' n n' : Int} {fs fs' : List Fd} (A : Two L x n fs) (B : Two L' x' n' fs') :
    likeB ((moreW (fs.map (·.2) ++ fs'.map (·.2))).map (goE L L' x x')) = (decide ((fs.length : Int) = (fs'.length : Int)) && ldB (renL (fs.map (·.1)) L) (renL (fs'.map (·.1)) L')) := by
  rw [Bool.eq_iff_iff, likeB_true A B, Bool.and_eq_true, decide_eq_true_eq]
  exact and_congr ⟨fun h => by omega, fun h => by omega⟩ Iff.rfl
theorem two_other {n n' x : Int} {ms ms' : List Mv} {fs fs' : List Fd} {φ : Int → Int} (ok : WOk n ms) (ok' : WOk n' ms') (hp : ms'.Perm (phM φ ms)) (inj : ∀ x y, 0 ≤ x ∧ x < n → 0 ≤ y ∧ y < n → φ x = φ y → x = y) (hx : 0 ≤ x ∧ x < n) (h : FinB (LM ms) x fs) (h' : FinB (LM ms') (φ x) fs') :
    (decide ((fs.length : Int) = (fs'.length : Int)) && ldB (renL (fs.map (·.1)) (LM ms)) (renL (fs'.map (·.1)) (LM ms'))) = true := by
  have iso := iso_moves ok hp inj ok'
  have hf := iso.fin hx h h'
  refine eqB (by rw [hf.1]; unfold phF; rw [List.length_map]) ?_
  rw [ldB_iff (ren_nd (LM_nd ok)) (ren_nd (LM_nd ok'))]
  intro c hc j
  have ek : fs'.map (·.1) = (fs.map (·.1)).map φ := by rw [hf.1, phF_keys]
  have hcl := fun c hc => h'.cl (LM_nd ok') (c := c) hc
  rw [ek] at hcl ⊢
  exact (iso.ren hf.2 (LM_nd ok) (LM_nd ok') (fun c hc => h.cl (LM_nd ok) hc) hcl hc j).symm
theorem ab_cut {d : Int} (h0 : 0 ≤ d) (h1 : d < 2) : (∀ c ∈ tl (cutS (Str.ofString "ab") none (some (1 + d))), 97 ≤ c ∧ c ≤ 98) ∧ (tl (cutS (Str.ofString "ab") none (some (1 + d)))).Nodup ∧ (tl (cutS (Str.ofString "ab") none (some (1 + d)))).length ≤ 8 := by
  obtain rfl | rfl : d = 0 ∨ d = 1 := by omega
  · exact ⟨by decide +kernel, by decide +kernel, by decide +kernel⟩
  · exact ⟨by decide +kernel, by decide +kernel, by decide +kernel⟩
section
variable {P : Program} {w : World} {K : PySem.W.Frag} {mg : Str → Option Value} {base : Heap} {C CNoPlace : Addr} {dv dw dg : Tok}
def spLaw (K : PySem.W.Frag) : Sp := fun vs H Q _ => ∃ (a : Addr) (ns : List Int), vs = [.ref a] ∧ SqL K H a (ns.map V.int) ∧ ns.length ≤ 63 ∧ ∀ H', Q (.bl true) H'
theorem sc_law : FnScope ["_law_script", "_law_bag", "_law_turn", "_law_many", "_law_moves", "_law_world_here", "_law_size", "_law_rows", "_law_places", "_law_other", "_law_place", "_law_seen", "_law_at", "_law_third", "_law_one", "_law_spot", "_law_due"] ["_law_script"] (defScope s_law) := ⟨rfl, rfl, rfl, by decide +kernel, rfl, by decide +kernel, by decide +kernel⟩
theorem ok_law {f : Addr} {fd : FuncData} (F : Fun K "law" "law" s_law f fd) (B : Blt mg) (T_World : WC K mg C) (mk : PySem.W.makesIn K C = true) (kc : PySem.W.keepIn K (.ref C) = true)
    (kN : PySem.W.kitOne K (.type "NoneType") (.ref C) = some false) (kS : PySem.W.kitOne K (.type "str") (.ref C) = some false) (nN : PySem.W.notFirst K C (.type "NoneType") = true) (nS : PySem.W.notFirst K C (.type "str") = true)
    (h_Be : HasBegin P w K mg base) (h_Pu : HasPull P w K mg base) (h_Lw : HasLw P w K mg base) (h_Sa : HasSame P w K mg base 2) (h_Oth : Has P w K mg base 3 "_law_otherwise" ["_law_bag", "_law_many", "_law_moves"] spOth) (h_Ga : Has P w K mg base 6 "_law_go_alike" ["_law_one", "_law_first", "_law_other", "_law_second"] (spGa C))
    (h_WI : HasM P w K mg base C 4 "__init__" ["self", "many", "moves"] (spWI C)) (h_WEq : HasM P w K mg base C 1 "__eq__" ["self", "other"] (spWEq K C)) (h_Se : HasMXD P w K mg base C 7 "seen" ["self", "place"] (.int 0 dv) (spSeX C CNoPlace)) : FnOk P w K mg base CX0 10 f fd ["_law_script"] (spLaw K) := by
  obtain ⟨f_Be, fd_Be, g_Be, k_Be, b_Be, G_Be⟩ := h_Be
  obtain ⟨f_Pu, fd_Pu, g_Pu, k_Pu, b_Pu, G_Pu⟩ := h_Pu
  obtain ⟨f_Lw, fd_Lw, g_Lw, k_Lw, b_Lw, G_Lw⟩ := h_Lw
  obtain ⟨f_Sa, fd_Sa, g_Sa, k_Sa, b_Sa, G_Sa⟩ := h_Sa
  obtain ⟨f_Oth, fd_Oth, g_Oth, k_Oth, b_Oth, G_Oth⟩ := h_Oth
  obtain ⟨f_Ga, fd_Ga, g_Ga, k_Ga, b_Ga, G_Ga⟩ := h_Ga
  obtain ⟨f_WI, fd_WI, m_WI, b_WI, G_WI⟩ := h_WI
  obtain ⟨f_WEq, fd_WEq, m_WEq, b_WEq, G_WEq⟩ := h_WEq
  obtain ⟨f_Se, fd_Se, m_Se, b_Se, bd_Se, G_Se⟩ := h_Se
  have M_WI : Mk K C f_WI := ⟨mk, m_WI.at_, m_WI.fn, kc⟩
  have g_World := T_World.mgC
  refine F.ok sc_law (fun vs H Q E h => ?_) (fun cdv A outer s H vs Q E hr h => ?_)
  · obtain ⟨a, ns, rfl, _⟩ := h
    rfl
  · obtain ⟨a, ns, rfl, hS, hlen, q⟩ := h
    refine ⟨_, (pss_cons (ps_set (i := 1) sc_law.nd rfl (.inl rfl) (pe_call G_Be (hr.mono (by decide)) (by rfl) g_Be k_Be b_Be .nil pass0 (pa_cons (pv 0) pa_nil))) (pss_cons (ps_for PassesOwn.never rfl (pi_range1 rfl B.range (pa_cons pe_int pa_nil)) (pg_name (i := 2) sc_law.nd rfl (.inl rfl)) (pss_cons (ps_asg (pe_call G_Lw (hr.mono (by decide)) (by rfl) g_Lw k_Lw b_Lw .nil pass0 (pa_cons (pv 1) (pa_cons pe_int (pa_cons (pe_slice sl_str pe_str po_none (po_some (pe_op op_add pe_int (pe_call G_Pu (hr.mono (by decide)) (by rfl) g_Pu k_Pu b_Pu .nil pass0 (pa_cons (pv 1) (pa_cons pe_int pa_nil)))))) pa_nil)))) (pg_tup rfl (pgs_cons (pg_name (i := 3) sc_law.nd rfl (.inl rfl)) (pgs_cons (pg_name (i := 4) sc_law.nd rfl (.inl rfl)) pgs_nil)))) (pss_cons (ps_set (i := 5) sc_law.nd rfl (.inl rfl) (pe_make M_WI G_WI (hr.mono (by decide)) (by rfl) g_World b_WI .nil pass0 (pa_cons (pv 3) (pa_cons (pv 4) pa_nil)))) (pss_cons (ps_asg (pe_call G_Oth (hr.mono (by decide)) (by rfl) g_Oth k_Oth b_Oth .nil pass0 (pa_cons (pv 1) (pa_cons (pv 3) (pa_cons (pv 4) pa_nil)))) (pg_tup rfl (pgs_cons (pg_name (i := 6) sc_law.nd rfl (.inl rfl)) (pgs_cons (pg_name (i := 7) sc_law.nd rfl (.inl rfl)) (pgs_cons (pg_name (i := 8) sc_law.nd rfl (.inl rfl)) pgs_nil))))) (pss_cons (ps_set (i := 9) sc_law.nd rfl (.inl rfl) (pe_make M_WI G_WI (hr.mono (by decide)) (by rfl) g_World b_WI .nil pass0 (pa_cons (pv 6) (pa_cons (pv 7) pa_nil)))) (pss_cons (ps_set (i := 10) sc_law.nd rfl (.inl rfl) (pe_call G_Pu (hr.mono (by decide)) (by rfl) g_Pu k_Pu b_Pu .nil pass0 (pa_cons (pv 1) (pa_cons (pv 3) pa_nil)))) (pss_cons (ps_set (i := 11) sc_law.nd rfl (.inl rfl) (pe_meth (pv 5) T_World.cl m_Se G_Se (hr.mono (by decide)) b_Se .nil (passes_call (E := E0) takes0 (fun _ _ _ _ h => h)) (pa_cons (pv 10) pa_nil))) (pss_cons (ps_if (PW.pt (pw_or (pt_cmpR (op_neN G_WEq m_WEq.at_ m_WEq.fn b_WEq T_World.ne T_World.hm (hr.mono (by decide))) (pv 11) (pe_meth (pv 9) T_World.cl m_Se G_Se (hr.mono (by decide)) b_Se .nil (passes_call (E := E0) takes0 (fun _ _ _ _ h => h)) (pa_cons (pe_ix ix_list (pv 8) (pv 10) (fun _ _ => rfl)) pa_nil)) (nomark _)) (pw_or (pt_cmpR (op_neN G_WEq m_WEq.at_ m_WEq.fn b_WEq T_World.ne T_World.hm (hr.mono (by decide))) (pe_meth0 (pv 11) T_World.cl m_Se G_Se (hr.mono (by decide)) bd_Se vals_i (passes_call (E := E0) takes0 (fun _ _ _ _ h => h))) (pv 11) (nomark _)) (pw_or1 (pt_cmpR (op_eqOt (C := C) G_WEq m_WEq.at_ m_WEq.fn b_WEq (hr.mono (by decide))) (pe_meth (pv 11) T_World.cl m_Se G_Se (hr.mono (by decide)) b_Se .nil (passes_call (E := E0) takes0 (fun _ _ _ _ h => h)) (pa_cons pe_int pa_nil)) pe_non (nomark _)))))) (pss_one (ps_ret pe_bl)) pss_nil) (pss_cons (ps_set (i := 12) sc_law.nd rfl (.inl rfl) (pe_call G_Pu (hr.mono (by decide)) (by rfl) g_Pu k_Pu b_Pu .nil pass0 (pa_cons (pv 1) (pa_cons (pe_op op_add (pe_callB call_lenQ (by rfl) B.len PySem.boot_len (pa_cons (pv 4) pa_nil)) pe_int) pa_nil)))) (pss_cons (ps_set (i := 13) sc_law.nd rfl (.inl rfl) (pe_make M_WI G_WI (hr.mono (by decide)) (by rfl) g_World b_WI .nil pass0 (pa_cons (pv 3) (pa_cons (pe_op op_cat (pe_slice sl_list (pv 4) po_none (po_some (pv 12))) (pe_slice sl_list (pv 4) (po_some (pe_op op_add (pv 12) pe_int)) po_none)) pa_nil)))) (pss_one (ps_for PassesOwn.never rfl (pi_list (pe_lst (pa_cons (pe_tup (pa_cons (pv 5) (pa_cons (pe_call G_Pu (hr.mono (by decide)) (by rfl) g_Pu k_Pu b_Pu .nil pass0 (pa_cons (pv 1) (pa_cons (pv 3) pa_nil))) pa_nil))) (pa_cons (pe_tup (pa_cons (pv 13) (pa_cons (pv 10) pa_nil))) pa_nil)))) (pg_tup rfl (pgs_cons (pg_name (i := 14) sc_law.nd rfl (.inl rfl)) (pgs_cons (pg_name (i := 15) sc_law.nd rfl (.inl rfl)) pgs_nil))) (pss_cons (ps_set (i := 16) sc_law.nd rfl (.inl rfl) (pe_call G_Ga (hr.mono (by decide)) (by rfl) g_Ga k_Ga b_Ga .nil pass0 (pa_cons (pv 5) (pa_cons (pv 10) (pa_cons (pv 14) (pa_cons (pv 15) pa_nil)))))) (pss_one (ps_if (pt_not (pt_val (pe_call G_Sa (hr.mono (by decide)) (by rfl) g_Sa k_Sa b_Sa .nil pass0 (pa_cons (pe_lst (pa_cons (pe_cmpR (op_eqN G_WEq m_WEq.at_ m_WEq.fn b_WEq (hr.mono (by decide))) (pv 11) (pe_meth (pv 14) T_World.cl m_Se G_Se (hr.mono (by decide)) b_Se .nil (passes_call (E := E0) takes0 (fun _ _ _ _ h => h)) (pa_cons (pv 15) pa_nil)) (nomark _)) (pa_cons (pe_cmpR (op_neN G_WEq m_WEq.at_ m_WEq.fn b_WEq T_World.ne T_World.hm (hr.mono (by decide))) (pv 11) (pe_meth (pv 14) T_World.cl m_Se G_Se (hr.mono (by decide)) b_Se .nil (passes_call (E := E0) takes0 (fun _ _ _ _ h => h)) (pa_cons (pv 15) pa_nil)) (nomark _)) pa_nil))) (pa_cons (pe_lst (pa_cons (pv 16) (pa_cons (pe_not (pv 16)) pa_nil))) pa_nil))))) (pss_one (ps_ret pe_bl)) pss_nil))))))))))))))) (pss_one (ps_ret (pe_and (pe_cmpR (op_neN G_WEq m_WEq.at_ m_WEq.fn b_WEq T_World.ne T_World.hm (hr.mono (by decide))) (pe_make M_WI G_WI (hr.mono (by decide)) (by rfl) g_World b_WI .nil pass0 (pa_cons pe_int (pa_cons (pe_lst pa_nil) pa_nil))) (pe_make M_WI G_WI (hr.mono (by decide)) (by rfl) g_World b_WI .nil pass0 (pa_cons pe_int (pa_cons (pe_lst pa_nil) pa_nil))) (nomark _)) (pe_one (pe_not (pe_cmpR (op_eqOt (C := C) G_WEq m_WEq.at_ m_WEq.fn b_WEq (hr.mono (by decide))) (pe_make M_WI G_WI (hr.mono (by decide)) (by rfl) g_World b_WI .nil pass0 (pa_cons pe_int (pa_cons (pe_lst pa_nil) pa_nil))) pe_str (nomark _))))))))), ?_⟩
    walk_at "go"
    refine ⟨a, ns, rfl, hS, fun b l H1 nb B1 s1 => ?_⟩
    walk_at "go"
    refine w_kRng1 (by decide) (by decide) ?_
    refine w_range (fun i σ H2 => ∃ (y2 y3 y4 y5 y6 y7 y8 y9 y10 y11 y12 y13 y14 y15 y16 : Option V), σ = [some (.ref a), some (.ref b), y2, y3, y4, y5, y6, y7, y8, y9, y10, y11, y12, y13, y14, y15, y16] ∧ Bag H2 b l) ⟨none, none, none, none, none, none, none, none, none, none, none, none, none, none, none, rfl, B1⟩ ?_ ?_
    · rintro i σ H2 hi ⟨y2, y3, y4, y5, y6, y7, y8, y9, y10, y11, y12, y13, y14, y15, y16, rfl, B2⟩
      walk_at "go"
      refine ⟨b, l, 2, rfl, B2, by decide, by decide, fun d H3 d0 d1 B3 f3 => ?_⟩
      obtain ⟨z1, z2, z3⟩ := ab_cut d0 d1
      walk_at "go"
      refine w_slS (by decide +kernel) ?_
      walk_at "go"
      refine ⟨b, l, 6, _, rfl, B3, by decide, by decide, fun c hc => by have := z1 c hc; omega, z2, z3, fun t f n us ms H5 ht5 hf5 hm5 ok n1 n6 hml hin B5 f5 nf nfb nfl => ?_⟩
      have hab : ∀ m ∈ ms, m.1 ≤ 98 := fun m hm => (z1 _ (hin m hm)).2
      walk_at "go"
      refine w_world hf5 hm5 ok (by omega) n1 (by omega) (fun p H6 G6 hW6 sG6 hG6 s6 => ?_)
      have B6 := B5.same s6
      have nGb : ∀ q o, G6 q = some o → q ≠ b := fun q o e => B5.ne (hG6 q o e)
      have wk := Wok.of ok hab (by omega)
      walk_at "go"
      refine ⟨b, l, f, n, us, ms, rfl, B6, s6.at hf5, hm5.tps (.of s6), nfb, ok, by omega, n1, by omega, fun t7 rw pl H7 n' us' ms' ls ht7 hrw7 hm7 pms lnd lrg ln nn' nn2 hpl7 rwb plb t7b B7 f7 => ?_⟩
      have inj : ∀ x y, 0 ≤ x ∧ x < n → 0 ≤ y ∧ y < n → byN ls x = byN ls y → x = y := fun x y hx hy e => byN_inj lnd ⟨hx.1, by omega⟩ ⟨hy.1, by omega⟩ e
      have brg : ∀ x, 0 ≤ x ∧ x < n → 0 ≤ byN ls x ∧ byN ls x < n' := fun x hx => lrg _ (List.mem_of_getElem? (byN_get hx.1 (by omega)))
      have ok' : WOk n' ms' := (ok_moves ok inj brg).perm pms
      have hab' : ∀ m ∈ ms', m.1 ≤ 98 := fun m hm => by
        obtain ⟨k, hk, rfl⟩ := List.mem_map.mp (pms.mem_iff.mp hm)
        exact hab k hk
      have hml' : ms'.length ≤ 8000 := by rw [pms.length_eq]; unfold phM; rw [List.length_map]; exact hml
      have wk' := Wok.of ok' hab' (by omega)
      have sG7 : Same G6 H7 := fun q o e => f7 q o (sG6 q o e) (nGb q o e)
      have hf7 := f7.at nfb (s6.at hf5)
      have hm57 : MvsAt H7 us ms := (hm5.tps (.of s6)).tps (.fx B6 f7)
      walk_at "go"
      refine w_world hrw7 hm7 ok' (by omega) (by omega) (by omega) (fun p8 H8 G8 hW8 sG8 hG8 s8 => ?_)
      have B8 := B7.same s8
      have nGb8 : ∀ q o, G8 q = some o → q ≠ b := fun q o e => B7.ne (hG8 q o e)
      walk_at "go"
      refine ⟨b, l, n, rfl, B8, by omega, by omega, fun x H9 x0 x1 B9 f9 => ?_⟩
      have sG9 : Same G6 H9 := fun q o e => f9 q o (s8 q o (sG7 q o e)) (nGb q o e)
      have sG89 : Same G8 H9 := fun q o e => f9 q o (sG8 q o e) (nGb8 q o e)
      have hW9 := hW6.same sG9
      have hW9' := hW8.same sG89
      have hf9 := f9.at nfb (s8.at hf7)
      have hm9 : MvsAt H9 us ms := (hm57.tps (.of s8)).tps (.fx B8 f9)
      have hpl9 := f9.at plb (s8.at hpl7)
      have ⟨dxp, plp, ldp, ddp, hp9, _⟩ := hW9
      have ⟨dxo, plo, ldo, ddo, hp9', _⟩ := hW9'
      walk_at "go"
      refine w_kMeth hp9 (wf_no _ _ (by decide +kernel) (by decide +kernel)) ?_
      walk_at "go"
      refine ⟨p, n, x, LM ms, rfl, hW9, wk.rg, wk.nd, wk.sz, by omega, by omega, by omega, fun h => absurd ⟨x0, x1⟩ h, fun _ r10 H10 fs nr10 s10 hW10 fin ok10 => ?_⟩
      have TW := wk.two fin ok10
      have l10 := ok10.len
      have ⟨dxs, pls, lds, dds, hp10, _⟩ := hW10
      walk_at "go"
      refine w_kMeth (s10.at hp9') (wf_no _ _ (by decide +kernel) (by decide +kernel)) ?_
      walk_at "go"
      refine w_ixL (s10.at hpl9) (byN_atI x0 (by omega)) ?_
      walk_at "go"
      have hb := brg x ⟨x0, x1⟩
      refine ⟨p8, n', byN ls x, LM ms', rfl, hW9'.same s10, wk'.rg, wk'.nd, wk'.sz, by omega, by omega, by omega, fun h => absurd hb h, fun _ r11 H11 fs' nr11 s11 hW11 fin' ok11 => ?_⟩
      have ⟨dxt, plt, ldt, ddt, hp11, _⟩ := hW11
      have sW := hW10.same s11
      refine w_neOwn (s11.at hp10) hp11 ⟨r10, _, _, _, rfl, hW10.same s11, by omega, .inl ⟨r11, _, _, rfl, hW11, by omega, ren_nd wk.nd, ?_⟩⟩
      rw [two_other ok ok' pms inj ⟨x0, x1⟩ fin fin']
      refine w_kNeOwnT ?_
      walk_at "go"
      have hcl := fun c hc => fin.cl wk.nd (c := c) hc
      have kl : ((fs.map (·.1)).length : Int) = (fs.length : Int) := by rw [List.length_map]
      have rrg : LRg (fs.length : Int) (renL (fs.map (·.1)) (LM ms)) := by rw [← kl]; exact ren_rg hcl
      have rsz : ∀ c ∈ sgs, (renL (fs.map (·.1)) (LM ms) c).length ≤ 10000 := fun c hc => ren_len (wk.sz c hc)
      obtain ⟨th, eh⟩ := fin.head
      have lpos : 0 < fs.length := by rw [eh]; exact Nat.succ_pos _
      refine w_kMeth (s11.at hp10) (wf_no _ _ (by decide +kernel) (by decide +kernel)) ?_
      walk_at "go"
      refine ⟨r10, _, 0, _, rfl, hW10.same s11, rrg, ren_nd wk.nd, rsz, by omega, by omega, by omega, fun h => absurd (by omega) h, fun _ r12 H12 gs nr12 s12 hW12 fin12 ok12 => ?_⟩
      have ag := TW.again fin12
      have ⟨dxu, plu, ldu, ddu, hp12, _⟩ := hW12
      walk_at "go"
      refine w_neOwn hp12 (s12.at (s11.at hp10)) ⟨r12, _, _, _, rfl, hW12, by omega, .inl ⟨r10, _, _, rfl, (hW10.same s11).same s12, by omega, ren_nd (ren_nd wk.nd), ?_⟩⟩
      rw [eqB ag.1.symm ag.2]
      refine w_kNeOwnT ?_
      walk_at "go"
      refine w_kMeth (s12.at (s11.at hp10)) (wf_no _ _ (by decide +kernel) (by decide +kernel)) ?_
      walk_at "go"
      refine ⟨r10, _, 0, _, rfl, (hW10.same s11).same s12, rrg, ren_nd wk.nd, rsz, by omega, by omega, by omega, fun h => absurd (by omega) h, fun _ r13 H13 gs' nr13 s13 hW13 fin13 ok13 => ?_⟩
      have ⟨dxv, plv, ldv, ddv, hp13, _⟩ := hW13
      walk_at "go"
      refine w_eqOt hp13 (.base .non) nN ⟨r13, .non, _, _, rfl, hW13, by omega, .inr ⟨_, .base .non, kN, w_kEqOwn ?_⟩⟩
      walk_at "go"
      have s913 : Same H9 H13 := ((s10.trans s11).trans s12).trans s13
      have hf13 := s913.at hf9
      have lus : us.length = ms.length := Paired.length hm9
      have B13 := B9.same s913
      walk_at "go"
      refine ⟨b, l, (us.length : Int) + 1, rfl, B13, by omega, by omega, fun e H14 e0 e1 B14 f14 => ?_⟩
      have hf14 := f14.at nfb hf13
      have hm14 : MvsAt H14 us ms := (hm9.tps (.of s913)).tps (.fx B13 f14)
      walk_at "go"
      refine w_slL hf14 (fun c1 H15 hc1 nc1 => ?_)
      walk_at "go"
      refine w_slL (nc1.at hf14) (fun c2 H16 hc2 nc2 => ?_)
      rw [cutV_take e0 (by omega)] at hc1
      rw [cutV_from (by omega)] at hc2
      refine w_cat (nc2.at hc1) hc2 (line_of (by rw [List.length_take, List.length_drop]; omega)) (fun c3 H17 hc3 nc3 => ?_)
      have s1417 : Same H14 H17 := (nc1.same.nw nc2).nw nc3
      rw [show (e + 1).toNat = e.toNat + 1 by omega] at hc3
      have hm17 : MvsAt H17 (us.take e.toNat ++ us.drop (e.toNat + 1)) (ms.take e.toNat ++ ms.drop (e.toNat + 1)) := paired_app (paired_take (hm14.tps (.of s1417)) _) (paired_drop (hm14.tps (.of s1417)) _)
      have ok3 := ok.cut e.toNat
      have ml3 : (ms.take e.toNat ++ ms.drop (e.toNat + 1)).length ≤ 8000 := by
        rw [List.length_append, List.length_take, List.length_drop]
        omega
      have hab3 : ∀ m ∈ ms.take e.toNat ++ ms.drop (e.toNat + 1), m.1 ≤ 98 := fun m hm => by
        rcases List.mem_append.mp hm with z | z
        · exact hab m (List.mem_of_mem_take z)
        · exact hab m (List.mem_of_mem_drop z)
      have wk3 := Wok.of ok3 hab3 (by omega)
      walk_at "go"
      refine w_world hc3 hm17 ok3 (by omega) n1 (by omega) (fun p18 H18 G18 hW18 sG18 hG18 s18 => ?_)
      have B17 := B14.same s1417
      have B18 := B17.same s18
      have nGb18 : ∀ q o, G18 q = some o → q ≠ b := fun q o e => B17.ne (hG18 q o e)
      walk_at "go"
      refine ⟨b, l, n, rfl, B18, by omega, by omega, fun sp H19 sp0 sp1 B19 f19 => ?_⟩
      have sG1419 : Same G6 H19 := fun q o e => f19 q o (s18 q o (s1417 q o (f14 q o (s913 q o (sG9 q o e)) (nGb q o e)))) (nGb q o e)
      have hW19 := hW6.same sG1419
      have hW19' := hW18.same (fun q o e => f19 q o (sG18 q o e) (nGb18 q o e))
      walk_at "go"
      refine w_newT (by walk_at "sz") (fun t20 H20 ht20 nt20 => ?_)
      walk_at "go"
      refine w_newT (by walk_at "sz") (fun t21 H21 ht21 nt21 => ?_)
      walk_at "go"
      refine w_newL (by walk_at "sz") (fun lo H22 hlo nlo => ?_)
      have s1922 : Same H19 H22 := (nt20.same.nw nt21).nw nlo
      have B22 := B19.same s1922
      walk_at "go"
      refine w_list (xs := [.ref t20, .ref t21]) (fun i' σ H23 => ∃ (y14 y15 y16 : Option V), σ = [some (.ref a), some (.ref b), some (.int (0 + (i : Int))), some (.int n), some (.ref f), some (.ref p), some (.int n'), some (.ref rw), some (.ref pl), some (.ref p8), some (.int x), some (.ref r10), some (.int e), some (.ref p18), y14, y15, y16] ∧ Same H22 H23) ⟨_, _, _, rfl, Same.refl _⟩ (fun i σ H23 _ ⟨_, _, _, _, h⟩ => h.at hlo) ?_ ?_
      · rintro i' v σ H23 hv ⟨y14, y15, y16, rfl, s23⟩
        have s1923 := s1922.trans s23
        obtain ⟨t, pw, s, L1, rfl, ht, hWo, wko, s0, s1⟩ : ∃ (t pw : Addr) (s : Int) (L1 : Nat → List (Int × Int)), v = .ref t ∧ H23 t = some (.tup [.ref pw, .int s]) ∧ WAt C H23 pw n L1 ∧ Wok n L1 ∧ 0 ≤ s ∧ s < n := by
          match i', hv with
          | 0, hv =>
            cases hv
            exact ⟨_, _, _, _, rfl, s23.at (nlo.at (nt21.at ht20)), hW19.same s1923, wk, sp0, sp1⟩
          | 1, hv =>
            cases hv
            exact ⟨_, _, _, _, rfl, s23.at (nlo.at ht21), hW19'.same s1923, wk3, x0, x1⟩
        have ⟨dxw, plw, ldw, ddw, hpw, _⟩ := hWo
        have hWs : WAt C H23 r10 (fs.length : Int) (renL (fs.map (·.1)) (LM ms)) := (((((((hW10.same s11).same s12).same s13).fx B13 f14).same s1417).same s18).fx B18 f19).same s1923
        have ⟨_, _, _, _, hps, _⟩ := hWs
        walk_at "go"
        refine ⟨p, pw, n, n, x, s, LM ms, L1, rfl, hW19.same s1923, hWo, wk.rg, wko.rg, by omega, by omega, x0, x1, s0, s1, fun H24 fs2 fs3 s24 fin2 okf2 fin3 okf3 => ?_⟩
        have e2 := fin2.one fin
        rw [e2, like_eq TW (wko.two fin3 okf3)]
        generalize hv : (decide ((fs.length : Int) = (fs3.length : Int)) && ldB (renL (fs.map (·.1)) (LM ms)) (renL (fs3.map (·.1)) L1)) = bv
        walk_at "go"
        refine w_kMeth (s24.at hpw) (wf_no _ _ (by decide +kernel) (by decide +kernel)) ?_
        walk_at "go"
        refine ⟨pw, n, s, L1, rfl, hWo.same s24, wko.rg, wko.nd, wko.sz, by omega, by omega, by omega, fun h => absurd ⟨s0, s1⟩ h, fun _ r25 H25 fs4 nr25 s25 hW25 fin4 ok4 => ?_⟩
        have e4 := fin4.one fin3
        rw [e4] at hW25
        have ⟨_, _, _, _, hp25, _⟩ := hW25
        refine w_eqOwn (s25.at (s24.at hps)) hp25 ⟨r10, _, _, _, rfl, (hWs.same s24).same s25, by omega, .inl ⟨r25, _, _, rfl, hW25, by omega, ren_nd wk.nd, w_kEqOwn ?_⟩⟩
        rw [hv]
        walk_at "go"
        have s2325 := s24.trans s25
        refine w_kMeth (s2325.at hpw) (wf_no _ _ (by decide +kernel) (by decide +kernel)) ?_
        walk_at "go"
        refine ⟨pw, n, s, L1, rfl, hWo.same s2325, wko.rg, wko.nd, wko.sz, by omega, by omega, by omega, fun h => absurd ⟨s0, s1⟩ h, fun _ r26 H26 fs5 nr26 s26 hW26 fin5 ok5 => ?_⟩
        have e5 := fin5.one fin3
        rw [e5] at hW26
        have ⟨_, _, _, _, hp26, _⟩ := hW26
        refine w_neOwn (s26.at (s2325.at hps)) hp26 ⟨r10, _, _, _, rfl, (hWs.same s2325).same s26, by omega, .inl ⟨r26, _, _, rfl, hW26, by omega, ren_nd wk.nd, w_kNeOwn ?_⟩⟩
        rw [hv]
        walk_at "go"
        refine w_newL (by walk_at "sz") (fun l27 H27 hl27 nl27 => ?_)
        walk_at "go"
        refine w_newL (by walk_at "sz") (fun l28 H28 hl28 nl28 => ?_)
        walk_at "go"
        refine ⟨_, _, rfl, eqv_two (nl28.at hl27) hl28 (.flat rfl) (.flat rfl), fun H29 s29 => ?_⟩
        walk_at "go"
        exact ⟨_, _, _, rfl, s23.trans (((s2325.trans s26).nw nl27).nw nl28 |>.trans s29)⟩
      · rintro σ H23 ⟨y14, y15, y16, rfl, s23⟩
        exact ⟨_, _, _, _, _, _, _, _, _, _, _, _, _, _, _, rfl, B22.same s23⟩
    · rintro σ H2 ⟨y2, y3, y4, y5, y6, y7, y8, y9, y10, y11, y12, y13, y14, y15, y16, rfl, B2⟩
      walk_at "go"
      refine w_newL (by walk_at "sz") (fun l3 H3 hl3 nl3 => ?_)
      walk_at "go"
      refine w_world (ms := []) hl3 .nil ⟨by decide, by decide⟩ (by decide) (by decide) (by decide) (fun p4 H4 G4 hW4 sG4 hG4 s4 => ?_)
      walk_at "go"
      refine w_newL (by walk_at "sz") (fun l5 H5 hl5 nl5 => ?_)
      walk_at "go"
      refine w_world (ms := []) hl5 .nil ⟨by decide, by decide⟩ (by decide) (by decide) (by decide) (fun p6 H6 G6 hW6 sG6 hG6 s6 => ?_)
      have hWa := ((hW4.same sG4).same nl5.same).same s6
      have hWb := hW6.same sG6
      have ⟨_, _, _, _, hpa, _⟩ := hWa
      have ⟨_, _, _, _, hpb, _⟩ := hWb
      refine w_neOwn hpa hpb ⟨p4, _, _, _, rfl, hWa, by decide, .inl ⟨p6, _, _, rfl, hWb, by decide, LM_nd (n := 1) ⟨by decide, by decide⟩, ?_⟩⟩
      rw [show decide ((1 : Int) = 2) = false by decide, Bool.false_and]
      refine w_kNeOwnF ?_
      walk_at "go"
      refine w_newL (by walk_at "sz") (fun l7 H7 hl7 nl7 => ?_)
      walk_at "go"
      refine w_world (ms := []) hl7 .nil ⟨by decide, by decide⟩ (by decide) (by decide) (by decide) (fun p8 H8 G8 hW8 sG8 hG8 s8 => ?_)
      have hWc := hW8.same sG8
      have ⟨_, _, _, _, hpc, _⟩ := hWc
      walk_at "go"
      refine w_eqOt hpc (.base (.str _)) nS ⟨p8, .str _, _, _, rfl, hWc, by decide, .inr ⟨_, .base (.str _), kS, w_kEqOwn ?_⟩⟩
      walk_at "go"
      exact q _
end
end Sf
namespace Sf
open PySem PySem.Spec PyProof.Rows L2 TL
theorem all_mk {P : Program} {w : World} {K : PySem.W.Frag} {h : Heap} {mg : Str → Option Value} {fa f : Addr} (X : K.In h) (G : h.Ns mainGlobals mg) (hfa : mg "law" = some (.ref fa))
    {od an : Option Addr} {sl : Array (Option Value)} {oc kV dc pm cd ct : Value}
    (aL : PySem.W.nsIn K mainGlobals "law" = some (some (.ref f))) (lL : K.lookup f = some ⟨oc, od, .func (PySem.W.fnOf "law" "law" (defArgs s_law) (defBody s_law) (defScope s_law) .none kV dc pm an cd ct), sl⟩) (cL : PySem.W.codeIn K cd "law" = true) (kL : PySem.W.keepIn K (.ref f) = true)
    (F_law_pull : FnAt K mg "_law_pull" s__law_pull ["_law_bag", "_law_many"])
    (F_law_begin : FnAt K mg "_law_begin" s__law_begin ["_law_script"])
    (Fis_word : FnAt K mg "is_word" s_is_word ["text"])
    (Fneed_word : FnAt K mg "need_word" s_need_word ["text"])
    (Fis_upto : FnAt K mg "is_upto" s_is_upto ["thing", "most"])
    (Fis_move : FnAt K mg "is_move" s_is_move ["move", "many"])
    (Fleads_by : FnAt K mg "leads_by" s_leads_by ["many", "moves"])
    (Frenumbered : FnAt K mg "renumbered" s_renumbered ["led", "numbers"])
    (Fworld_of : FnAt K mg "world_of" s_world_of ["many", "leads"])
    (F_law_world : FnAt K mg "_law_world" s__law_world ["_law_bag", "_law_upto", "_law_letters"])
    (F_law_mixed : FnAt K mg "_law_mixed" s__law_mixed ["_law_bag", "_law_row"])
    (F_law_otherwise : FnAt K mg "_law_otherwise" s__law_otherwise ["_law_bag", "_law_many", "_law_moves"])
    (F_law_go_alike : FnAt K mg "_law_go_alike" s__law_go_alike ["_law_one", "_law_first", "_law_other", "_law_second"])
    (F_law_same : FnAt K mg "_law_same" s__law_same ["_law_found", "_law_due"])
    (B : Blt mg) (Nenumerate : mg "enumerate" = none) {t_MOST_WORD : Tok} (C_MOST_WORD : mg "MOST_WORD" = some (.int 60 t_MOST_WORD)) {t_SIGNS : Tok} (C_SIGNS : mg "SIGNS" = some (.str (Str.ofString "aAbBcCdDeEfFgGhH") t_SIGNS)) {t_LETTERS : Tok} (C_LETTERS : mg "LETTERS" = some (.str (Str.ofString "abcdefgh") t_LETTERS)) {t_MOST_PLACES : Tok} (C_MOST_PLACES : mg "MOST_PLACES" = some (.int 1000 t_MOST_PLACES)) {CWorld : Addr} (TWorld : WC K mg CWorld) (mkWorld : PySem.W.makesIn K CWorld = true) (kcWorld : PySem.W.keepIn K (.ref CWorld) = true)
    (MWorld___init__ : MAt K CWorld "__init__" "World.__init__" s_World___init__ ["self", "many", "moves"])
    (MWorld_led : MAt K CWorld "led" "World.led" s_World_led ["self", "word", "place"])
    (MWorld___eq__ : MAt K CWorld "__eq__" "World.__eq__" s_World___eq__ ["self", "other"])
    (MWorld_need_place : MAt K CWorld "need_place" "World.need_place" s_World_need_place ["self", "place"])
    (MWorld_come_to : MAt K CWorld "come_to" "World.come_to" s_World_come_to ["self", "place"])
    {CL fL : Addr} (L_ : LE K mg CL fL) (FL_ : FbD K "__init__" "Lacking.__init__" s_Lacking___init__ fL ["self", "word", "message"])
    {CNoPlace fNoPlace : Addr} (ENoPlace : EL K mg "NoPlace" CNoPlace fNoPlace) (INoPlace : Fb K "__init__" "NoPlace.__init__" s_NoPlace___init__ fNoPlace ["self", "place"])
    (nNoPlace_place : PySem.W.findIn K (.ref CNoPlace) "place" = some none)
    {tkseen : Tok} (MWorld_seen : MAtD K CWorld "seen" "World.seen" s_World_seen ["self", "place"] (.int 0 tkseen))
    {tkways : Tok} (MWorld_ways : MAtD K CWorld "ways" "World.ways" s_World_ways ["self", "place"] (.int 0 tkways))
    {tk0 : Tok} (MWorld_go : MAtD K CWorld "go" "World.go" s_World_go ["self", "word", "place"] (.int 0 tk0))
    (kkn : PySem.W.kitOne K (.type "NoneType") (.ref CWorld) = some false)
    (nkn : PySem.W.notFirst K CWorld (.type "NoneType") = true)
    (kks : PySem.W.kitOne K (.type "str") (.ref CWorld) = some false)
    (nks : PySem.W.notFirst K CWorld (.type "str") = true) :
    ∃ fd : FuncData, (∀ (s : Shared) (v : Value), BindsTo s fd ⟨[v], []⟩ [("_law_script", v)]) ∧ ∀ base : Heap, K.In base → base.Ns mainGlobals mg → FnOk P w K mg base CX0 10 fa fd ["_law_script"] (spLaw K) := by
  have e := hfa.symm.trans (PySem.W.mg_of X G aL)
  cases e
  have FL := fun_mk (st := s_law) lL cL kL
  refine ⟨PySem.W.fnOf "law" "law" (defArgs s_law) (defBody s_law) (defScope s_law) .none kV dc pm an cd ct, fun s v => .of_eq rfl, fun base _ _ => ?_⟩
  obtain ⟨fdL, FL1, bL⟩ := FL_
  obtain ⟨fdN, FN, bN⟩ := INoPlace
  have G_N := ok_npx (P := P) (w := w) (base := base) FN L_ FL1 bL
  have h_Sa := has_same (P := P) (w := w) (base := base) F_law_same B
  have h_Pu := has_pull (P := P) (w := w) (base := base) F_law_pull B
  have h_Be := has_begin (P := P) (w := w) (base := base) F_law_begin B
  have h_Iw := has_isword (P := P) (w := w) (base := base) Fis_word B C_MOST_WORD C_SIGNS
  have h_Ne := has_need (P := P) (w := w) (base := base) Fneed_word h_Iw
  have h_Up := has_up (P := P) (w := w) (base := base) Fis_upto B
  have h_Im := has_im (P := P) (w := w) (base := base) Fis_move B h_Up C_LETTERS
  have h_Lb := has_lb (P := P) (w := w) (base := base) Fleads_by B h_Im C_SIGNS
  have h_WI := has_wi (P := P) (w := w) (base := base) MWorld___init__ B TWorld h_Up h_Lb C_MOST_PLACES
  have h_Led := has_led (P := P) (w := w) (base := base) MWorld_led TWorld
  have h_Lw := has_lw (P := P) (w := w) (base := base) F_law_world B h_Pu
  have h_Mx := has_mx (P := P) (w := w) (base := base) F_law_mixed B h_Pu
  have h_Oth := has_oth (P := P) (w := w) (base := base) F_law_otherwise B h_Pu h_Mx
  have h_NplX := has_nplX (P := P) (w := w) (base := base) MWorld_need_place B TWorld h_Up ENoPlace nNoPlace_place G_N bN
  have h_Ct := has_ct (P := P) (w := w) (base := base) MWorld_come_to TWorld C_SIGNS
  have h_Rn := has_rn (P := P) (w := w) (base := base) Frenumbered
  have h_Wf := has_wf (P := P) (w := w) (base := base) Fworld_of B TWorld mkWorld kcWorld h_WI
  have h_Wy := has_wyX (P := P) (w := w) (base := base) MWorld_ways B TWorld h_NplX h_Ct
  have h_Se := has_seX (P := P) (w := w) (base := base) MWorld_seen B Nenumerate TWorld C_SIGNS h_NplX h_Ct h_Rn h_Wf
  have h_WEq := has_weq (P := P) (w := w) (base := base) MWorld___eq__ B TWorld
  have h_Npl := has_npl (P := P) (w := w) (base := base) MWorld_need_place B TWorld h_Up
  have h_Go := has_go (P := P) (w := w) (base := base) MWorld_go TWorld h_Ne h_Npl h_Led
  have h_Ga := has_ga (P := P) (w := w) (base := base) F_law_go_alike B TWorld h_Wy h_Go
  exact ok_law FL B TWorld mkWorld kcWorld kkn kks nkn nks h_Be h_Pu h_Lw (h_Sa 2) h_Oth h_Ga h_WI h_WEq h_Se
end Sf
open PySem PySem.W PyProof.Rows
set_option maxRecDepth 100000 in
set_option maxHeartbeats 0 in
theorem PySem.Challenge.cw_spoorfold_k21_whole_worlds_seen_alike_holds : PySem.Challenge.rw_spoorfold_k21_whole_worlds_seen_alike.Holds := by
  w_on; o_law; k_head; (case hw => w_witness2)
  k_fill
  refine L2.walk_of (l := PySem.Challenge.rw_spoorfold_k21_whole_worlds_seen_alike) (n := 63) (k := 10) (x := "_law_script") (CX := fun _ => L2.CX0) (sp := fun w => Sf.spLaw _) rfl (by decide) rfl ⟨rfl, by decide, by decide⟩ (fun w h Y => PySem.W.kIn_of Y) ?F (fun _ _ a ns hl _ hS => ⟨a, ns, rfl, hS, hl, fun _ => rfl⟩) (fun _ _ _ _ _ h => h)
  case F =>
    intro w mg fa h KX G hmg
    refine' Sf.all_mk KX G hmg ?aL ?lL ?cL ?kL (Sf.fnAt_mk KX G ?a0 ?l0 ?c0 ?k0 (fun _ _ _ _ _ _ us hl => match us, hl with | [_, _], _ => rfl)) (Sf.fnAt_mk KX G ?a1 ?l1 ?c1 ?k1 (fun _ _ _ _ _ _ us hl => match us, hl with | [_], _ => rfl)) (Sf.fnAt_mk KX G ?a2 ?l2 ?c2 ?k2 (fun _ _ _ _ _ _ us hl => match us, hl with | [_], _ => rfl)) (Sf.fnAt_mk KX G ?a3 ?l3 ?c3 ?k3 (fun _ _ _ _ _ _ us hl => match us, hl with | [_], _ => rfl)) (Sf.fnAt_mk KX G ?a4 ?l4 ?c4 ?k4 (fun _ _ _ _ _ _ us hl => match us, hl with | [_, _], _ => rfl)) (Sf.fnAt_mk KX G ?a5 ?l5 ?c5 ?k5 (fun _ _ _ _ _ _ us hl => match us, hl with | [_, _], _ => rfl)) (Sf.fnAt_mk KX G ?a6 ?l6 ?c6 ?k6 (fun _ _ _ _ _ _ us hl => match us, hl with | [_, _], _ => rfl)) (Sf.fnAt_mk KX G ?a7 ?l7 ?c7 ?k7 (fun _ _ _ _ _ _ us hl => match us, hl with | [_, _], _ => rfl)) (Sf.fnAt_mk KX G ?a8 ?l8 ?c8 ?k8 (fun _ _ _ _ _ _ us hl => match us, hl with | [_, _], _ => rfl)) (Sf.fnAt_mk KX G ?a9 ?l9 ?c9 ?k9 (fun _ _ _ _ _ _ us hl => match us, hl with | [_, _, _], _ => rfl)) (Sf.fnAt_mk KX G ?a10 ?l10 ?c10 ?k10 (fun _ _ _ _ _ _ us hl => match us, hl with | [_, _], _ => rfl)) (Sf.fnAt_mk KX G ?a11 ?l11 ?c11 ?k11 (fun _ _ _ _ _ _ us hl => match us, hl with | [_, _, _], _ => rfl)) (Sf.fnAt_mk KX G ?a12 ?l12 ?c12 ?k12 (fun _ _ _ _ _ _ us hl => match us, hl with | [_, _, _, _], _ => rfl)) (Sf.fnAt_mk KX G ?a13 ?l13 ?c13 ?k13 (fun _ _ _ _ _ _ us hl => match us, hl with | [_, _], _ => rfl)) ⟨PySem.W.mg_none_of KX G ?z0, PySem.W.mg_none_of KX G ?z1, PySem.W.mg_none_of KX G ?z2, PySem.W.mg_none_of KX G ?z3, PySem.W.mg_none_of KX G ?z4, PySem.W.mg_none_of KX G ?z5, PySem.W.mg_none_of KX G ?z6, PySem.W.mg_none_of KX G ?z7, PySem.W.mg_none_of KX G ?z8, PySem.W.mg_none_of KX G ?z9, PySem.W.mg_none_of KX G ?z10, PySem.W.mg_none_of KX G ?z11⟩ (PySem.W.mg_none_of KX G ?y0) (PySem.W.mg_of KX G ?d0) (PySem.W.mg_of KX G ?d1) (PySem.W.mg_of KX G ?d2) (PySem.W.mg_of KX G ?d3) (Sf.WC.mk ⟨?wWorldpg, ?wWorldhd, ?wWorldpo, ?wWorldsa⟩ ?wWorldf0 ?wWorldf1 (PySem.W.mg_of KX G ?wWorldaC) ?wWorldha ?wWorldhn ?wWorldhtk ?wWorldhm ?wWorldne) ?wWorldmk ?wWorldkc (Sf.mAt_mk ?wWorlda0 ?wWorldi0 ?wWorldl0 ?wWorldc0 ?wWorldk0 (fun _ _ _ _ _ _ us hl => match us, hl with | [_, _, _], _ => rfl)) (Sf.mAt_mk ?wWorlda1 ?wWorldi1 ?wWorldl1 ?wWorldc1 ?wWorldk1 (fun _ _ _ _ _ _ us hl => match us, hl with | [_, _, _], _ => rfl)) (Sf.mAt_mk ?wWorlda2 ?wWorldi2 ?wWorldl2 ?wWorldc2 ?wWorldk2 (fun _ _ _ _ _ _ us hl => match us, hl with | [_, _], _ => rfl)) (Sf.mAt_mk ?wWorlda3 ?wWorldi3 ?wWorldl3 ?wWorldc3 ?wWorldk3 (fun _ _ _ _ _ _ us hl => match us, hl with | [_, _], _ => rfl)) (Sf.mAt_mk ?wWorlda4 ?wWorldi4 ?wWorldl4 ?wWorldc4 ?wWorldk4 (fun _ _ _ _ _ _ us hl => match us, hl with | [_, _], _ => rfl)) (Sf.LE.mk (PySem.W.mg_of KX G ?leC) ?lerd ?lega ?leat ?levV (PySem.W.mg_none_of KX G ?lemV)) (Sf.fbD_mk ?lel ?lec ?lek (Sf.le_binds ?leo ?leo2))  (Sf.EL.mk ⟨?xNoPlaceini, ?xNoPlaceovr, ?xNoPlacedct, ?xNoPlacesa, ?xNoPlaceex, ?xNoPlacety, ?xNoPlacekC⟩ ?xNoPlaceiC ?xNoPlacetI (PySem.W.mg_of KX G ?xNoPlacegC) ⟨?xNoPlacega, ?xNoPlacegg, ?xNoPlaceex2, ?xNoPlacehd⟩ ?xNoPlacenw (Sf.exm_self ?xNoPlaceex3 ?xNoPlacecl ?xNoPlacety2 ?xNoPlacesub)) (Sf.fb_mk ?xNoPlaceil ?xNoPlaceic ?xNoPlaceik (fun _ _ _ _ _ _ us hl => match us, hl with | [_, _], _ => rfl)) ?fNoPlaceplace (Sf.mAtD_mk ?dseena ?dseeni ?dseenl ?dseenc ?dseenk ?dseeno ?dseens (Sf.seen_binds ?dseeno ?dseens) (Sf.seen_bindsD ?dseeno ?dseens)) (Sf.mAtD_mk ?dwaysa ?dwaysi ?dwaysl ?dwaysc ?dwaysk ?dwayso ?dwayss (Sf.ways_binds ?dwayso ?dwayss) (Sf.ways_bindsD ?dwayso ?dwayss)) (Sf.mAtD_mk ?ga ?gi ?gl ?gc ?gk ?go ?gs (Sf.go_binds ?go ?gs) (Sf.go_bindsD ?go ?gs)) (Sf.kit_no ?kn1 ?kn2 ?kn3) ?nkn (Sf.kit_no ?ks1 ?ks2 ?ks3) ?nks
    (case aL => k_is)
    (case lL => k_is)
    (case cL => k_is)
    (case kL => k_is)
    (case a0 => k_is)
    (case l0 => k_is)
    (case c0 => k_is)
    (case k0 => k_is)
    (case a1 => k_is)
    (case l1 => k_is)
    (case c1 => k_is)
    (case k1 => k_is)
    (case a2 => k_is)
    (case l2 => k_is)
    (case c2 => k_is)
    (case k2 => k_is)
    (case a3 => k_is)
    (case l3 => k_is)
    (case c3 => k_is)
    (case k3 => k_is)
    (case a4 => k_is)
    (case l4 => k_is)
    (case c4 => k_is)
    (case k4 => k_is)
    (case a5 => k_is)
    (case l5 => k_is)
    (case c5 => k_is)
    (case k5 => k_is)
    (case a6 => k_is)
    (case l6 => k_is)
    (case c6 => k_is)
    (case k6 => k_is)
    (case a7 => k_is)
    (case l7 => k_is)
    (case c7 => k_is)
    (case k7 => k_is)
    (case a8 => k_is)
    (case l8 => k_is)
    (case c8 => k_is)
    (case k8 => k_is)
    (case a9 => k_is)
    (case l9 => k_is)
    (case c9 => k_is)
    (case k9 => k_is)
    (case a10 => k_is)
    (case l10 => k_is)
    (case c10 => k_is)
    (case k10 => k_is)
    (case a11 => k_is)
    (case l11 => k_is)
    (case c11 => k_is)
    (case k11 => k_is)
    (case a12 => k_is)
    (case l12 => k_is)
    (case c12 => k_is)
    (case k12 => k_is)
    (case a13 => k_is)
    (case l13 => k_is)
    (case c13 => k_is)
    (case k13 => k_is)
    (case z0 => k_is)
    (case z1 => k_is)
    (case z2 => k_is)
    (case z3 => k_is)
    (case z4 => k_is)
    (case z5 => k_is)
    (case z6 => k_is)
    (case z7 => k_is)
    (case z8 => k_is)
    (case z9 => k_is)
    (case z10 => k_is)
    (case z11 => k_is)
    (case y0 => k_is)
    (case d0 => k_is)
    (case d1 => k_is)
    (case d2 => k_is)
    (case d3 => k_is)
    (case wWorldaC => k_is)
    (case wWorldpg => k_is)
    (case wWorldhd => k_is)
    (case wWorldpo => k_is)
    (case wWorldsa => k_is)
    (case wWorldf0 => k_is)
    (case wWorldf1 => k_is)
    (case wWorldha => k_is)
    (case wWorldhn => k_is)
    (case wWorldhtk => k_is)
    (case wWorldhm => k_is)
    (case wWorldne => k_is)
    (case wWorldmk => k_is)
    (case wWorldkc => k_is)
    (case wWorlda0 => k_is)
    (case wWorldi0 => k_is)
    (case wWorldl0 => k_is)
    (case wWorldc0 => k_is)
    (case wWorldk0 => k_is)
    (case wWorlda1 => k_is)
    (case wWorldi1 => k_is)
    (case wWorldl1 => k_is)
    (case wWorldc1 => k_is)
    (case wWorldk1 => k_is)
    (case wWorlda2 => k_is)
    (case wWorldi2 => k_is)
    (case wWorldl2 => k_is)
    (case wWorldc2 => k_is)
    (case wWorldk2 => k_is)
    (case wWorlda3 => k_is)
    (case wWorldi3 => k_is)
    (case wWorldl3 => k_is)
    (case wWorldc3 => k_is)
    (case wWorldk3 => k_is)
    (case wWorlda4 => k_is)
    (case wWorldi4 => k_is)
    (case wWorldl4 => k_is)
    (case wWorldc4 => k_is)
    (case wWorldk4 => k_is)
    (case leC => k_is)
    (case lerd => k_is)
    (case lega => k_is)
    (case leat => k_is)
    (case levV => k_is)
    (case lemV => k_is)
    (case lel => k_is)
    (case lec => k_is)
    (case lek => k_is)
    (case leo => k_is)
    (case leo2 => rfl)
    (case xNoPlacegC => k_is)
    (case xNoPlaceini => kx_is)
    (case xNoPlaceovr => kx_is)
    (case xNoPlacedct => k_is)
    (case xNoPlacesa => k_is)
    (case xNoPlaceex => k_is)
    (case xNoPlacety => k_is)
    (case xNoPlacekC => k_is)
    (case xNoPlaceiC => k_is)
    (case xNoPlacetI => k_is)
    (case xNoPlacega => k_is)
    (case xNoPlacegg => k_is)
    (case xNoPlaceex2 => k_is)
    (case xNoPlacehd => k_is)
    (case xNoPlacenw => k_is)
    (case xNoPlaceex3 => k_is)
    (case xNoPlacecl => k_is)
    (case xNoPlacety2 => k_is)
    (case xNoPlacesub => k_is)
    (case xNoPlaceil => k_is)
    (case xNoPlaceic => k_is)
    (case xNoPlaceik => k_is)
    (case fNoPlaceplace => k_is)
    (case dseena => k_is)
    (case dseeni => k_is)
    (case dseenl => k_is)
    (case dseenc => k_is)
    (case dseenk => k_is)
    (case dseeno => k_is)
    (case dseens => rfl)
    (case dwaysa => k_is)
    (case dwaysi => k_is)
    (case dwaysl => k_is)
    (case dwaysc => k_is)
    (case dwaysk => k_is)
    (case dwayso => k_is)
    (case dwayss => rfl)
    (case ga => k_is)
    (case gi => k_is)
    (case gl => k_is)
    (case gc => k_is)
    (case gk => k_is)
    (case go => k_is)
    (case gs => rfl)
    (case kn1 => k_is)
    (case kn2 => k_is)
    (case kn3 => k_is)
    (case nkn => k_is)
    (case ks1 => k_is)
    (case ks2 => k_is)
    (case ks3 => k_is)
    (case nks => k_is)
