import PyProof.Rows.All
import Wide.All
import OpenK.AllK
import Wide.FinOn
import HandS.ForMost
import HandS.IsInst
import HandS.Zip
import HandS.More
import KE.LtData
import HandS.DictComp
import KE.SortKeyHeap
import HandS.SortKw
import HandS.OwnEq
import HandS.Conv
import HandS.TupAny
import PySem.Challenge.RW_spoorfold_k52_makers_of_worlds
import KE.OsRunLaw
import HandS.Head2
import HandS.ExcInit
import HandS.ExcField
import HandS.WordsExc
import HandS.ExcOwn
import HandS.FStr
import HandS.RaiseMore
import HandS.Style
import HandS.Deep
import HandS.DeepEq
import KE.DataFind
import KE.KTryMore
import HandS.TryOnly
import HandS.HotCalls
import HandS.ExcIs
import KE.KExcInit
import KE.KExcIs
import KE.KExcLine
import KE.GoesEnum
import KE.KDictList
import HandS.DictSubView0
import KE.KDictKeyed
import KE.KDictDisplayH
import HandS.Dict
import HandS.TupLen
import HandS.Conv
import HandS.Iter
import KE.KDictWalk
import HandS.StrMore
import HandS.DictSub
import HandS.TupAny
set_option Elab.async false
set_option linter.all false
set_option maxRecDepth 100000
set_option maxHeartbeats 4000000
namespace Sf
open PySem PySem.Spec PyProof.Rows L2
/-! the text of the law by places -/
def topS (i : Nat) : Stmt := PySem.Challenge.pw_spoorfold_k52_makers_of_worlds.main.body.getD i (.Pass ⟨0, 0, 0, 0⟩)
abbrev s__wall : Stmt := topS 0
abbrev s_SpoorError___init__ : Stmt := inClass (topS 2) 0
abbrev s_BadWorld___init__ : Stmt := inClass (topS 3) 0
abbrev s_Lacking___init__ : Stmt := inClass (topS 4) 0
abbrev s_NoPlace___init__ : Stmt := inClass (topS 5) 0
abbrev s_turned : Stmt := topS 9
abbrev s_glued : Stmt := topS 10
abbrev s_is_upto : Stmt := topS 12
abbrev s_World___init__ : Stmt := inClass (topS 15) 0
abbrev s_World_moves : Stmt := inClass (topS 15) 1
abbrev s_World_letters : Stmt := inClass (topS 15) 2
abbrev s_World_go : Stmt := inClass (topS 15) 3
abbrev s_World_motion : Stmt := inClass (topS 15) 4
abbrev s_World_seen : Stmt := inClass (topS 15) 5
abbrev s_World_ways : Stmt := inClass (topS 15) 6
abbrev s_World_is_whole : Stmt := inClass (topS 15) 7
abbrev s_World_widened : Stmt := inClass (topS 15) 8
abbrev s_World_breaks : Stmt := inClass (topS 15) 9
abbrev s_World___eq__ : Stmt := inClass (topS 15) 10
abbrev s_World___len__ : Stmt := inClass (topS 15) 11
abbrev s_World___repr__ : Stmt := inClass (topS 15) 12
abbrev s_World_need_place : Stmt := inClass (topS 15) 13
abbrev s_World_led : Stmt := inClass (topS 15) 14
abbrev s_World_come_to : Stmt := inClass (topS 15) 15
abbrev s_leads_by : Stmt := topS 16
abbrev s_is_move : Stmt := topS 17
abbrev s_renumbered : Stmt := topS 18
abbrev s_world_of : Stmt := topS 19
abbrev s_makers : Stmt := topS 21
abbrev s_tree_of : Stmt := topS 22
abbrev s__law_begin : Stmt := topS 24
abbrev s__law_pull : Stmt := topS 25
abbrev s__law_world : Stmt := topS 26
abbrev s__law_live : Stmt := topS 27
abbrev s__law_head : Stmt := topS 28
abbrev s__law_goes : Stmt := topS 29
abbrev s__law_web_world : Stmt := topS 30
abbrev s__law_flip : Stmt := topS 31
abbrev s__law_join : Stmt := topS 32
abbrev s__law_link : Stmt := topS 33
abbrev s__law_lay : Stmt := topS 34
abbrev s__law_gaps : Stmt := topS 35
abbrev s__law_web : Stmt := topS 36
abbrev s__law_short : Stmt := topS 37
abbrev s__law_rose : Stmt := topS 38
abbrev s__law_sign : Stmt := topS 39
abbrev s__law_word : Stmt := topS 40
abbrev s__law_lots : Stmt := topS 41
abbrev s__law_led : Stmt := topS 42
abbrev s__law_seen : Stmt := topS 43
abbrev s__law_back : Stmt := topS 44
abbrev s__law_same : Stmt := topS 45
abbrev s_law : Stmt := topS 46
end Sf
namespace Sf
open PySem PySem.Spec PyProof.Rows L2 TL
/-! ### helpers of heaps and blocks -/
theorem same_upd {H : Hp} {p : Addr} {o : HO} (h : H p = none) : Same H (upd H p o) := fun b x e => by
  rw [upd_ne (ne_of_none e h)]
  exact e
/-- all but what stands at b stands -/
def Fx (b : Addr) (H H' : Hp) : Prop := ∀ a o, H a = some o → a ≠ b → H' a = some o
theorem Fx.refl {b : Addr} {H : Hp} : Fx b H H := fun _ _ h _ => h
theorem Fx.of {b : Addr} {H H' : Hp} (h : Same H H') : Fx b H H' := fun a o e _ => h a o e
theorem Fx.trans {b : Addr} {H H1 H2 : Hp} (h : Fx b H H1) (k : Fx b H1 H2) : Fx b H H2 := fun a o e n => k a o (h a o e n) n
theorem Fx.same {b : Addr} {H H1 H2 : Hp} (h : Fx b H H1) (k : Same H1 H2) : Fx b H H2 := h.trans (.of k)
theorem Fx.upd {b : Addr} {H H1 : Hp} {o : HO} (h : Fx b H H1) : Fx b H (upd H1 b o) := fun a u e n => by
  rw [upd_ne n]
  exact h a u e n
theorem Fx.new {b p : Addr} {H H1 : Hp} {o : HO} (h : Fx b H H1) (n : H1 p = none) : Fx b H (L2.upd H1 p o) := h.same (same_upd n)
theorem Fx.seq {b a : Addr} {H H1 : Hp} {xs : List V} {K : PySem.W.Frag} (h : Fx b H H1) (n : a ≠ b) (s : SqL K H a xs) : SqL K H1 a xs := by
  rcases s with (s | ⟨o, s⟩) | s
  · exact .inl (.inl (h _ _ s n))
  · exact .inl (.inr ⟨o, h _ _ s n⟩)
  · exact .inr s
theorem seq_by {X : Cx} {st : Stmt} {rest : List Stmt} {D : Ends} {σ : L2.St} {H : Hp} (J : L2.St → Hp → Prop) (hr : ∃ u, PSs X rest u ∧ ∀ σ' H', J σ' H' → u D σ' H')
    (hs : ∀ u : TS, (∀ σ' H', J σ' H' → u D σ' H') → ∃ t, PS X st t ∧ t { D with nx := u D } σ H) : ∃ t, PSs X (st :: rest) t ∧ t D σ H := by
  obtain ⟨u, hu, k⟩ := hr
  obtain ⟨t, ht, h⟩ := hs u k
  exact ⟨tSeq t u, pss_cons ht hu, h⟩
theorem line_of {n : Nat} (h : n ≤ 100000) : n ≤ sizeLine := Nat.le_trans h (by decide)
theorem lineLt_of {n : Nat} (h : n ≤ 100000) : n < sizeLine := Nat.lt_of_le_of_lt h (by decide)
/-! ### the bag of the laws: its list at l, three numbers -/
structure BagL (H : Hp) (b l : Addr) (ns : List Int) (k z r : Int) : Prop where
  hb : H b = some (.lst [.ref l, .int k, .int z, .int r])
  hl : H l = some (.lst (ns.map V.int))
  k0 : 0 ≤ k
  z0 : 0 ≤ z
  r0 : 0 ≤ r
  r1 : r < 2147483647
def Bag (H : Hp) (b l : Addr) : Prop := ∃ (ns : List Int) (k z r : Int), BagL H b l ns k z r
theorem bag_ne {l : Addr} {ns : List Int} {vs : List V} : HO.lst (.ref l :: vs) ≠ HO.lst (ns.map V.int) := fun e => by
  cases ns with
  | nil => cases e
  | cons x r => cases e
theorem BagL.ne {H : Hp} {b l : Addr} {ns : List Int} {k z r : Int} (h : BagL H b l ns k z r) : l ≠ b := fun e => by
  have h1 := h.hb
  have h2 := h.hl
  rw [e, h1] at h2
  exact bag_ne (Option.some.inj h2)
theorem BagL.set {H : Hp} {b l : Addr} {ns : List Int} {k z r k' z' r' : Int} (h : BagL H b l ns k z r) (hk : 0 ≤ k') (hz : 0 ≤ z') (h0 : 0 ≤ r') (h1 : r' < 2147483647) :
    BagL (upd H b (.lst [.ref l, .int k', .int z', .int r'])) b l ns k' z' r' :=
  ⟨upd_same, by rw [upd_ne h.ne]; exact h.hl, hk, hz, h0, h1⟩
theorem Bag.same {H H' : Hp} {b l : Addr} (s : Same H H') : Bag H b l → Bag H' b l
  | ⟨ns, k, z, r, h⟩ => ⟨ns, k, z, r, s _ _ h.hb, s _ _ h.hl, h.k0, h.z0, h.r0, h.r1⟩
theorem Bag.new {H : Hp} {b l p : Addr} {o : HO} (h : Bag H b l) (n : H p = none) : Bag (upd H p o) b l := h.same (same_upd n)
theorem Bag.ne {H : Hp} {b l p : Addr} (h : Bag H b l) (n : H p = none) : p ≠ b := fun e => by
  obtain ⟨ns, k, z, r, h⟩ := h
  rw [e, h.hb] at n
  cases n
theorem Bag.neL {H : Hp} {b l p : Addr} (h : Bag H b l) (n : H p = none) : p ≠ l := fun e => by
  obtain ⟨ns, k, z, r, h⟩ := h
  rw [e, h.hl] at n
  cases n
theorem len_eq {α : Type} {xs : List α} {n : Nat} (h : xs.length = n) : ((xs.length : Nat) : Int) = (n : Int) := by rw [h]
theorem int_at {ns : List Int} {k : Int} (h0 : 0 ≤ k) (h1 : k < ((ns.map V.int).length : Nat)) : ∃ v : Int, atI (ns.map V.int) k = some (.int v) := by
  rw [List.length_map] at h1
  refine ⟨ns[k.toNat]'(by omega), at_of (j := k.toNat) (by omega) ?_⟩
  rw [List.getElem?_map, List.getElem?_eq_getElem (by omega)]
  rfl
end Sf
namespace Sf
open PySem PySem.Spec PyProof.Rows L2 TL
/-! ### what stands at the top: a def of the text; a def that keeps a promise; a constant; built-in names -/
def FnAt (K : PySem.W.Frag) (mg : Str → Option Value) (x : Str) (st : Stmt) (ps : List Str) : Prop := ∃ (f : Addr) (fd : FuncData), mg x = some (.ref f) ∧ Fun K x x st f fd ∧ Binds K fd ps []
def Has (P : Program) (w : World) (K : PySem.W.Frag) (mg : Str → Option Value) (base : Heap) (k : Nat) (x : Str) (ps : List Str) (sp : Sp) : Prop :=
  ∃ (f : Addr) (fd : FuncData), mg x = some (.ref f) ∧ PySem.W.keepIn K (.ref f) = true ∧ Binds K fd ps [] ∧ FnOk P w K mg base CX0 k f fd ps sp
theorem FnAt.has {P : Program} {w : World} {K : PySem.W.Frag} {mg : Str → Option Value} {base : Heap} {k : Nat} {x : Str} {st : Stmt} {ps : List Str} {sp : Sp} (h : FnAt K mg x st ps)
    (ok : ∀ {f : Addr} {fd : FuncData}, Fun K x x st f fd → FnOk P w K mg base CX0 k f fd ps sp) : Has P w K mg base k x ps sp := by
  obtain ⟨f, fd, g, F, b⟩ := h
  exact ⟨f, fd, g, F.kp, b, ok F⟩
theorem fnAt_mk {K : PySem.W.Frag} {h : Heap} {mg : Str → Option Value} {x : Str} {st : Stmt} {ps : List Str} {f : Addr} {oc : Value} {od an : Option Addr} {osl : Array (Option Value)} {kV doc pm cdv ct : Value} (X : K.In h) (G : h.Ns mainGlobals mg)
    (a : PySem.W.nsIn K mainGlobals x = some (some (.ref f))) (l : K.lookup f = some ⟨oc, od, .func (PySem.W.fnOf x x (defArgs st) (defBody st) (defScope st) .none kV doc pm an cdv ct), osl⟩)
    (c : PySem.W.codeIn K cdv x = true) (k : PySem.W.keepIn K (.ref f) = true)
    (b : ∀ (kV doc pm : Value) (an : Option Addr) (cdv ct : Value) (us : List Value), us.length = ps.length → bindArgs (PySem.W.fnOf x x (defArgs st) (defBody st) (defScope st) .none kV doc pm an cdv ct) ⟨us, []⟩ = pure (ps.zip us)) : FnAt K mg x st ps :=
  ⟨f, _, PySem.W.mg_of X G a, fun_mk l c k, (fun_mk l c k).binds b⟩
structure Blt (mg : Str → Option Value) : Prop where
  len : mg "len" = none
  range : mg "range" = none
  isinstance : mg "isinstance" = none
  list : mg "list" = none
  tuple : mg "tuple" = none
  bool : mg "bool" = none
  int : mg "int" = none
  str : mg "str" = none
  all : mg "all" = none
  zip : mg "zip" = none
  min : mg "min" = none
  sorted : mg "sorted" = none
theorem lc_gen {J : It} {n : Nat} {g : TG} {tt : TT} {te : TE} {vs : List Nat} {σ : L2.St} {H1 : Hp} {D : Addr} {Qd : Hp → Prop} (Pv : Nat → Hp → Prop) (h0 : Pv 0 (upd H1 D (.lst [])))
    (hgo : ∀ i H, i < n → Pv i H → J.go i H) (hst : ∀ H, Pv n H → J.stop n H)
    (hs : ∀ i x H H', i < n → Pv i H → J.yld i H x H' → g x (wipe σ vs) H' fun σ2 H2 => wipe σ2 vs = wipe σ vs ∧ tt σ2 H2 fun b H3 =>
      if b = true then te σ2 H3 fun y H4 => ∃ acc, H4 D = some (.lst acc) ∧ acc.length < sizeLine ∧ Pv (i + 1) (upd H4 D (.lst (acc ++ [y]))) else Pv (i + 1) H3) (hd : ∀ H, Pv n H → Qd H) :
    ∃ W : Nat → Nat → Hp → Prop, (∃ m, W 0 m (upd H1 D (.lst []))) ∧ ∀ i m H, W i m H →
      (J.stop i H ∧ Qd H) ∨ (J.go i H ∧ ∃ Nx : Hp → Prop, (∀ H', Nx H' → ∃ m', m' < m ∧ W (i + 1) m' H') ∧ ∀ x H', J.yld i H x H' → g x (wipe σ vs) H' fun σ2 H2 => wipe σ2 vs = wipe σ vs ∧ tt σ2 H2 fun b H3 =>
        if b = true then te σ2 H3 fun y H4 => ∃ acc, H4 D = some (.lst acc) ∧ acc.length < sizeLine ∧ Nx (upd H4 D (.lst (acc ++ [y]))) else Nx H3) := by
  refine ⟨fun i m H => m = n - i ∧ i ≤ n ∧ Pv i H, ⟨n, rfl, Nat.zero_le _, h0⟩, ?_⟩
  rintro i m H ⟨rfl, hi, p⟩
  by_cases hlt : i < n
  · exact .inr ⟨hgo i H hlt p, Pv (i + 1), fun H' p' => ⟨n - (i + 1), by omega, rfl, hlt, p'⟩, fun x H' y => hs i x H H' hlt p y⟩
  · have e : i = n := by omega
    subst e
    exact .inl ⟨hst H p, hd H p⟩
theorem for_gen {J : It} {n : Nat} {g : TG} {tb : TS} {D : Ends} {σ : L2.St} {H : Hp} (Pv : Nat → L2.St → Hp → Prop) (h0 : Pv 0 σ H) (hgo : ∀ i σ H, i < n → Pv i σ H → J.go i H) (hst : ∀ σ H, Pv n σ H → J.stop n H)
    (hs : ∀ i x σ H H', i < n → Pv i σ H → J.yld i H x H' → g x σ H' fun σ2 H2 => tb { D with nx := Pv (i + 1), ct := Pv (i + 1), bk := D.nx } σ2 H2) (hd : ∀ σ H, Pv n σ H → D.nx σ H) :
    ∃ W : Nat → Nat → L2.St → Hp → Prop, (∃ m, W 0 m σ H) ∧ ∀ i m σ H, W i m σ H →
      (J.stop i H ∧ D.nx σ H) ∨ (J.go i H ∧ ∃ N : L2.St → Hp → Prop, (∀ σ' H', N σ' H' → ∃ m', m' < m ∧ W (i + 1) m' σ' H') ∧ ∀ x H', J.yld i H x H' → g x σ H' fun σ2 H2 => tb { D with nx := N, ct := N, bk := D.nx } σ2 H2) := by
  refine ⟨fun i m σ H => m = n - i ∧ i ≤ n ∧ Pv i σ H, ⟨n, rfl, Nat.zero_le _, h0⟩, ?_⟩
  rintro i m σ H ⟨rfl, hi, p⟩
  by_cases hlt : i < n
  · exact .inr ⟨hgo i σ H hlt p, Pv (i + 1), fun σ' H' p' => ⟨n - (i + 1), by omega, rfl, hlt, p'⟩, fun x H' y => hs i x σ H H' hlt p y⟩
  · have e : i = n := by omega
    subst e
    exact .inl ⟨hst σ H p, hd σ H p⟩
theorem yes_if {σ : L2.St} {H : Hp} {A B : Hp → Prop} (h : A H) : tYes σ H (fun b H3 => if b = true then A H3 else B H3) := by
  show if true = true then A H else B H
  exact iteT h
/-! ### signs and words -/
def sgn (c : Nat) : Bool := (decide (97 ≤ c) && decide (c ≤ 104)) || (decide (65 ≤ c) && decide (c ≤ 72))
theorem sgn_iff {c : Nat} : sgn c = true ↔ (97 ≤ c ∧ c ≤ 104) ∨ (65 ≤ c ∧ c ≤ 72) := by
  unfold sgn
  simp only [Bool.or_eq_true, Bool.and_eq_true, decide_eq_true_eq]
def flipC (c : Nat) : Nat := if 97 ≤ c then c - 32 else c + 32
def Wd (x : Str) : Prop := ∀ c ∈ tl x, sgn c = true
abbrev one (c : Nat) : Str := ⟨#[c]⟩
theorem tl_one (c : Nat) : tl (one c) = [c] := rfl
theorem len_one (c : Nat) : (one c).length = 1 := rfl
theorem len_app (x y : Str) : (x ++ y).length = x.length + y.length := by
  rw [len_tl, len_tl, len_tl, tl_append, List.length_append]
theorem Wd.app {x y : Str} (hx : Wd x) (hy : Wd y) : Wd (x ++ y) := fun c hc => by
  rw [tl_append, List.mem_append] at hc
  exact hc.elim (hx c) (hy c)
theorem wd_one {c : Nat} (h : sgn c = true) : Wd (one c) := fun d hd => by
  rw [tl_one, List.mem_singleton] at hd
  rw [hd]
  exact h
theorem tl_small : (Str.ofString "abcdefgh").cps.toList = [97, 98, 99, 100, 101, 102, 103, 104] := by decide +kernel
theorem tl_great : (Str.ofString "ABCDEFGH").cps.toList = [65, 66, 67, 68, 69, 70, 71, 72] := by decide +kernel
theorem tl_signs : (Str.ofString "aAbBcCdDeEfFgGhH").cps.toList = [97, 65, 98, 66, 99, 67, 100, 68, 101, 69, 102, 70, 103, 71, 104, 72] := by decide +kernel
theorem in_small {c : Nat} : (c ∈ (Str.ofString "abcdefgh").cps.toList) ↔ (97 ≤ c ∧ c ≤ 104) := by
  rw [tl_small]
  simp only [List.mem_cons, List.not_mem_nil, or_false]
  omega
theorem in_signs {c : Nat} : (c ∈ (Str.ofString "aAbBcCdDeEfFgGhH").cps.toList) ↔ sgn c = true := by
  rw [tl_signs, sgn_iff]
  simp only [List.mem_cons, List.not_mem_nil, or_false]
  omega
theorem upper_one {c : Nat} (h : 97 ≤ c ∧ c ≤ 104) : Txt.upper (one c) = one (c - 32) := by
  have : c = 97 ∨ c = 98 ∨ c = 99 ∨ c = 100 ∨ c = 101 ∨ c = 102 ∨ c = 103 ∨ c = 104 := by omega
  rcases this with rfl | rfl | rfl | rfl | rfl | rfl | rfl | rfl <;> decide +kernel
theorem lower_one {c : Nat} (h : 65 ≤ c ∧ c ≤ 72) : Txt.lower (one c) = one (c + 32) := by
  have : c = 65 ∨ c = 66 ∨ c = 67 ∨ c = 68 ∨ c = 69 ∨ c = 70 ∨ c = 71 ∨ c = 72 := by omega
  rcases this with rfl | rfl | rfl | rfl | rfl | rfl | rfl | rfl <;> decide +kernel
theorem flip_sgn {c : Nat} (h : sgn c = true) : sgn (flipC c) = true := by
  rw [sgn_iff] at h ⊢
  unfold flipC
  split <;> omega
theorem at_small {e : Int} (h0 : 0 ≤ e) (h1 : e < 8) : atI (Str.ofString "abcdefgh").cps.toList e = some (97 + e.toNat) := by
  have : e = 0 ∨ e = 1 ∨ e = 2 ∨ e = 3 ∨ e = 4 ∨ e = 5 ∨ e = 6 ∨ e = 7 := by omega
  rw [tl_small]
  rcases this with rfl | rfl | rfl | rfl | rfl | rfl | rfl | rfl <;> rfl
theorem at_great {e : Int} (h0 : 0 ≤ e) (h1 : e < 8) : atI (Str.ofString "ABCDEFGH").cps.toList e = some (65 + e.toNat) := by
  have : e = 0 ∨ e = 1 ∨ e = 2 ∨ e = 3 ∨ e = 4 ∨ e = 5 ∨ e = 6 ∨ e = 7 := by omega
  rw [tl_great]
  rcases this with rfl | rfl | rfl | rfl | rfl | rfl | rfl | rfl <;> rfl
theorem at_end {x : List Nat} (h : x ≠ []) : ∃ c, atI x (-1) = some c ∧ c ∈ x := by
  refine ⟨x.getLast h, ?_, List.getLast_mem h⟩
  have e := atI_last x.dropLast (x.getLast h)
  rw [List.dropLast_concat_getLast h] at e
  exact e
theorem str_ne {x : Str} (h : ¬ V.str x = V.str "") : tl x ≠ [] := fun e => h (by
  have : x = "" := ext_tl (by rw [e]; decide +kernel)
  rw [this])
theorem wd_nil : Wd "" := fun c hc => by
  have e : tl "" = [] := by decide +kernel
  rw [e] at hc
  cases hc
/-! ### two values of the same data -/
def flat4 : V → Bool
  | .non => true
  | .bl _ => true
  | .int _ => true
  | .str _ => true
  | _ => false
def Eqv (H : Hp) : Nat → V → V → Prop
  | 0, x, y => flat4 x = true ∧ x = y
  | n + 1, x, y => (flat4 x = true ∧ x = y) ∨ ∃ (p q : Addr) (xs ys : List V), x = .ref p ∧ y = .ref q ∧ ((H p = some (.lst xs) ∧ H q = some (.lst ys)) ∨ (H p = some (.tup xs) ∧ H q = some (.tup ys))) ∧
      xs.length = ys.length ∧ xs.length ≤ 100000 ∧ ∀ (i : Nat) (x y : V), xs[i]? = some x → ys[i]? = some y → Eqv H n x y
theorem Eqv.same {H H' : Hp} (s : Same H H') : ∀ {n : Nat} {x y : V}, Eqv H n x y → Eqv H' n x y
  | 0, _, _, h => h
  | _ + 1, _, _, .inl h => .inl h
  | _ + 1, _, _, .inr ⟨p, q, xs, ys, ex, ey, hp, hl, hz, k⟩ => .inr ⟨p, q, xs, ys, ex, ey, hp.elim (fun h => .inl ⟨s _ _ h.1, s _ _ h.2⟩) (fun h => .inr ⟨s _ _ h.1, s _ _ h.2⟩), hl, hz, fun i x y hx hy => Eqv.same s (k i x y hx hy)⟩
theorem Eqv.flat {H : Hp} {n : Nat} {x : V} (h : flat4 x = true) : Eqv H n x x := by
  cases n with
  | zero => exact ⟨h, rfl⟩
  | succ n => exact .inl ⟨h, rfl⟩
theorem flat_kit {K : PySem.W.Frag} {H : Hp} {x : V} (h : flat4 x = true) : ∃ (T : String) (b1 b2 b3 : Bool), TyX K H x (.type T) ∧ kitB T "list" = some false ∧ kitB T "tuple" = some false ∧ kitB T "bool" = some b1 ∧ kitB T "int" = some b2 ∧ kitB T "str" = some b3 := by
  cases x with
  | non => exact ⟨"NoneType", false, false, false, .base .non, by decide +kernel, by decide +kernel, by decide +kernel, by decide +kernel, by decide +kernel⟩
  | bl b => exact ⟨"bool", true, true, false, .base (.bl b), by decide +kernel, by decide +kernel, by decide +kernel, by decide +kernel, by decide +kernel⟩
  | int b => exact ⟨"int", false, true, false, .base (.int b), by decide +kernel, by decide +kernel, by decide +kernel, by decide +kernel, by decide +kernel⟩
  | str b => exact ⟨"str", false, false, true, .base (.str b), by decide +kernel, by decide +kernel, by decide +kernel, by decide +kernel, by decide +kernel⟩
  | byt b => cases h
  | flt b => cases h
  | ref b => cases h
  | ty b => cases h
theorem TyX.same {K : PySem.W.Frag} {H H' : Hp} {x : V} {T : String} (s : Same H H') (f : flat4 x = true) (h : TyX K H x (.type T)) : TyX K H' x (.type T) := by
  cases x with
  | non => cases h with | base h => cases h with | non => exact .base .non
  | bl b => cases h with | base h => cases h with | bl => exact .base (.bl b)
  | int b => cases h with | base h => cases h with | int => exact .base (.int b)
  | str b => cases h with | base h => cases h with | str => exact .base (.str b)
  | byt b => cases f
  | flt b => cases f
  | ref b => cases f
  | ty b => cases f
theorem kit2 {K : PySem.W.Frag} {T : String} (h1 : kitB T "list" = some false) (h2 : kitB T "tuple" = some false) : PySem.W.kitAny K (.type T) [.type "list", .type "tuple"] = some false :=
  kitAny_cons (kit_ty h1) (fun _ => kitAny_cons (kit_ty h2) (fun _ => kitAny_nil) (fun q => nomatch q)) (fun q => nomatch q)
theorem scal_flat {x : V} (h : flat4 x = true) : scal x x = true := by
  cases x <;> first | rfl | cases h
theorem ne_bl (b : Bool) : (!decide (V.bl b = V.bl b)) = false := by simp
end Sf
namespace Sf
open PySem PySem.Spec PyProof.Rows L2 TL
/-! ### blocks by what holds ahead and behind -/
def Stp {ι : Type} (X : Cx) (st : Stmt) (pre post : ι → L2.St → Hp → Prop) : Prop := ∃ t, PS X st t ∧ ∀ (i : ι) (D : Ends) (σ : L2.St) (H : Hp), pre i σ H → (∀ σ' H', post i σ' H' → D.nx σ' H') → t D σ H
def Blk {ι : Type} (X : Cx) (sts : List Stmt) (pre post : ι → L2.St → Hp → Prop) : Prop := ∃ t, PSs X sts t ∧ ∀ (i : ι) (D : Ends) (σ : L2.St) (H : Hp), pre i σ H → (∀ σ' H', post i σ' H' → D.nx σ' H') → t D σ H
theorem Blk.cons {ι : Type} {X : Cx} {st : Stmt} {rest : List Stmt} {pre post : ι → L2.St → Hp → Prop} (mid : ι → L2.St → Hp → Prop) (a : Stp X st pre mid) (b : Blk X rest mid post) : Blk X (st :: rest) pre post := by
  obtain ⟨t, ht, h⟩ := a
  obtain ⟨u, hu, k⟩ := b
  exact ⟨tSeq t u, pss_cons ht hu, fun i D σ H hp hq => h i _ σ H hp fun σ' H' hm => k i D σ' H' hm hq⟩
theorem Blk.one {ι : Type} {X : Cx} {st : Stmt} {pre post : ι → L2.St → Hp → Prop} (a : Stp X st pre post) : Blk X [st] pre post := by
  obtain ⟨t, ht, h⟩ := a
  exact ⟨t, pss_one ht, h⟩
/-- the same within a block -/
theorem Stp.rng {ι : Type} {X : Cx} {tg iter : Expr} {body : List Stmt} {pos : Pos} {wi : TI} {k : Nat} {pre post : ι → L2.St → Hp → Prop} (Pv : ι → Nat → Nat → L2.St → Hp → Prop) (hp : PassesOwn (model X.prog X.w) X.A X.env X.xe) (hc : X.calm = true) (hi : PI X tg iter wi) (hg : PG X tg (gName k))
    (hk : ∀ (j : ι) (σ : L2.St) (H : Hp) (R : It → Hp → Prop), pre j σ H → (∀ n H1, Pv j n 0 σ H1 → R (Itr 0 n) H1) → wi σ H R)
    (hb : Blk (ι := ι × Nat × Nat) X body (fun i σ H => i.2.2 < i.2.1 ∧ ∃ σ0, Pv i.1 i.2.1 i.2.2 σ0 H ∧ σ = σ0.set k (some (.int (0 + (i.2.2 : Int))))) (fun i σ H => Pv i.1 i.2.1 (i.2.2 + 1) σ H))
    (hr : ∀ j n σ H, Pv j n n σ H → post j σ H) (hs : ∀ x, foldedSetIterable iter X.env x = pure x := by intro _; rfl) : Stp X (.For tg iter body [] pos) pre post := by
  obtain ⟨tb, hb, kb⟩ := hb
  refine ⟨_, ps_for hp hc hi hg hb hs, fun j D σ H h0 hq => ?_⟩
  refine hk j σ H _ h0 fun n H1 h0 => ?_
  exact for_range (lo := 0) (n := n) (Pv j n) h0 (fun i σ1 H2 hlt hv => kb (j, n, i) _ _ _ ⟨hlt, σ1, hv, rfl⟩ fun σ' H' h => h) (fun σ1 H2 hv => hq σ1 H2 (hr j n σ1 H2 hv))
/-- the rest of a def's body -/
def Tl (X : Cx) (sts : List Stmt) (D : Ends) (J : L2.St → Hp → Prop) : Prop := ∃ u, PSs X sts u ∧ ∀ σ H, J σ H → u D σ H
theorem Tl.start {X : Cx} {sts : List Stmt} {D : Ends} {σ : L2.St} {H : Hp} (h : Tl X sts D (fun σ' H' => σ' = σ ∧ H' = H)) : ∃ t, PSs X sts t ∧ t D σ H := by
  obtain ⟨u, hu, k⟩ := h
  exact ⟨u, hu, k σ H ⟨rfl, rfl⟩⟩
theorem Tl.cons {X : Cx} {st : Stmt} {rest : List Stmt} {D : Ends} {J : L2.St → Hp → Prop} (mid : L2.St → Hp → Prop) (a : Stp (ι := Unit) X st (fun _ => J) (fun _ => mid)) (b : Tl X rest D mid) : Tl X (st :: rest) D J := by
  obtain ⟨t, ht, h⟩ := a
  obtain ⟨u, hu, k⟩ := b
  exact ⟨tSeq t u, pss_cons ht hu, fun σ H hj => h () _ σ H hj k⟩
end Sf
namespace Sf
open PySem PySem.Spec PyProof.Rows L2 TL
section
variable {P : Program} {w : World} {K : PySem.W.Frag} {mg : Str → Option Value} {base : Heap}
/-! ### _law_pull: some number below many -/
def spPull : Sp := fun vs H Q _ => ∃ (b l : Addr) (n : Int), vs = [.ref b, .int n] ∧ Bag H b l ∧ 0 < n ∧ n < 1073741824 ∧
  ∀ (d : Int) (H' : Hp), 0 ≤ d → d < n → Bag H' b l → Fx b H H' → Q (.int d) H'
theorem sc_pull : FnScope ["_law_bag", "_law_many", "_law_cell", "_law_digit"] ["_law_bag", "_law_many"] (defScope s__law_pull) := ⟨rfl, rfl, rfl, by decide +kernel, rfl, by decide +kernel, by decide +kernel⟩
theorem ok_pull {f : Addr} {fd : FuncData} {j : Nat} (F : Fun K "_law_pull" "_law_pull" s__law_pull f fd) (ml : mg "len" = none) : FnOk P w K mg base CX0 (j + 1) f fd ["_law_bag", "_law_many"] spPull := by
  refine F.ok sc_pull (fun vs H Q E h => ?_) (fun cdv A outer s H vs Q E hr h => ?_)
  · obtain ⟨b, l, n, rfl, _⟩ := h
    rfl
  · obtain ⟨b, l, n, rfl, ⟨ns, k, z, r, hB⟩, hn0, hn1, q⟩ := h
    refine seq_by (fun σ H1 => ∃ (y2 : Option V) (k z r : Int), σ = [some (.ref b), some (.int n), y2, none] ∧ BagL H1 b l ns k z r ∧ Fx b H H1) ?_ ?_
    · refine ⟨_, pss_cons (ps_if (pt_cmpR op_gt (pe_ix ix_list (pv 0) pe_int (fun _ _ => rfl)) pe_int (nomark _))
          (pss_cons (ps_set (i := 3) sc_pull.nd rfl (.inl rfl) (pe_op op_mod (pe_ix ix_list (pv 0) pe_int (fun _ _ => rfl)) (pv 1)))
          (pss_cons (ps_asg (pe_op op_fdiv (pe_ix ix_list (pv 0) pe_int (fun _ _ => rfl)) (pv 1)) (pg_sub (pv 0) pe_int set_list))
          (pss_one (ps_ret (pv 3))))) pss_nil)
        (pss_cons (ps_asg (pe_op op_mod (pe_op op_add (pe_op op_add (pe_op op_mul (pe_op op_mod (pe_op op_mul (pe_ix ix_list (pv 0) pe_int (fun _ _ => rfl)) (pe_ix ix_list (pv 0) pe_int (fun _ _ => rfl))) pe_int) pe_int)
            (pe_op op_mul (pe_ix ix_list (pv 0) pe_int (fun _ _ => rfl)) pe_int)) pe_int) pe_int) (pg_sub (pv 0) pe_int set_list))
        (pss_one (ps_ret (pe_op op_mod (pe_op op_add (pe_op op_fdiv (pe_ix ix_list (pv 0) pe_int (fun _ _ => rfl)) pe_int) (pe_op op_mul (pe_op op_mod (pe_ix ix_list (pv 0) pe_int (fun _ _ => rfl)) pe_int) pe_int)) (pv 1))))), ?_⟩
      rintro σ H1 ⟨y2, k, z, r, rfl, B, fx⟩
      have hS := SqL.of (K := K) B.hb
      have rr0 := B.r0
      have rr1 := B.r1
      have zz0 := B.z0
      refine ⟨_, rfl, b, _, 2, _, rfl, rfl, hS, at_of (j := 2) rfl rfl, z, 0, rfl, rfl, _, rfl, ite2 (fun e => ?_) (fun e => ?_)⟩
      · have zp : 0 < z := of_decide_eq_true e
        refine ⟨_, rfl, b, _, 2, _, rfl, rfl, hS, at_of (j := 2) rfl rfl, _, rfl, z, n, rfl, rfl, hn0, ?_⟩
        refine ⟨_, rfl, b, _, 2, _, rfl, rfl, hS, at_of (j := 2) rfl rfl, _, rfl, z, n, rfl, rfl, ⟨hn0, hn1⟩, ?_⟩
        refine ⟨_, rfl, b, _, 2, 2, rfl, rfl, B.hb, rfl, ?_⟩
        refine ⟨_, rfl, ?_⟩
        refine q _ _ (Int.emod_nonneg _ (by omega)) (Int.emod_lt_of_pos _ hn0) ⟨ns, k, z / n, r, B.set B.k0 (Int.ediv_nonneg B.z0 (by omega)) B.r0 B.r1⟩ fx.upd
      · refine ⟨_, rfl, b, _, 3, _, rfl, rfl, hS, at_of (j := 3) rfl rfl, _, rfl, b, _, 3, _, rfl, rfl, hS, at_of (j := 3) rfl rfl, r, r, rfl, rfl, .inl ⟨by omega, by omega⟩,
          _, 2147483629, rfl, rfl, (by show (0 : Int) < 2147483629; decide), _, 5, rfl, rfl, .inr ⟨by decide, by decide⟩,
          _, rfl, b, _, 3, _, rfl, rfl, hS, at_of (j := 3) rfl rfl, r, 16807, rfl, rfl, .inr ⟨by decide, by decide⟩, _, _, rfl, rfl, _, 2531011, rfl, rfl, _, 2147483647, rfl, rfl, (by show (0 : Int) < 2147483647; decide), ?_⟩
        refine ⟨_, rfl, b, _, 3, 3, rfl, rfl, B.hb, rfl, ?_⟩
        have h0 : 0 ≤ (r * r % 2147483629 * 5 + r * 16807 + 2531011) % 2147483647 := Int.emod_nonneg _ (by decide)
        have h1 : (r * r % 2147483629 * 5 + r * 16807 + 2531011) % 2147483647 < 2147483647 := Int.emod_lt_of_pos _ (by decide)
        have B' : BagL (upd H1 b (.lst [.ref l, .int k, .int z, .int ((r * r % 2147483629 * 5 + r * 16807 + 2531011) % 2147483647)])) b l ns k z ((r * r % 2147483629 * 5 + r * 16807 + 2531011) % 2147483647) := B.set B.k0 B.z0 h0 h1
        have hS' := SqL.of (K := K) B'.hb
        refine ⟨_, rfl, b, _, 3, _, rfl, rfl, hS', at_of (j := 3) rfl rfl, _, 61, rfl, rfl, ⟨by decide, by decide⟩,
          _, rfl, b, _, 3, _, rfl, rfl, hS', at_of (j := 3) rfl rfl, _, 8191, rfl, rfl, (by show (0 : Int) < 8191; decide), _, 31, rfl, rfl, .inr ⟨by decide, by decide⟩, _, _, rfl, rfl, _, rfl, _, n, rfl, rfl, hn0, ?_⟩
        exact q _ _ (Int.emod_nonneg _ (by omega)) (Int.emod_lt_of_pos _ hn0) ⟨ns, k, z, _, B'⟩ fx.upd
    · intro u hu
      have hS := SqL.of (K := K) hB.hb
      have hS2 := SqL.of (K := K) hB.hl
      have rr0 := hB.r0
      have rr1 := hB.r1
      have zz0 := hB.z0
      have kk0 := hB.k0
      refine ⟨_, ps_if (PW.pt (pw_and (pt_cmpR op_eq (pe_ix ix_list (pv 0) pe_int (fun _ _ => rfl)) pe_int (nomark _))
            (pw_and1 (pt_cmpR op_lt (pe_ix ix_list (pv 0) pe_int (fun _ _ => rfl)) (pe_callB call_len_seq (by rfl) ml PySem.boot_len (pa_cons (pe_ix ix_list (pv 0) pe_int (fun _ _ => rfl)) pa_nil)) (nomark _)))))
          (pss_cons (ps_set (i := 2) sc_pull.nd rfl (.inl rfl) (pe_ix ix_list (pe_ix ix_list (pv 0) pe_int (fun _ _ => rfl)) (pe_ix ix_list (pv 0) pe_int (fun _ _ => rfl)) (fun _ _ => rfl)))
          (pss_cons (ps_asg (pe_op op_add (pe_ix ix_list (pv 0) pe_int (fun _ _ => rfl)) pe_int) (pg_sub (pv 0) pe_int set_list))
          (pss_one (ps_if (pt_cmpR op_ge (pv 2) (pe_op op_pow pe_int pe_int) (nomark _))
            (pss_one (ps_asg (pv 2) (pg_sub (pv 0) pe_int set_list)))
            (pss_one (ps_asg (pe_op op_mod (pe_op op_add (pe_op op_add (pe_op op_mul (pe_ix ix_list (pv 0) pe_int (fun _ _ => rfl)) pe_int) (pe_op op_mul (pe_op op_mod (pv 2) pe_int) pe_int)) pe_int) pe_int) (pg_sub (pv 0) pe_int set_list)))))))
          pss_nil, ?_⟩
      refine ⟨_, rfl, b, _, 2, _, rfl, rfl, hS, at_of (j := 2) rfl rfl, rfl, _, rfl, ite2 (fun e => ?_) (fun e => ?_)⟩
      · refine ⟨_, rfl, b, _, 1, _, rfl, rfl, hS, at_of (j := 1) rfl rfl, _, rfl, b, _, 0, _, rfl, rfl, hS, at_of (j := 0) rfl rfl, l, _, rfl, .inl hS2, k, _, rfl, rfl, _, rfl, ite2 (fun e2 => ?_) (fun e2 => ?_)⟩
        · obtain ⟨v, hv⟩ := int_at (ns := ns) kk0 (of_decide_eq_true e2)
          refine ⟨_, rfl, b, _, 0, _, rfl, rfl, hS, at_of (j := 0) rfl rfl, _, rfl, b, _, 1, _, rfl, rfl, hS, at_of (j := 1) rfl rfl, l, _, k, _, rfl, rfl, hS2, hv, ?_⟩
          refine ⟨_, rfl, b, _, 1, _, rfl, rfl, hS, at_of (j := 1) rfl rfl, k, 1, rfl, rfl, _, rfl, b, _, 1, 1, rfl, rfl, hB.hb, rfl, ?_⟩
          have B' : BagL (upd H b (.lst [.ref l, .int (k + 1), .int z, .int r])) b l ns (k + 1) z r := hB.set (by omega) zz0 rr0 rr1
          have hS' := SqL.of (K := K) B'.hb
          refine ⟨_, rfl, 10, 18, rfl, rfl, ⟨by decide, by decide, by decide⟩, v, _, rfl, rfl, _, rfl, ite2 (fun e3 => ?_) (fun e3 => ?_)⟩
          · have hv0 : 0 ≤ v := by
              have := of_decide_eq_true e3
              have h18 : (10 : Int) ^ (18 : Int).toNat = 1000000000000000000 := by decide +kernel
              rw [h18] at this
              omega
            refine ⟨_, rfl, _, rfl, b, _, 2, 2, rfl, rfl, B'.hb, rfl, ?_⟩
            exact hu _ _ ⟨some (.int v), k + 1, v, r, rfl, B'.set B'.k0 hv0 rr0 rr1, Fx.refl.upd.upd⟩
          · refine ⟨_, rfl, b, _, 3, _, rfl, rfl, hS', at_of (j := 3) rfl rfl, r, 48271, rfl, rfl, .inr ⟨by decide, by decide⟩, _, rfl, v, 2147483629, rfl, rfl, (by show (0 : Int) < 2147483629; decide), _, 69621, rfl, rfl, .inr ⟨by decide, by decide⟩,
              _, _, rfl, rfl, _, 12345, rfl, rfl, _, 2147483647, rfl, rfl, (by show (0 : Int) < 2147483647; decide), ?_⟩
            refine ⟨_, rfl, b, _, 3, 3, rfl, rfl, B'.hb, rfl, ?_⟩
            exact hu _ _ ⟨some (.int v), k + 1, z, _, rfl, B'.set B'.k0 B'.z0 (Int.emod_nonneg _ (by decide)) (Int.emod_lt_of_pos _ (by decide)), Fx.refl.upd.upd⟩
        · exact hu _ _ ⟨none, k, z, r, rfl, hB, .refl⟩
      · exact iteF (hu _ _ ⟨none, k, z, r, rfl, hB, .refl⟩)
end
end Sf
namespace Sf
open PySem PySem.Spec PyProof.Rows L2 TL
section
variable {P : Program} {w : World} {K : PySem.W.Frag} {mg : Str → Option Value} {base : Heap}
abbrev HasPull (P : Program) (w : World) (K : PySem.W.Frag) (mg : Str → Option Value) (base : Heap) : Prop := Has P w K mg base 1 "_law_pull" ["_law_bag", "_law_many"] spPull
theorem has_pull (F : FnAt K mg "_law_pull" s__law_pull ["_law_bag", "_law_many"]) (B : Blt mg) : HasPull P w K mg base := F.has fun F => ok_pull F B.len
/-! ### _law_flip -/
def spFlip : Sp := fun vs H Q _ => ∃ c : Nat, vs = [.str (one c)] ∧ sgn c = true ∧ Q (.str (one (flipC c))) H
abbrev HasFlip (P : Program) (w : World) (K : PySem.W.Frag) (mg : Str → Option Value) (base : Heap) : Prop := Has P w K mg base 1 "_law_flip" ["_law_sign_here"] spFlip
theorem sc_flip : FnScope ["_law_sign_here"] ["_law_sign_here"] (defScope s__law_flip) := ⟨rfl, rfl, rfl, by decide +kernel, rfl, by decide +kernel, by decide +kernel⟩
theorem has_flip (F : FnAt K mg "_law_flip" s__law_flip ["_law_sign_here"]) : HasFlip P w K mg base := F.has fun F => by
  refine F.ok sc_flip (fun vs H Q E h => ?_) (fun cdv A outer s H vs Q E hr h => ?_)
  · obtain ⟨c, rfl, _⟩ := h
    rfl
  · obtain ⟨c, rfl, hc, q⟩ := h
    refine ⟨_, pss_one (ps_ret (pe_ifExp (pt_cmpR op_in_sign (pv 0) pe_str rfl) (pe_upper (pv 0)) (pe_lower (pv 0)))), ?_⟩
    refine ⟨_, rfl, c, _, rfl, rfl, _, rfl, ite2 (fun e => ?_) (fun e => ?_)⟩
    · have h := in_small.mp (of_decide_eq_true e)
      refine ⟨_, rfl, ⟨_, rfl⟩, _, rfl, rfl, by rw [len_one]; decide, ?_⟩
      rw [upper_one h]
      rw [flipC, if_pos h.1] at q
      exact q
    · have h : ¬ (97 ≤ c ∧ c ≤ 104) := fun z => e (decide_eq_true (in_small.mpr z))
      rw [sgn_iff] at hc
      refine ⟨_, rfl, ⟨_, rfl⟩, _, rfl, rfl, by rw [len_one]; decide, ?_⟩
      rw [lower_one (by omega)]
      rw [flipC, if_neg (by omega)] at q
      exact q
/-! ### _law_sign -/
def spSign : Sp := fun vs H Q _ => ∃ (b l : Addr) (n : Int), vs = [.ref b, .int n] ∧ Bag H b l ∧ 0 < n ∧ n ≤ 8 ∧
  ∀ (c : Nat) (H' : Hp), sgn c = true → Bag H' b l → Fx b H H' → Q (.str (one c)) H'
abbrev HasSign (P : Program) (w : World) (K : PySem.W.Frag) (mg : Str → Option Value) (base : Heap) : Prop := Has P w K mg base 2 "_law_sign" ["_law_bag", "_law_many"] spSign
theorem sc_sign : FnScope ["_law_bag", "_law_many"] ["_law_bag", "_law_many"] (defScope s__law_sign) := ⟨rfl, rfl, rfl, by decide +kernel, rfl, by decide +kernel, by decide +kernel⟩
theorem has_sign (F : FnAt K mg "_law_sign" s__law_sign ["_law_bag", "_law_many"]) (hP : HasPull P w K mg base) : HasSign P w K mg base := F.has fun F => by
  obtain ⟨fP, fdP, gP, kP, bP, GP⟩ := hP
  refine F.ok sc_sign (fun vs H Q E h => ?_) (fun cdv A outer s H vs Q E hr h => ?_)
  · obtain ⟨b, l, n, rfl, _⟩ := h
    rfl
  · obtain ⟨b, l, n, rfl, hB, hn0, hn1, q⟩ := h
    refine ⟨_, pss_one (ps_ret (pe_ix ix_str (pe_ix ix_list (pe_lst (pa_cons pe_str (pa_cons pe_str pa_nil))) (pe_call GP hr (by rfl) gP kP bP .nil pass0 (pa_cons (pv 0) (pa_cons pe_int pa_nil))) (fun _ _ => rfl))
      (pe_call GP hr (by rfl) gP kP bP .nil pass0 (pa_cons (pv 0) (pa_cons (pv 1) pa_nil))) (fun _ _ => rfl))), ?_⟩
    refine ⟨by decide, fun p np => ?_⟩
    refine ⟨_, rfl, b, l, 2, rfl, hB.new np, by decide, by decide, fun d H1 d0 d1 B1 f1 => ?_⟩
    have hp : H1 p = some (.lst [.str "abcdefgh", .str "ABCDEFGH"]) := f1 _ _ upd_same (hB.ne np)
    have hd : d = 0 ∨ d = 1 := by omega
    rcases hd with rfl | rfl
    · refine ⟨p, _, 0, _, rfl, rfl, SqL.of hp, at_of (j := 0) rfl rfl, ?_⟩
      refine ⟨_, rfl, _, rfl, b, l, n, rfl, B1, hn0, by omega, fun e H2 e0 e1 B2 f2 => ?_⟩
      refine ⟨_, e, _, rfl, rfl, (by decide +kernel), at_small e0 (by omega), ?_⟩
      exact q _ _ (sgn_iff.mpr (by omega)) B2 ((Fx.new .refl np).trans (f1.trans f2))
    · refine ⟨p, _, 1, _, rfl, rfl, SqL.of hp, at_of (j := 1) rfl rfl, ?_⟩
      refine ⟨_, rfl, _, rfl, b, l, n, rfl, B1, hn0, by omega, fun e H2 e0 e1 B2 f2 => ?_⟩
      refine ⟨_, e, _, rfl, rfl, (by decide +kernel), at_great e0 (by omega), ?_⟩
      exact q _ _ (sgn_iff.mpr (by omega)) B2 ((Fx.new .refl np).trans (f1.trans f2))
/-! ### _law_word -/
def spWord : Sp := fun vs H Q _ => ∃ (b l : Addr) (u n : Int), vs = [.ref b, .int u, .int n] ∧ Bag H b l ∧ 0 ≤ u ∧ u ≤ 1000 ∧ 0 < n ∧ n ≤ 8 ∧
  ∀ (x : Str) (H' : Hp), Wd x → x.length ≤ u.toNat → Bag H' b l → Fx b H H' → Q (.str x) H'
abbrev HasWord (P : Program) (w : World) (K : PySem.W.Frag) (mg : Str → Option Value) (base : Heap) : Prop := Has P w K mg base 3 "_law_word" ["_law_bag", "_law_upto", "_law_many"] spWord
theorem sc_word : FnScope ["_law_bag", "_law_upto", "_law_many", "_law_found", "_law_turn", "_law_sign_here"] ["_law_bag", "_law_upto", "_law_many"] (defScope s__law_word) := ⟨rfl, rfl, rfl, by decide +kernel, rfl, by decide +kernel, by decide +kernel⟩
theorem has_word (F : FnAt K mg "_law_word" s__law_word ["_law_bag", "_law_upto", "_law_many"]) (B : Blt mg) (hP : HasPull P w K mg base) (hS : HasSign P w K mg base) (hF : HasFlip P w K mg base) : HasWord P w K mg base := F.has fun F => by
  obtain ⟨fP, fdP, gP, kP, bP, GP⟩ := hP
  obtain ⟨fS, fdS, gS, kS, bS, GS⟩ := hS
  obtain ⟨fF, fdF, gF, kF, bF, GF⟩ := hF
  refine F.ok sc_word (fun vs H Q E h => ?_) (fun cdv A outer s H vs Q E hr h => ?_)
  · obtain ⟨b, l, u, n, rfl, _⟩ := h
    rfl
  · obtain ⟨b, l, u, n, rfl, hB, hu0, hu1, hn0, hn1, q⟩ := h
    have hr1 : Room 1 _ := hr.mono (by decide)
    refine ⟨_, pss_cons (ps_set (i := 3) sc_word.nd rfl (.inl rfl) pe_str)
      (pss_cons (ps_for PassesOwn.never rfl (pi_range1 rfl B.range (pa_cons (pe_call GP hr1 (by rfl) gP kP bP .nil pass0 (pa_cons (pv 0) (pa_cons (pe_op op_add (pv 1) pe_int) pa_nil))) pa_nil)) (pg_name (i := 4) sc_word.nd rfl (.inl rfl))
        (pss_cons (ps_set (i := 5) sc_word.nd rfl (.inl rfl) (pe_call GS hr (by rfl) gS kS bS .nil pass0 (pa_cons (pv 0) (pa_cons (pv 2) pa_nil))))
        (pss_cons (ps_if (PW.pt (pw_and (pt_cmpR op_ne (pv 3) pe_str (nomark _)) (pw_and1 (pt_cmpR op_eq (pe_call GP hr1 (by rfl) gP kP bP .nil pass0 (pa_cons (pv 0) (pa_cons pe_int pa_nil))) pe_int (nomark _)))))
          (pss_one (ps_set (i := 5) sc_word.nd rfl (.inl rfl) (pe_call GF hr1 (by rfl) gF kF bF .nil pass0 (pa_cons (pe_ix ix_str (pv 3) (pe_un un_neg pe_int) (fun _ _ => rfl)) pa_nil)))) pss_nil)
        (pss_one (ps_set (i := 3) sc_word.nd rfl (.inl rfl) (pe_op op_add_str (pv 3) (pv 5)))))))
      (pss_one (ps_ret (pv 3)))), ?_⟩
    refine ⟨_, rfl, _, rfl, u, 1, rfl, rfl, b, l, u + 1, rfl, hB, by omega, by omega, fun d H1 d0 d1 B1 f1 => ?_⟩
    refine ⟨d, rfl, by omega, by omega, for_range (lo := 0) (n := d.toNat) (fun i σ H2 => ∃ (x : Str) (y4 y5 : Option V), σ = [some (.ref b), some (.int u), some (.int n), some (.str x), y4, y5] ∧ Wd x ∧ x.length ≤ i ∧ Bag H2 b l ∧ Fx b H H2)
      ⟨"", none, none, rfl, wd_nil, (by decide +kernel), B1, f1⟩ ?_ ?_⟩
    · rintro i σ H2 hi ⟨x, y4, y5, rfl, hx, hlen, B2, f2⟩
      have hsz : x.length + 1 ≤ sizeLine := Nat.le_trans (Nat.add_le_add_right (Nat.le_trans hlen (by omega : i ≤ 1000)) 1) (by decide)
      refine ⟨_, rfl, _, rfl, b, l, n, rfl, B2, hn0, hn1, fun c H3 hc B3 f3 => ?_⟩
      have fin : ∀ (c : Nat) (H4 : Hp), sgn c = true → Bag H4 b l → Fx b H H4 → ∃ (x' : Str) (y4 y5 : Option V), [some (V.ref b), some (.int u), some (.int n), some (.str (x ++ one c)), some (.int (0 + i)), some (.str (one c))] = [some (.ref b), some (.int u), some (.int n), some (.str x'), y4, y5] ∧ Wd x' ∧ x'.length ≤ i + 1 ∧ Bag H4 b l ∧ Fx b H H4 :=
        fun c H4 hc B4 f4 => ⟨_, _, _, rfl, hx.app (wd_one hc), by rw [len_app, len_one]; omega, B4, f4⟩
      refine ⟨_, rfl, rfl, _, rfl, ite2 (fun e => ?_) (fun e => ?_)⟩
      · refine ⟨_, rfl, b, l, 4, rfl, B3, by decide, by decide, fun d2 H4 _ _ B4 f4 => ?_⟩
        refine ⟨rfl, _, rfl, ite2 (fun e2 => ?_) (fun e2 => ?_)⟩
        · have hne : tl x ≠ [] := str_ne fun z => by
            rw [z] at e
            simp at e
          obtain ⟨c2, hc2, hm⟩ := at_end hne
          refine ⟨_, rfl, 1, rfl, x, _, c2, rfl, rfl, by omega, hc2, c2, rfl, hx c2 hm, ?_⟩
          exact ⟨_, rfl, _, rfl, x, _, rfl, rfl, hsz, fin _ _ (flip_sgn (hx c2 hm)) B4 (f2.trans (f3.trans f4))⟩
        · exact ⟨_, rfl, _, rfl, x, _, rfl, rfl, hsz, fin _ _ hc B4 (f2.trans (f3.trans f4))⟩
      · exact iteF ⟨_, rfl, _, rfl, x, _, rfl, rfl, hsz, fin _ _ hc B3 (f2.trans f3)⟩
    · rintro σ H2 ⟨x, y4, y5, rfl, hx, hlen, B2, f2⟩
      exact ⟨_, rfl, q x H2 hx (by omega) B2 f2⟩
end
end Sf
namespace Sf
open PySem PySem.Spec PyProof.Rows L2 TL
section
variable {P : Program} {w : World} {K : PySem.W.Frag} {mg : Str → Option Value} {base : Heap}
/-! ### _law_begin -/
def spBegin (K : PySem.W.Frag) : Sp := fun vs H Q _ => ∃ (a : Addr) (ns : List Int), vs = [.ref a] ∧ SqL K H a (ns.map V.int) ∧ ∀ (b l : Addr) (H' : Hp), H b = none → Bag H' b l → Same H H' → Q (.ref b) H'
abbrev HasBegin (P : Program) (w : World) (K : PySem.W.Frag) (mg : Str → Option Value) (base : Heap) : Prop := Has P w K mg base 1 "_law_begin" ["_law_script"] (spBegin K)
theorem sc_begin : FnScope ["_law_script", "_law_salt", "_law_cell"] ["_law_script"] (defScope s__law_begin) := ⟨rfl, rfl, rfl, by decide +kernel, rfl, by decide +kernel, by decide +kernel⟩
theorem cut_ints (ns : List Int) (lo hi : Option Int) : ∃ ms : List Int, cutV (ns.map V.int) lo hi = ms.map V.int := by
  refine ⟨(ns.drop (HT.sIx (ns.map V.int).length 0 lo)).take (HT.sIx (ns.map V.int).length (ns.map V.int).length hi - HT.sIx (ns.map V.int).length 0 lo), ?_⟩
  unfold cutV
  rw [List.map_take, List.map_drop]
theorem has_begin (F : FnAt K mg "_law_begin" s__law_begin ["_law_script"]) (B : Blt mg) : HasBegin P w K mg base := F.has fun F => by
  refine F.ok sc_begin (fun vs H Q E h => ?_) (fun cdv A outer s H vs Q E hr h => ?_)
  · obtain ⟨a, ns, rfl, _⟩ := h
    rfl
  · obtain ⟨a, ns, rfl, hS, q⟩ := h
    refine ⟨_, pss_cons (ps_set (i := 1) sc_begin.nd rfl (.inl rfl) pe_int)
      (pss_cons (ps_for PassesOwn.never rfl (pi_list (pe_slice sl_list (pv 0) po_none (po_some pe_int))) (pg_name (i := 2) sc_begin.nd rfl (.inl rfl))
        (pss_one (ps_set (i := 1) sc_begin.nd rfl (.inl rfl) (pe_op op_mod (pe_op op_add (pe_op op_add (pe_op op_mul (pv 1) pe_int) (pe_op op_mod (pv 2) pe_int)) pe_int) pe_int))))
      (pss_one (ps_ret (pe_lst (pa_cons (pe_callTy call_list_of (by rfl) B.list (by decide +kernel) (pa_cons (pe_slice sl_list (pv 0) po_none (po_some pe_int)) pa_nil)) (pa_cons pe_int (pa_cons pe_int (pa_cons (pv 1) pa_nil)))))))), ?_⟩
    obtain ⟨ms, em⟩ := cut_ints ns none (some 63)
    refine ⟨_, rfl, 63, rfl, a, _, rfl, hS, fun p np => ?_⟩
    have s1 : Same H (upd H p (.lst (cutV (ns.map V.int) none (some 63)))) := same_upd np
    have hp : SqL K (upd H p (.lst (cutV (ns.map V.int) none (some 63)))) p (ms.map V.int) := SqL.of (by rw [upd_same, em])
    refine ⟨p, rfl, ⟨_, hp⟩, for_list (K := K) (a := p) (xs := ms.map V.int) (fun i σ H2 => ∃ (r : Int) (y : Option V), σ = [some (.ref a), some (.int r), y] ∧ 0 ≤ r ∧ r < 2147483647 ∧ H2 = upd H p (.lst (cutV (ns.map V.int) none (some 63))))
      ⟨977, none, rfl, by decide, by decide, rfl⟩ (fun i σ H2 _ ⟨_, _, _, _, _, e⟩ => by rw [e]; exact hp) ?_ ?_⟩
    · rintro i v σ H2 hi ⟨r, y, rfl, r0, r1, rfl⟩
      obtain ⟨z, rfl⟩ : ∃ z, v = V.int z := by
        rw [List.getElem?_map] at hi
        cases e : ms[i]? with
        | none =>
          rw [e] at hi
          cases hi
        | some z =>
          rw [e] at hi
          exact ⟨z, (Option.some.inj hi).symm⟩
      refine ⟨_, rfl, r, 1009, rfl, rfl, .inr ⟨by decide, by decide⟩, _, rfl, z, 2147483629, rfl, rfl, (by show (0 : Int) < 2147483629; decide), _, _, rfl, rfl, _, 7, rfl, rfl, _, 2147483629, rfl, rfl, (by show (0 : Int) < 2147483629; decide), ?_⟩
      have h0 : 0 ≤ (r * 1009 + z % 2147483629 + 7) % 2147483629 := Int.emod_nonneg _ (by decide)
      have h1 : (r * 1009 + z % 2147483629 + 7) % 2147483629 < 2147483629 := Int.emod_lt_of_pos _ (by decide)
      exact ⟨_, _, rfl, h0, by omega, rfl⟩
    · rintro σ H2 ⟨r, y, rfl, r0, r1, rfl⟩
      refine ⟨_, rfl, 63, rfl, a, _, rfl, s1.seq hS, fun p2 np2 => ?_⟩
      have hp2 : SqL K (upd (upd H p (.lst (cutV (ns.map V.int) none (some 63)))) p2 (.lst (cutV (ns.map V.int) none (some 63)))) p2 (ms.map V.int) := SqL.of (by rw [upd_same, em])
      have s2 := s1.trans (same_upd (o := .lst (cutV (ns.map V.int) none (some 63))) np2)
      refine ⟨p2, _, rfl, .inl hp2, fun l nl => ?_⟩
      have s3 := s2.trans (same_upd (o := .lst (ms.map V.int)) nl)
      refine ⟨_, rfl, (by show 4 ≤ sizeLine; decide), fun b nb => ?_⟩
      have s4 := s3.trans (same_upd (o := .lst [.ref l, .int 0, .int 0, .int r]) nb)
      refine q b l _ (s3.free nb) ⟨ms, 0, 0, r, upd_same, ?_, by decide, by decide, r0, r1⟩ s4
      have nlb : l ≠ b := fun z => by
        rw [← z, upd_same] at nb
        cases nb
      rw [upd_ne nlb, upd_same]
end
end Sf
namespace Sf
open PySem PySem.Spec PyProof.Rows L2 TL
section
variable {P : Program} {w : World} {K : PySem.W.Frag} {mg : Str → Option Value} {base : Heap}
/-! ### _law_same: True of two values of the same data -/
def spSame (n : Nat) : Sp := fun vs H Q _ => ∃ x y : V, vs = [x, y] ∧ Eqv H n x y ∧ ∀ H', Same H H' → Q (.bl true) H'
abbrev HasSame (P : Program) (w : World) (K : PySem.W.Frag) (mg : Str → Option Value) (base : Heap) (n : Nat) : Prop := Has P w K mg base (n + 1) "_law_same" ["_law_found", "_law_due"] (spSame n)
theorem sc_same : FnScope ["_law_found", "_law_due", "_law_one", "_law_other"] ["_law_found", "_law_due"] (defScope s__law_same) := ⟨rfl, rfl, rfl, by decide +kernel, rfl, by decide +kernel, by decide +kernel⟩
theorem all_true (n : Nat) : (List.replicate n true).all id = true := by
  induction n with
  | zero => rfl
  | succ n ih => rw [List.replicate_succ, List.all_cons, ih]; rfl
theorem has_same (F : FnAt K mg "_law_same" s__law_same ["_law_found", "_law_due"]) (B : Blt mg) : ∀ n, HasSame P w K mg base n := by
  intro n
  induction n with
  | zero =>
    refine F.has fun F => ?_
    refine F.ok sc_same (fun vs H Q E h => ?_) (fun cdv A outer s H vs Q E hr h => ?_)
    · obtain ⟨x, y, rfl, _⟩ := h
      rfl
    · obtain ⟨x, y, rfl, ⟨fx, rfl⟩, q⟩ := h
      obtain ⟨T, b1, b2, b3, ty, k1, k2, k3, k4, k5⟩ := flat_kit (K := K) (H := H) fx
      refine ⟨_, pss_cons (ps_if (pt_val (pe_callB call_isiT (by rfl) B.isinstance (by decide +kernel) (pa_cons (pv 1) (pa_cons (pe_tup (pa_cons (pe_bltn (v := .ty "list") (by rfl) B.list (by decide +kernel) rfl) (pa_cons (pe_bltn (v := .ty "tuple") (by rfl) B.tuple (by decide +kernel) rfl) pa_nil))) pa_nil)))) pss_never pss_nil)
        (pss_cons (ps_if (PW.pt (pw_or (pt_cmpR op_isN (pv 1) pe_non (nomark _)) (pw_or1 (pt_cmpR op_isN (pv 0) pe_non (nomark _))))) (pss_one (ps_ret (pe_and (pe_cmpR op_isN (pv 0) pe_non (nomark _)) (pe_one (pe_cmpR op_isN (pv 1) pe_non (nomark _)))))) pss_nil)
        (pss_cons (ps_if (PW.pt (pw_or (pt_cmpR op_ne (pe_callB call_isi (by rfl) B.isinstance (by decide +kernel) (pa_cons (pv 0) (pa_cons (pe_bltn (v := .ty "bool") (by rfl) B.bool (by decide +kernel) rfl) pa_nil))) (pe_callB call_isi (by rfl) B.isinstance (by decide +kernel) (pa_cons (pv 1) (pa_cons (pe_bltn (v := .ty "bool") (by rfl) B.bool (by decide +kernel) rfl) pa_nil))) (nomark _))
            (pw_or1 (pt_cmpR op_ne (pe_callB call_isi (by rfl) B.isinstance (by decide +kernel) (pa_cons (pv 0) (pa_cons (pe_bltn (v := .ty "int") (by rfl) B.int (by decide +kernel) rfl) pa_nil))) (pe_callB call_isi (by rfl) B.isinstance (by decide +kernel) (pa_cons (pv 1) (pa_cons (pe_bltn (v := .ty "int") (by rfl) B.int (by decide +kernel) rfl) pa_nil))) (nomark _))))) pss_never pss_nil)
        (pss_one (ps_ret (pe_and (pe_cmpR op_eq (pe_callB call_isi (by rfl) B.isinstance (by decide +kernel) (pa_cons (pv 0) (pa_cons (pe_bltn (v := .ty "str") (by rfl) B.str (by decide +kernel) rfl) pa_nil))) (pe_callB call_isi (by rfl) B.isinstance (by decide +kernel) (pa_cons (pv 1) (pa_cons (pe_bltn (v := .ty "str") (by rfl) B.str (by decide +kernel) rfl) pa_nil))) (nomark _)) (pe_one (pe_cmpR op_eq (pv 0) (pv 1) (nomark _)))))))), ?_⟩
      refine ⟨x, rfl, (by show 2 ≤ sizeLine; decide), fun p np => ?_⟩
      have s1 := same_upd (o := .tup [.ty "list", .ty "tuple"]) np
      have ty1 := TyX.same s1 fx ty
      refine ⟨x, p, _, _, [.type "list", .type "tuple"], false, rfl, upd_same, .cons (.ty _) (.cons (.ty _) .nil), ty1, kit2 k1 k2, _, rfl, iteF ?_⟩
      refine ⟨x, rfl, rfl, _, rfl, ite2 (fun e => ?_) (fun e => ?_)⟩
      · have ex : x = .non := of_decide_eq_true e
        subst ex
        refine iteT ⟨_, rfl, rfl, _, rfl, ite2 (fun _ => ⟨_, rfl, rfl, ?_⟩) (fun z => absurd (decide_eq_true rfl) z)⟩
        exact q _ s1
      · refine ⟨x, rfl, rfl, _, rfl, ite2 (fun e2 => absurd e2 e) (fun _ => ?_)⟩
        refine ⟨x, rfl, x, _, _, _, b1, rfl, .ty "bool", ty1, kit_ty k3, x, rfl, x, _, _, _, b1, rfl, .ty "bool", ty1, kit_ty k3, rfl, _, rfl, ite2 (fun z => ?_) (fun _ => ?_)⟩
        · rw [ne_bl] at z
          cases z
        · refine ⟨x, rfl, x, _, _, _, b2, rfl, .ty "int", ty1, kit_ty k4, x, rfl, x, _, _, _, b2, rfl, .ty "int", ty1, kit_ty k4, rfl, _, rfl, ite2 (fun z => ?_) (fun _ => ?_)⟩
          · rw [ne_bl] at z
            cases z
          · refine ⟨x, rfl, x, _, _, _, b3, rfl, .ty "str", ty1, kit_ty k5, x, rfl, x, _, _, _, b3, rfl, .ty "str", ty1, kit_ty k5, rfl, _, rfl, ite2 (fun z => ?_) (fun z => absurd (decide_eq_true rfl) z)⟩
            refine ⟨x, rfl, x, rfl, scal_flat fx, ?_⟩
            rw [decide_eq_true rfl]
            exact q _ s1
  | succ n ih =>
    obtain ⟨fR, fdR, gR, kR, bR, GR⟩ := ih
    refine F.has fun F => ?_
    refine F.ok sc_same (fun vs H Q E h => ?_) (fun cdv A outer s H vs Q E hr h => ?_)
    · obtain ⟨x, y, rfl, _⟩ := h
      rfl
    · obtain ⟨x, y, rfl, hE, q⟩ := h
      refine seq_by (fun σ H1 => σ = [some x, some x, none, none] ∧ flat4 x = true ∧ Same H H1) ?_ ?_
      · refine ⟨_, (pss_cons (ps_if (PW.pt (pw_or (pt_cmpR op_isN (pv 1) pe_non (nomark _)) (pw_or1 (pt_cmpR op_isN (pv 0) pe_non (nomark _))))) (pss_one (ps_ret (pe_and (pe_cmpR op_isN (pv 0) pe_non (nomark _)) (pe_one (pe_cmpR op_isN (pv 1) pe_non (nomark _)))))) pss_nil)
        (pss_cons (ps_if (PW.pt (pw_or (pt_cmpR op_ne (pe_callB call_isi (by rfl) B.isinstance (by decide +kernel) (pa_cons (pv 0) (pa_cons (pe_bltn (v := .ty "bool") (by rfl) B.bool (by decide +kernel) rfl) pa_nil))) (pe_callB call_isi (by rfl) B.isinstance (by decide +kernel) (pa_cons (pv 1) (pa_cons (pe_bltn (v := .ty "bool") (by rfl) B.bool (by decide +kernel) rfl) pa_nil))) (nomark _))
            (pw_or1 (pt_cmpR op_ne (pe_callB call_isi (by rfl) B.isinstance (by decide +kernel) (pa_cons (pv 0) (pa_cons (pe_bltn (v := .ty "int") (by rfl) B.int (by decide +kernel) rfl) pa_nil))) (pe_callB call_isi (by rfl) B.isinstance (by decide +kernel) (pa_cons (pv 1) (pa_cons (pe_bltn (v := .ty "int") (by rfl) B.int (by decide +kernel) rfl) pa_nil))) (nomark _))))) pss_never pss_nil)
        (pss_one (ps_ret (pe_and (pe_cmpR op_eq (pe_callB call_isi (by rfl) B.isinstance (by decide +kernel) (pa_cons (pv 0) (pa_cons (pe_bltn (v := .ty "str") (by rfl) B.str (by decide +kernel) rfl) pa_nil))) (pe_callB call_isi (by rfl) B.isinstance (by decide +kernel) (pa_cons (pv 1) (pa_cons (pe_bltn (v := .ty "str") (by rfl) B.str (by decide +kernel) rfl) pa_nil))) (nomark _)) (pe_one (pe_cmpR op_eq (pv 0) (pv 1) (nomark _)))))))), ?_⟩
        rintro σ H1 ⟨rfl, fx, s1⟩
        obtain ⟨T, b1, b2, b3, ty1, k1, k2, k3, k4, k5⟩ := flat_kit (K := K) (H := H1) fx
        refine ⟨x, rfl, rfl, _, rfl, ite2 (fun e => ?_) (fun e => ?_)⟩
        · have ex : x = .non := of_decide_eq_true e
          subst ex
          refine iteT ⟨_, rfl, rfl, _, rfl, ite2 (fun _ => ⟨_, rfl, rfl, ?_⟩) (fun z => absurd (decide_eq_true rfl) z)⟩
          exact q _ s1
        · refine ⟨x, rfl, rfl, _, rfl, ite2 (fun e2 => absurd e2 e) (fun _ => ?_)⟩
          refine ⟨x, rfl, x, _, _, _, b1, rfl, .ty "bool", ty1, kit_ty k3, x, rfl, x, _, _, _, b1, rfl, .ty "bool", ty1, kit_ty k3, rfl, _, rfl, ite2 (fun z => ?_) (fun _ => ?_)⟩
          · rw [ne_bl] at z
            cases z
          · refine ⟨x, rfl, x, _, _, _, b2, rfl, .ty "int", ty1, kit_ty k4, x, rfl, x, _, _, _, b2, rfl, .ty "int", ty1, kit_ty k4, rfl, _, rfl, ite2 (fun z => ?_) (fun _ => ?_)⟩
            · rw [ne_bl] at z
              cases z
            · refine ⟨x, rfl, x, _, _, _, b3, rfl, .ty "str", ty1, kit_ty k5, x, rfl, x, _, _, _, b3, rfl, .ty "str", ty1, kit_ty k5, rfl, _, rfl, ite2 (fun z => ?_) (fun z => absurd (decide_eq_true rfl) z)⟩
              refine ⟨x, rfl, x, rfl, scal_flat fx, ?_⟩
              rw [decide_eq_true rfl]
              exact q _ s1
      · intro u hu
        refine ⟨_, ps_if (pt_val (pe_callB call_isiT (by rfl) B.isinstance (by decide +kernel) (pa_cons (pv 1) (pa_cons (pe_tup (pa_cons (pe_bltn (v := .ty "list") (by rfl) B.list (by decide +kernel) rfl) (pa_cons (pe_bltn (v := .ty "tuple") (by rfl) B.tuple (by decide +kernel) rfl) pa_nil))) pa_nil))))
          (pss_cons (ps_if (PW.pt (pw_or (pt_cmpR op_ne (pe_callB call_isi (by rfl) B.isinstance (by decide +kernel) (pa_cons (pv 0) (pa_cons (pe_bltn (v := .ty "list") (by rfl) B.list (by decide +kernel) rfl) pa_nil))) (pe_callB call_isi (by rfl) B.isinstance (by decide +kernel) (pa_cons (pv 1) (pa_cons (pe_bltn (v := .ty "list") (by rfl) B.list (by decide +kernel) rfl) pa_nil))) (nomark _)) (pw_or1 (pt_cmpR op_ne (pe_callB call_isi (by rfl) B.isinstance (by decide +kernel) (pa_cons (pv 0) (pa_cons (pe_bltn (v := .ty "tuple") (by rfl) B.tuple (by decide +kernel) rfl) pa_nil))) (pe_callB call_isi (by rfl) B.isinstance (by decide +kernel) (pa_cons (pv 1) (pa_cons (pe_bltn (v := .ty "tuple") (by rfl) B.tuple (by decide +kernel) rfl) pa_nil))) (nomark _))))) pss_never pss_nil)
          (pss_one (ps_ret (pe_and (pe_cmpR op_eq (pe_callB call_len_seq (by rfl) B.len PySem.boot_len (pa_cons (pv 0) pa_nil)) (pe_callB call_len_seq (by rfl) B.len PySem.boot_len (pa_cons (pv 1) pa_nil)) (nomark _))
            (pe_one (pe_callB (cr_all rfl) (by rfl) B.all (by decide +kernel) (pa_cons (pe_lc (own := [("_law_one", 2), ("_law_other", 3)]) (g := gTup K 2 (gCons (gName 2) (gCons (gName 3) gNil))) (tt := tYes) (by rfl) sc_same.nd (RZ.pi_zipA (by rfl) B.zip (pa_cons (pv 0) (pa_cons (pv 1) pa_nil)))
              (blkOk_by (own := [("_law_one", 2), ("_law_other", 3)]) (N := ["_law_found", "_law_due", "_law_one", "_law_other"]) (sc := defScope s__law_same) (by decide +kernel))
              (fun _ _ _ _ _ => pg_tup rfl (pgs_cons (pg_name (i := 2) sc_same.nd rfl (.inl rfl)) (pgs_cons (pg_name (i := 3) sc_same.nd rfl (.inl rfl)) pgs_nil))) (fun _ _ _ _ _ => pts_nil)
              (fun _ _ _ _ _ => pe_call GR hr (by rfl) gR kR bR .nil pass0 (pa_cons (pv 2) (pa_cons (pv 3) pa_nil)))) pa_nil))))))) pss_nil, ?_⟩
        refine ⟨y, rfl, (by show 2 ≤ sizeLine; decide), fun p np => ?_⟩
        have s1 := same_upd (o := .tup [.ty "list", .ty "tuple"]) np
        rcases hE with ⟨fx, rfl⟩ | ⟨pa, pb, xs, ys, rfl, rfl, hxy, hlen, hsz, hEach⟩
        · obtain ⟨T, b1, b2, b3, ty, k1, k2, k3, k4, k5⟩ := flat_kit (K := K) (H := upd H p (.tup [.ty "list", .ty "tuple"])) fx
          exact ⟨x, p, _, _, [.type "list", .type "tuple"], false, rfl, upd_same, .cons (.ty _) (.cons (.ty _) .nil), ty, kit2 k1 k2, _, rfl, iteF (hu _ _ ⟨rfl, fx, s1⟩)⟩
        · obtain ⟨T, bl, bt, tyx, tyy, kany, kl, kt⟩ : ∃ (T : String) (bl bt : Bool), TyX K (upd H p (.tup [.ty "list", .ty "tuple"])) (.ref pa) (.type T) ∧ TyX K (upd H p (.tup [.ty "list", .ty "tuple"])) (.ref pb) (.type T) ∧
              PySem.W.kitAny K (.type T) [.type "list", .type "tuple"] = some true ∧ kitB T "list" = some bl ∧ kitB T "tuple" = some bt := by
            rcases hxy with ⟨ha, hb⟩ | ⟨ha, hb⟩
            · exact ⟨"list", true, false, .base (.lst (s1 _ _ ha)), .base (.lst (s1 _ _ hb)), kitAny_cons (kit_ty (b := "list") (r := true) (by decide +kernel)) (fun q => nomatch q) (fun _ => rfl), by decide +kernel, by decide +kernel⟩
            · exact ⟨"tuple", false, true, .base (.tup (s1 _ _ ha)), .base (.tup (s1 _ _ hb)), kitAny_cons (kit_ty (b := "list") (r := false) (by decide +kernel)) (fun _ => kitAny_cons (kit_ty (b := "tuple") (r := true) (by decide +kernel)) (fun q => nomatch q) (fun _ => rfl)) (fun q => nomatch q), by decide +kernel, by decide +kernel⟩
          refine ⟨_, p, _, _, [.type "list", .type "tuple"], true, rfl, upd_same, .cons (.ty _) (.cons (.ty _) .nil), tyy, kany, _, rfl, iteT ?_⟩
          refine ⟨_, rfl, _, _, _, _, bl, rfl, .ty "list", tyx, kit_ty kl, _, rfl, _, _, _, _, bl, rfl, .ty "list", tyy, kit_ty kl, rfl, _, rfl, ite2 (fun z => ?_) (fun _ => ?_)⟩
          · rw [ne_bl] at z
            cases z
          refine ⟨_, rfl, _, _, _, _, bt, rfl, .ty "tuple", tyx, kit_ty kt, _, rfl, _, _, _, _, bt, rfl, .ty "tuple", tyy, kit_ty kt, rfl, _, rfl, ite2 (fun z => ?_) (fun _ => ?_)⟩
          · rw [ne_bl] at z
            cases z
          have sqx : SqL K (upd H p (.tup [.ty "list", .ty "tuple"])) pa xs ∨ SqT K (upd H p (.tup [.ty "list", .ty "tuple"])) pa xs := hxy.elim (fun h => .inl (SqL.of (s1 _ _ h.1))) (fun h => .inr (SqT.of (s1 _ _ h.1)))
          have sqy : SqL K (upd H p (.tup [.ty "list", .ty "tuple"])) pb ys ∨ SqT K (upd H p (.tup [.ty "list", .ty "tuple"])) pb ys := hxy.elim (fun h => .inl (SqL.of (s1 _ _ h.2))) (fun h => .inr (SqT.of (s1 _ _ h.2)))
          refine ⟨_, rfl, pa, xs, rfl, sqx, _, rfl, pb, ys, rfl, sqy, rfl, _, rfl, ite2 (fun _ => ?_) (fun z => absurd (decide_eq_true (by rw [hlen])) z)⟩
          refine ⟨_, rfl, _, rfl, pa, pb, xs, ys, rfl, ?_⟩
          have turn : ∀ (i : Nat) (x y : V) (D T : Addr) (H2 : Hp), (upd H p (.tup [.ty "list", .ty "tuple"])) D = none → xs[i]? = some x → ys[i]? = some y → Same (upd H p (.tup [.ty "list", .ty "tuple"])) H2 → H2 D = some (.lst (List.replicate i (V.bl true))) → H2 T = none →
              ∃ x' y' : V, [x, y] ++ [] = [x', y'] ∧ Eqv (upd H2 T (.tup [x, y])) n x' y' ∧ ∀ H', Same (upd H2 T (.tup [x, y])) H' → ∃ acc, H' D = some (.lst acc) ∧ acc.length < sizeLine ∧ (Same (upd H p (.tup [.ty "list", .ty "tuple"])) (upd H' D (.lst (acc ++ [.bl true]))) ∧ (upd H' D (.lst (acc ++ [.bl true]))) D = some (.lst (List.replicate (i + 1) (V.bl true)))) := by
            intro i x y D T H2 nD hx hy s2 hD nT
            have s3 : Same H2 (upd H2 T (.tup [x, y])) := same_upd nT
            have hi : i < xs.length := (List.getElem?_eq_some_iff.mp hx).1
            refine ⟨x, y, rfl, (hEach i x y hx hy).same (s1.trans (s2.trans s3)), fun H' s4 => ⟨_, s4 _ _ (s3 _ _ hD), ?_, fun a o e => ?_, ?_⟩⟩
            · rw [List.length_replicate]
              exact lineLt_of (by omega)
            · rw [upd_ne (ne_of_none e nD)]
              exact s4 _ _ (s3 _ _ (s2 _ _ e))
            · rw [upd_same, List.replicate_succ']
          have fin : ∀ (D : Addr) (H2 : Hp), Same (upd H p (.tup [.ty "list", .ty "tuple"])) H2 → H2 D = some (.lst (List.replicate xs.length (V.bl true))) → ∃ (a : Addr) (bs : List Bool), [V.ref D] = [V.ref a] ∧ SqL K H2 a (bs.map V.bl) ∧ Q (.bl (bs.all id)) H2 := by
            intro D H2 s2 hD
            refine ⟨D, List.replicate xs.length true, rfl, SqL.of (by rw [hD, List.map_replicate]), ?_⟩
            rw [all_true]
            exact q _ (s1.trans s2)
          rcases hxy with ⟨ha, hb⟩ | ⟨ha, hb⟩
          · refine .inl ⟨SqL.of (s1 _ _ ha), SqL.of (s1 _ _ hb), fun D nD => ?_⟩
            refine lc_gen (n := xs.length) (fun i H2 => Same (upd H p (.tup [.ty "list", .ty "tuple"])) H2 ∧ H2 D = some (.lst (List.replicate i (V.bl true)))) ⟨same_upd nD, upd_same⟩ ?_ ?_ ?_ ?_
            · rintro i H2 hi ⟨s2, hD⟩
              exact ⟨xs, ys, _, _, SqL.of (s2 _ _ (s1 _ _ ha)), SqL.of (s2 _ _ (s1 _ _ hb)), List.getElem?_eq_getElem hi, List.getElem?_eq_getElem (by omega)⟩
            · rintro H2 ⟨s2, hD⟩
              exact ⟨xs, ys, SqL.of (s2 _ _ (s1 _ _ ha)), SqL.of (s2 _ _ (s1 _ _ hb)), .inl (Nat.le_refl _)⟩
            · rintro i v H2 H3 hi ⟨s2, hD⟩ ⟨T, x, y, rfl, nT, rfl, f1, f2⟩
              refine ⟨T, [x, y], rfl, .inl (.inl upd_same), rfl, x, [y], rfl, y, [], rfl, rfl, rfl, ?_⟩
              refine yes_if ?_
              exact ⟨_, rfl, _, rfl, turn i x y D T H2 nD (f1 xs (SqL.of (s2 _ _ (s1 _ _ ha)))) (f2 ys (SqL.of (s2 _ _ (s1 _ _ hb)))) s2 hD nT⟩
            · rintro H2 ⟨s2, hD⟩
              exact fin D H2 s2 hD
          · refine .inr ⟨SqT.of (s1 _ _ ha), SqT.of (s1 _ _ hb), fun D nD => ?_⟩
            refine lc_gen (n := xs.length) (fun i H2 => Same (upd H p (.tup [.ty "list", .ty "tuple"])) H2 ∧ H2 D = some (.lst (List.replicate i (V.bl true)))) ⟨same_upd nD, upd_same⟩ ?_ ?_ ?_ ?_
            · rintro i H2 hi ⟨s2, hD⟩
              exact ⟨xs, ys, _, _, SqT.of (s2 _ _ (s1 _ _ ha)), SqT.of (s2 _ _ (s1 _ _ hb)), List.getElem?_eq_getElem hi, List.getElem?_eq_getElem (by omega)⟩
            · rintro H2 ⟨s2, hD⟩
              exact ⟨xs, ys, SqT.of (s2 _ _ (s1 _ _ ha)), SqT.of (s2 _ _ (s1 _ _ hb)), .inl (Nat.le_refl _)⟩
            · rintro i v H2 H3 hi ⟨s2, hD⟩ ⟨T, x, y, rfl, nT, rfl, f1, f2⟩
              refine ⟨T, [x, y], rfl, .inl (.inl upd_same), rfl, x, [y], rfl, y, [], rfl, rfl, rfl, ?_⟩
              refine yes_if ?_
              exact ⟨_, rfl, _, rfl, turn i x y D T H2 nD (f1 xs (SqT.of (s2 _ _ (s1 _ _ ha)))) (f2 ys (SqT.of (s2 _ _ (s1 _ _ hb)))) s2 hD nT⟩
            · rintro H2 ⟨s2, hD⟩
              exact fin D H2 s2 hD
end
end Sf
namespace Sf
open PySem PySem.Spec PyProof.Rows L2 TL
section
variable {P : Program} {w : World} {K : PySem.W.Frag} {mg : Str → Option Value} {base : Heap}
/-! ### is_word -/
def isW (x : Str) : Bool := decide (x.length ≤ 60) && (tl x).all sgn
def spIsWord : Sp := fun vs H Q _ => ∃ x : Str, vs = [.str x] ∧ x.length ≤ 100000 ∧ ∀ H', Same H H' → Q (.bl (isW x)) H'
abbrev HasIsWord (P : Program) (w : World) (K : PySem.W.Frag) (mg : Str → Option Value) (base : Heap) : Prop := Has P w K mg base 1 "is_word" ["text"] spIsWord
theorem dec_signs {c : Nat} : decide (c ∈ (Str.ofString "aAbBcCdDeEfFgGhH").cps.toList) = sgn c := by
  rw [Bool.eq_iff_iff, decide_eq_true_eq]
  exact in_signs
theorem getElem?_of_cps {x : Str} {i c : Nat} (h : x.cps[i]? = some c) : (tl x)[i]? = some c := by
  rw [← h]
  exact Array.getElem?_toList
theorem isW_true {x : Str} (h : Wd x) (hl : x.length ≤ 60) : isW x = true := by
  unfold isW
  rw [decide_eq_true hl, Bool.true_and, List.all_eq_true]
  exact h
end
end Sf
namespace Sf
open PySem PySem.Spec PyProof.Rows L2 TL
section
variable {X : Cx}
/-! ### text * int -/
theorem op_mul_str : OpR X (binaryOp .Mult) (fun x y H Q => ∃ (a : Str) (n : Int), x = .str a ∧ y = .int n ∧ 0 ≤ n ∧ n ≤ 1000 ∧ a.length ≤ 1000 ∧ Q (.str (Txt.mul a n)) H) := by
  intro pins s σ H x y v u Q I rx ry h
  obtain ⟨a, n, rfl, rfl, h0, h1, h2, q⟩ := h
  obtain ⟨t, rfl⟩ := rx
  obtain ⟨t', rfl⟩ := ry
  refine PySem.SB.mul ⟨?_, fun hn _ => ?_, fun _ _ => ?_⟩ fun t' k => ⟨.str _, H, I.tok k, ⟨t', rfl⟩, q⟩
  · rw [decide_eq_false (by omega), decide_eq_false (by omega)]
    rfl
  · have h3 : (2 ^ 63 - 1) / n ≥ 9223372036854775807 / 1000 := by
      show (9223372036854775807 : Int) / 1000 ≤ (2 ^ 63 - 1) / n
      have e : (2 ^ 63 - 1 : Int) = 9223372036854775807 := by decide
      rw [e]
      refine (Int.le_ediv_iff_mul_le (by omega)).mpr ?_
      have : (9223372036854775807 : Int) / 1000 * n ≤ (9223372036854775807 : Int) / 1000 * 1000 := Int.mul_le_mul_of_nonneg_left h1 (by decide)
      have e2 : (9223372036854775807 : Int) / 1000 * 1000 ≤ 9223372036854775807 := by decide
      omega
    have e3 : (9223372036854775807 : Int) / 1000 = 9223372036854775 := by decide
    omega
  · refine PyProof.Rows.short24 ?_
    have h5 : n.toNat ≤ 1000 := by omega
    exact Nat.le_trans (Nat.mul_le_mul h2 h5) (by decide)
theorem mul_len {a : Str} {n : Int} (h : 0 ≤ n) : (Txt.mul a n).length = a.length * n.toNat := by
  obtain ⟨m, rfl⟩ : ∃ m : Nat, n = (m : Int) := ⟨n.toNat, by omega⟩
  have h1 := PyProof.Rows.len_mul a (m : Int)
  rw [decide_eq_false (by omega)] at h1
  have e : (if false = true then (0 : Int) else (m : Int)) = (m : Int) := rfl
  rw [e, ← Int.natCast_mul] at h1
  rw [Int.toNat_natCast]
  exact Int.ofNat.inj h1
theorem foldl_app (a : Array Nat) : ∀ (k : Nat) (acc : Array Nat) (c : Nat), c ∈ ((List.replicate k a).foldl (· ++ ·) acc).toList → c ∈ acc.toList ∨ c ∈ a.toList
  | 0, acc, c, h => .inl h
  | k + 1, acc, c, h => by
    rw [List.replicate_succ, List.foldl_cons] at h
    rcases foldl_app a k (acc ++ a) c h with h | h
    · rw [Array.toList_append, List.mem_append] at h
      exact h
    · exact .inr h
theorem mul_mem {a : Str} {n : Int} {c : Nat} (h : c ∈ tl (Txt.mul a n)) : c ∈ tl a := by
  unfold Txt.mul at h
  split at h
  · cases h
  · split at h
    · exact h
    · rcases foldl_app a.cps n.toNat #[] c h with h | h
      · cases h
      · exact h
theorem Wd.mul {a : Str} {n : Int} (h : Wd a) : Wd (Txt.mul a n) := fun c hc => h c (mul_mem hc)
theorem tl_cut (z : Str) (lo hi : Option Int) : tl (cutS z lo hi) = ((tl z).drop (HT.sIx z.length 0 lo)).take (HT.sIx z.length z.length hi - HT.sIx z.length 0 lo) := by
  unfold cutS
  rfl
theorem Wd.cut {z : Str} {lo hi : Option Int} (h : Wd z) : Wd (cutS z lo hi) := fun c hc => by
  rw [tl_cut] at hc
  exact h c (List.mem_of_mem_drop (List.mem_of_mem_take hc))
end
end Sf
namespace Sf
open PySem PySem.Spec PyProof.Rows L2 TL
section
variable {X : Cx}
/-! ### text[::-1] -/
def revS (z : Str) : Str := ⟨(tl z).reverse.toArray⟩
theorem tl_revS (z : Str) : tl (revS z) = (tl z).reverse := rfl
theorem rev_picked (z : Str) : ((Builtin.Str.strSliceIndices none none (-1) z.length).filterMap (z.cps[·]?)) = (tl z).reverse := by
  rw [picked_rev]
  apply List.ext_getElem?
  intro i
  have hz : z.length = (tl z).length := len_tl z
  rw [PyProof.Rows.filterMap_get _ _ (fun k hk => by
    obtain ⟨j, hj, rfl⟩ := List.mem_map.mp hk
    have := List.mem_range.mp hj
    show z.length - 1 - j < z.length
    omega), List.map_map]
  by_cases h : i < z.length
  · rw [List.getElem?_reverse (by omega), List.getElem?_map, List.getElem?_range h]
    show some (z.cps.getD (z.length - 1 - i) 0) = _
    have h2 : z.length - 1 - i < z.cps.size := by show z.length - 1 - i < z.length; omega
    rw [← hz, Array.getElem?_toList]
    simp [Array.getD, h2]
  · rw [List.getElem?_eq_none (by rw [List.length_map, List.length_range]; omega), List.getElem?_eq_none (by rw [List.length_reverse, ← hz]; omega)]
def tRevS (te : TE) : TE := fun σ H Q => te σ H fun x H1 => ∃ z, x = .str z ∧ z.length ≤ sizeLine ∧ Q (.str (revS z)) H1
theorem pe_revS {e : Expr} {te : TE} {k : Nat} {p1 p2 p3 pos : Pos} (he : PE X e te) : PE X (.Subscript e (.Slice none none (some (.UnaryOp .USub (.Constant (.int 1) k p1) p2)) p3) pos) (tRevS te) := by
  refine ⟨fun pins s σ H Q I h => ?_⟩
  refine Subscript_ (thn (he.run pins s σ H _ I h) fun v s1 ⟨x, H1, I1, r1, q1⟩ => ?_)
  obtain ⟨z, ex, hz, q⟩ := q1
  subst ex
  obtain ⟨tz, rfl⟩ := r1
  have hst : PO X (some (.UnaryOp .USub (.Constant (.int 1) k p1) p2)) (tPart (tUn (rU fun i => .int (-i)) (tC (.int 1)))) := po_some (pe_un un_neg pe_int)
  refine wpAny_Slice (thn (po_none.run pins s1 σ H1 (fun o H2 => o = none ∧ H2 = H1) I1 ⟨rfl, rfl⟩) fun vl s2 ⟨l, H2, I2, pl, el, e2⟩ => ?_)
  subst el e2
  refine thn (po_none.run pins s2 σ H2 (fun o H3 => o = none ∧ H3 = H2) I2 ⟨rfl, rfl⟩) fun vu s3 ⟨u, H3, I3, pu, eu, e3⟩ => ?_
  subst eu e3
  refine thn (hst.run pins s3 σ H3 (fun o H4 => o = some (-1) ∧ H4 = H3) I3 ⟨1, rfl, -1, rfl, rfl, rfl⟩) fun vs s4 ⟨o, H4, I4, ps, eo, e4⟩ => ?_
  subst eo e4
  cases pl
  cases pu
  cases ps with
  | int _ ts =>
  have I5 : Inv X pins σ H4 { s4 with heap := s4.heap.push { cls := .type "slice", data := .fields #[.none, .none, .int (-1) ts] } } := I4.kept (t' := s4.toks) fun b ob q => Heap.get?_push_of_some _ q
  show wpAny (model X.prog X.w) X.A (subscriptTail e (.Slice none none (some (.UnaryOp .USub (.Constant (.int 1) k p1) p2)) p3) (.str z tz) (.ref s4.heap.objs.size)) (EP X pins σ Q) X.xe { s4 with heap := s4.heap.push { cls := .type "slice", data := .fields #[.none, .none, .int (-1) ts] } }
  refine tail_any (ops := [.str z tz, .ref s4.heap.objs.size]) (typeIs_str _ _ _) (PySem.F.slot_str_getitem.lookup) ?_ (by with_unfolding_all rfl)
  refine wpAny_getItem_str_slice (l := none) (u := none) (st := some (-1, ts)) ⟨_, Heap.get?_push_size _ rfl, rfl, rfl⟩ rfl ?_
  have e1 : sliceMade z tz none none (some (-1, ts)) = Made.str (revS z) := by
    unfold sliceMade slicePicked
    have h1 : ¬ (((((some ((-1 : Int), ts)).map (·.1)).getD 1 == 1) && ((Builtin.Str.strSliceIndices ((none : Option (Int × Tok)).map (·.1)) ((none : Option (Int × Tok)).map (·.1)) (((some ((-1 : Int), ts)).map (·.1)).getD 1) z.length).length == z.length)) = true) := by
      have : ((((some ((-1 : Int), ts)).map (·.1)).getD 1 == 1)) = false := rfl
      rw [this]
      simp
    rw [if_neg h1]
    show Made.str ⟨((Builtin.Str.strSliceIndices none none (-1) z.length).filterMap (z.cps[·]?)).toArray⟩ = _
    rw [rev_picked]
    rfl
  rw [e1]
  refine ⟨?_, .str _, H4, I5.tok _, ⟨_, rfl⟩, q⟩
  rw [len_tl, tl_revS, List.length_reverse, ← len_tl]
  exact hz
/-! ### text.swapcase() -/
theorem mt_swapcase : MtR X "str.swapcase" (fun x xs H Q => ∃ a, x = .str a ∧ xs = [] ∧ a.length ≤ 5592405 ∧ Q (.str (Txt.swapcase a)) H) :=
  mt0 (C := fun a => a.length ≤ 5592405) (g := fun a => .str (Txt.swapcase a)) fun a _ s _ hc h =>
    PySem.SC.swapcase (PyProof.Rows.fit_swapcase hc) (h _ (s.toks + 1) ⟨_, rfl⟩)
theorem pe_swapcase {o : Expr} {to : TE} {apos pos : Pos} (ho : PE X o to) (hbase : attributeBase o "swapcase" X.env (eval o X.env) = eval o X.env := by rfl) (hline : (apos.endLine == pos.line) = true := by rfl) :
    PE X (.Call (.Attribute o "swapcase" apos) [] [] pos) (tM0 (fun x xs H Q => ∃ a, x = .str a ∧ xs = [] ∧ a.length ≤ 5592405 ∧ Q (.str (Txt.swapcase a)) H) to) :=
  pe_m0 PySem.F.slot_str_swapcase PySem.F.type_str_swapcase mt_swapcase ho hbase hline
theorem case_sgn : ∀ c, c < 128 → sgn c = true → (if Unicode.isUpper c then PyProof.Rows.lo1 c else if Unicode.isLower c then PyProof.Rows.up1 c else c) = flipC c := by decide +kernel
theorem sgn_lt {c : Nat} (h : sgn c = true) : c < 128 := by
  rw [sgn_iff] at h
  omega
def flipS (x : Str) : Str := ⟨((tl x).map flipC).toArray⟩
theorem swap_wd {x : Str} (h : Wd x) : Txt.swapcase x = flipS x := by
  unfold Txt.swapcase
  rw [PyProof.Rows.placed_single x _ flipC fun i c hc => by
    have hc' : x.cps[i]? = some c := by simpa using hc
    have hs := h c (List.mem_of_getElem? hc)
    have hlt := sgn_lt hs
    have hk := case_sgn c hlt hs
    unfold Unicode.lowerAt
    rw [hc']
    have hne : (c == 0x3A3) = false := by rw [beq_eq_false_iff_ne]; omega
    simp only [hne, Bool.false_and, Bool.false_eq_true, if_false]
    rw [PyProof.Rows.lowerOf_ascii c hlt, PyProof.Rows.upperOf_ascii c hlt, ← hk]
    by_cases h1 : Unicode.isUpper c = true
    · rw [if_pos h1, if_pos h1]
    · rw [if_neg h1, if_neg h1]
      by_cases h2 : Unicode.isLower c = true
      · rw [if_pos h2, if_pos h2]
      · rw [if_neg h2, if_neg h2]]
  apply ext_tl
  show (x.cps.map flipC).toList = (tl x).map flipC
  rw [Array.toList_map]
theorem flipS_one (c : Nat) : flipS (one c) = one (flipC c) := rfl
theorem tl_flipS (x : Str) : tl (flipS x) = (tl x).map flipC := rfl
theorem rev_wd {x : Str} (h : Wd x) : Wd (revS x) := fun c hc => h c (List.mem_reverse.mp hc)
theorem revS_len (x : Str) : (revS x).length = x.length := by rw [len_tl, tl_revS, List.length_reverse, ← len_tl]
end
end Sf
namespace Sf
open PySem PySem.Spec PyProof.Rows L2 TL
/-! ### words as lists of codes; the stack of a walk (its head is the last sign) -/
abbrev Sg (l : List Nat) : Prop := ∀ c ∈ l, sgn c = true
theorem flip2 {c : Nat} (h : sgn c = true) : flipC (flipC c) = c := by
  rw [sgn_iff] at h
  unfold flipC
  by_cases h1 : 97 ≤ c
  · rw [if_pos h1, if_neg (by omega)]
    omega
  · rw [if_neg h1, if_pos (by omega)]
    omega
theorem flip_inj {c d : Nat} (hc : sgn c = true) (hd : sgn d = true) (h : flipC c = flipC d) : c = d := by
  rw [← flip2 hc, ← flip2 hd, h]
def pushS (s : List Nat) (c : Nat) : List Nat :=
  match s with
  | [] => [c]
  | x :: t => if x = flipC c then t else c :: x :: t
def RedS : List Nat → Prop
  | [] => True
  | [_] => True
  | x :: y :: t => y ≠ flipC x ∧ RedS (y :: t)
theorem RedS.tail {x : Nat} {t : List Nat} (h : RedS (x :: t)) : RedS t := by
  cases t with
  | nil => trivial
  | cons y t => exact h.2
theorem RedS.suffix : ∀ {a b : List Nat}, RedS (a ++ b) → RedS b
  | [], _, h => h
  | _ :: a, _, h => RedS.suffix (a := a) (RedS.tail h)
theorem pushS_red {s : List Nat} {c : Nat} (h : RedS s) : RedS (pushS s c) := by
  cases s with
  | nil => trivial
  | cons x t =>
    unfold pushS
    by_cases e : x = flipC c
    · simp only [if_pos e]
      exact h.tail
    · simp only [if_neg e]
      exact ⟨e, h⟩
theorem pushS_sg {s : List Nat} {c : Nat} (h : Sg s) (hc : sgn c = true) : Sg (pushS s c) := by
  cases s with
  | nil =>
    intro d hd
    rw [pushS, List.mem_singleton] at hd
    rw [hd]
    exact hc
  | cons x t =>
    unfold pushS
    by_cases e : x = flipC c
    · simp only [if_pos e]
      exact fun d hd => h d (List.mem_cons_of_mem _ hd)
    · simp only [if_neg e]
      intro d hd
      rcases List.mem_cons.mp hd with rfl | hd
      · exact hc
      · exact h d hd
theorem pushS_inv {s : List Nat} {c : Nat} (h : RedS s) (hs : Sg s) (hc : sgn c = true) : pushS (pushS s c) (flipC c) = s := by
  cases s with
  | nil =>
    show (if c = flipC (flipC c) then [] else _) = ([] : List Nat)
    rw [if_pos (flip2 hc).symm]
  | cons x t =>
    by_cases e : x = flipC c
    · have e1 : pushS (x :: t) c = t := by simp only [pushS, if_pos e]
      rw [e1, e]
      cases t with
      | nil => rfl
      | cons y t =>
        have hn : ¬ y = flipC (flipC c) := by
          rw [← e]
          exact h.1
        simp only [pushS, if_neg hn]
    · have e1 : pushS (x :: t) c = c :: x :: t := by simp only [pushS, if_neg e]
      rw [e1]
      simp only [pushS, if_pos (flip2 hc).symm]
def runS (s w : List Nat) : List Nat := w.foldl pushS s
theorem runS_cons (s : List Nat) (c : Nat) (w : List Nat) : runS s (c :: w) = runS (pushS s c) w := rfl
theorem runS_app (s u v : List Nat) : runS s (u ++ v) = runS (runS s u) v := List.foldl_append
theorem runS_red : ∀ {w s : List Nat}, RedS s → RedS (runS s w)
  | [], _, h => h
  | _ :: w, _, h => runS_red (w := w) (pushS_red h)
theorem runS_sg : ∀ {w s : List Nat}, Sg s → Sg w → Sg (runS s w)
  | [], _, h, _ => h
  | c :: w, _, h, hw => runS_sg (w := w) (pushS_sg h (hw c (List.mem_cons_self ..))) (fun d hd => hw d (List.mem_cons_of_mem _ hd))
def backL (w : List Nat) : List Nat := (w.map flipC).reverse
theorem backL_cons (c : Nat) (w : List Nat) : backL (c :: w) = backL w ++ [flipC c] := by
  unfold backL
  rw [List.map_cons, List.reverse_cons]
theorem backL_app (u v : List Nat) : backL (u ++ v) = backL v ++ backL u := by
  unfold backL
  rw [List.map_append, List.reverse_append]
theorem backL_sg {w : List Nat} (h : Sg w) : Sg (backL w) := fun c hc => by
  unfold backL at hc
  rw [List.mem_reverse, List.mem_map] at hc
  obtain ⟨d, hd, rfl⟩ := hc
  exact flip_sgn (h d hd)
theorem backL_back {w : List Nat} (h : Sg w) : backL (backL w) = w := by
  unfold backL
  rw [List.map_reverse, List.reverse_reverse, List.map_map]
  have e : w.map (flipC ∘ flipC) = w.map id := List.map_congr_left fun c hc => flip2 (h c hc)
  rw [e, List.map_id]
theorem run_back : ∀ {w s : List Nat}, RedS s → Sg s → Sg w → runS (runS s w) (backL w) = s
  | [], _, _, _, _ => rfl
  | c :: w, s, h, hs, hw => by
    have hc := hw c (List.mem_cons_self ..)
    rw [runS_cons, backL_cons, runS_app, run_back (w := w) (pushS_red h) (pushS_sg hs hc) (fun d hd => hw d (List.mem_cons_of_mem _ hd))]
    exact pushS_inv h hs hc
theorem pushS_of {s : List Nat} {c : Nat} (h : RedS (c :: s)) : pushS s c = c :: s := by
  cases s with
  | nil => rfl
  | cons x t => simp only [pushS, if_neg h.1]
theorem run_of_red : ∀ {w s : List Nat}, RedS (w.reverse ++ s) → runS s w = w.reverse ++ s
  | [], _, _ => rfl
  | c :: w, s, h => by
    rw [List.reverse_cons, List.append_assoc] at h ⊢
    rw [runS_cons, pushS_of (s := s) (RedS.suffix (b := c :: s) h)]
    exact run_of_red h
/-- a word reduced, as a list from its first sign -/
def shortL (w : List Nat) : List Nat := (runS [] w).reverse
theorem shortL_sg {w : List Nat} (h : Sg w) : Sg (shortL w) := fun c hc => runS_sg (s := []) (fun _ z => by cases z) h c (List.mem_reverse.mp hc)
def push (l : List Nat) (c : Nat) : List Nat := (pushS l.reverse c).reverse
theorem shortL_snoc (w : List Nat) (c : Nat) : shortL (w ++ [c]) = push (shortL w) c := by
  unfold shortL push
  rw [runS_app, List.reverse_reverse]
  rfl
theorem push_last {l : List Nat} {c : Nat} (x : Nat) : push (l ++ [x]) c = if x = flipC c then l else l ++ [x] ++ [c] := by
  unfold push
  rw [List.reverse_append]
  show (if x = flipC c then l.reverse else c :: x :: l.reverse).reverse = _
  by_cases e : x = flipC c
  · rw [if_pos e, if_pos e, List.reverse_reverse]
  · rw [if_neg e, if_neg e]
    simp
theorem push_nil (c : Nat) : push [] c = [c] := rfl
/-- two words put together where they meet -/
def glS : List Nat → List Nat → List Nat
  | x :: s, y :: b => if x = flipC y then glS s b else (y :: b).reverse ++ (x :: s)
  | [], b => b.reverse
  | x :: s, [] => x :: s
theorem RedS.join : ∀ {a : List Nat} {y : Nat} {s : List Nat}, RedS (a ++ [y]) → RedS (y :: s) → RedS (a ++ y :: s)
  | [], _, _, _, h => h
  | [x], y, s, h, k => ⟨h.1, k⟩
  | x :: z :: a, y, s, h, k => ⟨h.1, RedS.join (a := z :: a) h.2 k⟩
theorem glS_run : ∀ {b s : List Nat}, RedS b.reverse → RedS s → glS s b = runS s b
  | [], [], _, _ => rfl
  | [], _ :: _, _, _ => rfl
  | y :: b, [], h, _ => by
    have e := run_of_red (w := y :: b) (s := []) (by rw [List.append_nil]; exact h)
    rw [List.append_nil] at e
    exact e.symm
  | y :: b, x :: s, h, k => by
    rw [List.reverse_cons] at h
    by_cases e : x = flipC y
    · have e1 : pushS (x :: s) y = s := by simp only [pushS, if_pos e]
      rw [glS, if_pos e, runS_cons, e1]
      refine glS_run ?_ k.tail
      exact RedS.prefix h
    · have e1 : pushS (x :: s) y = y :: x :: s := by simp only [pushS, if_neg e]
      rw [glS, if_neg e, runS_cons, e1, List.reverse_cons, List.append_assoc]
      exact (run_of_red (RedS.join h (show RedS (y :: x :: s) from ⟨e, k⟩))).symm
where
  RedS.prefix : ∀ {a b : List Nat}, RedS (a ++ b) → RedS a
  | [], _, _ => trivial
  | [_], _, _ => trivial
  | _ :: y :: a, _, h => ⟨h.1, RedS.prefix (a := y :: a) h.2⟩
end Sf
namespace Sf
open PySem PySem.Spec PyProof.Rows L2 TL
/-! ### texts of words -/
def mkS (l : List Nat) : Str := ⟨l.toArray⟩
theorem tl_mkS (l : List Nat) : tl (mkS l) = l := rfl
theorem mkS_tl (x : Str) : mkS (tl x) = x := mk_tl x
theorem mkS_len (l : List Nat) : (mkS l).length = l.length := by rw [len_tl, tl_mkS]
theorem eq_mkS {x : Str} {l : List Nat} (h : tl x = l) : x = mkS l := ext_tl h
/-- a word undone, reduced, glued, as texts -/
def backT (x : Str) : Str := mkS (backL (tl x))
def shortT (x : Str) : Str := mkS (shortL (tl x))
def gluT (x y : Str) : Str := mkS (glS (tl x).reverse (tl y)).reverse
theorem glS_sg : ∀ {s b : List Nat}, Sg s → Sg b → Sg (glS s b)
  | x :: s, y :: b, hs, hb => by
    unfold glS
    by_cases e : x = flipC y
    · rw [if_pos e]
      exact glS_sg (fun c hc => hs c (List.mem_cons_of_mem _ hc)) (fun c hc => hb c (List.mem_cons_of_mem _ hc))
    · rw [if_neg e]
      intro c hc
      rcases List.mem_append.mp hc with hc | hc
      · exact hb c (List.mem_reverse.mp hc)
      · exact hs c hc
  | [], b, _, hb => fun c hc => hb c (List.mem_reverse.mp (by unfold glS at hc; exact hc))
  | x :: s, [], hs, _ => hs
theorem glS_len : ∀ {s b : List Nat}, (glS s b).length ≤ s.length + b.length
  | x :: s, y :: b => by
    unfold glS
    by_cases e : x = flipC y
    · rw [if_pos e]
      have := glS_len (s := s) (b := b)
      simp only [List.length_cons]
      omega
    · rw [if_neg e]
      simp only [List.length_append, List.length_reverse, List.length_cons]
      omega
  | [], b => by
    unfold glS
    simp
  | x :: s, [] => by
    unfold glS
    simp
theorem gluT_wd {x y : Str} (hx : Wd x) (hy : Wd y) : Wd (gluT x y) := fun c hc => by
  unfold gluT at hc
  rw [tl_mkS, List.mem_reverse] at hc
  exact glS_sg (fun d hd => hx d (List.mem_reverse.mp hd)) hy c hc
theorem gluT_len (x y : Str) : (gluT x y).length ≤ x.length + y.length := by
  unfold gluT
  rw [mkS_len, List.length_reverse, len_tl, len_tl]
  have := glS_len (s := (tl x).reverse) (b := tl y)
  rw [List.length_reverse] at this
  exact this
theorem backT_wd {x : Str} (h : Wd x) : Wd (backT x) := fun c hc => backL_sg h c hc
theorem backT_len (x : Str) : (backT x).length = x.length := by
  unfold backT backL
  rw [mkS_len, List.length_reverse, List.length_map, len_tl]
theorem backT_back {x : Str} (h : Wd x) : backT (backT x) = x := by
  unfold backT
  rw [tl_mkS, backL_back h, mkS_tl]
theorem runS_len : ∀ (w s : List Nat), (runS s w).length ≤ s.length + w.length
  | [], s => by simp [runS]
  | c :: w, s => by
    have h := runS_len w (pushS s c)
    rw [runS_cons]
    have h2 : (pushS s c).length ≤ s.length + 1 := by
      cases s with
      | nil => simp [pushS]
      | cons x t =>
        unfold pushS
        by_cases e : x = flipC c
        · simp only [if_pos e, List.length_cons]
          omega
        · simp only [if_neg e, List.length_cons]
          omega
    simp only [List.length_cons]
    omega
theorem shortL_len (w : List Nat) : (shortL w).length ≤ w.length := by
  unfold shortL
  rw [List.length_reverse]
  have := runS_len w []
  simpa using this
theorem glu_one {l : List Nat} {c : Nat} : (glS l.reverse [c]).reverse = push l c := by
  unfold push
  cases h : l.reverse with
  | nil => rfl
  | cons x t =>
    unfold glS pushS
    by_cases e : x = flipC c
    · simp only [if_pos e]
      cases t <;> rfl
    · simp only [if_neg e]
      rfl
end Sf
namespace Sf
open PySem PySem.Spec PyProof.Rows L2 TL
section
variable {P : Program} {w : World} {K : PySem.W.Frag} {mg : Str → Option Value} {base : Heap}
/-! ### need_word, turned, undone -/
def spNeed : Sp := fun vs H Q _ => ∃ x : Str, vs = [.str x] ∧ Wd x ∧ x.length ≤ 60 ∧ ∀ H', Same H H' → Q .non H'
abbrev HasNeed (P : Program) (w : World) (K : PySem.W.Frag) (mg : Str → Option Value) (base : Heap) : Prop := Has P w K mg base 2 "need_word" ["text"] spNeed
end
end Sf
namespace Sf
open PySem PySem.Spec PyProof.Rows L2 TL
section
variable {P : Program} {w : World} {K : PySem.W.Frag} {mg : Str → Option Value} {base : Heap}
/-! ### glued, shortened, reduced -/
def spGlued : Sp := fun vs H Q _ => ∃ x y : Str, vs = [.str x, .str y] ∧ Wd x ∧ Wd y ∧ x.length + y.length ≤ 100000 ∧ Q (.str (gluT x y)) H
abbrev HasGlued (P : Program) (w : World) (K : PySem.W.Frag) (mg : Str → Option Value) (base : Heap) : Prop := Has P w K mg base 1 "glued" ["one", "other"] spGlued
theorem sc_glued : FnScope ["one", "other", "most", "gone"] ["one", "other"] (defScope s_glued) := ⟨rfl, rfl, rfl, by decide +kernel, rfl, by decide +kernel, by decide +kernel⟩
theorem at_neg {l : List Nat} {g : Nat} (h : g < l.length) : atI l (-1 - (g : Int)) = some (l.reverse[g]'(by rw [List.length_reverse]; exact h)) := by
  unfold atI ixN
  rw [if_neg (by omega), if_pos (by omega)]
  have e : ((-1 - (g : Int)) + (l.length : Nat)).toNat = l.length - 1 - g := by omega
  rw [e, Option.bind_some, List.getElem_reverse, List.getElem?_eq_getElem]
theorem glu_step {a b : List Nat} {g : Nat} (h1 : g < a.length) (h2 : g < b.length) (e : a[g] = flipC b[g]) : glS (a.drop g) (b.drop g) = glS (a.drop (g + 1)) (b.drop (g + 1)) := by
  rw [List.drop_eq_getElem_cons h1, List.drop_eq_getElem_cons h2, glS, if_pos e]
theorem glu_stop {a b : List Nat} {g : Nat} (h : g = min a.length b.length ∨ ∃ (h1 : g < a.length) (h2 : g < b.length), a[g] ≠ flipC b[g]) : glS (a.drop g) (b.drop g) = (b.drop g).reverse ++ a.drop g := by
  rcases h with h | ⟨h1, h2, e⟩
  · rcases Nat.le_total a.length b.length with hl | hl
    · rw [List.drop_eq_nil_of_le (as := a) (by omega), glS, List.append_nil]
    · rw [List.drop_eq_nil_of_le (as := b) (by omega)]
      cases a.drop g <;> rfl
  · rw [List.drop_eq_getElem_cons h1, List.drop_eq_getElem_cons h2, glS, if_neg e]
theorem cut_to {x : Str} {n : Int} (h0 : 0 ≤ n) (h1 : n ≤ x.length) : tl (cutS x none (some n)) = (tl x).take n.toNat := by
  rw [tl_cut]
  obtain ⟨m, rfl⟩ : ∃ m : Nat, n = (m : Int) := ⟨n.toNat, by omega⟩
  rw [HT.sIx_none, HT.sIx_nat, List.drop_zero, Int.toNat_natCast, Nat.sub_zero, Nat.min_eq_left (by omega)]
theorem cut_from {x : Str} {n : Int} (h0 : 0 ≤ n) (h1 : n ≤ x.length) : tl (cutS x (some n) none) = (tl x).drop n.toNat := by
  rw [tl_cut]
  obtain ⟨m, rfl⟩ : ∃ m : Nat, n = (m : Int) := ⟨n.toNat, by omega⟩
  rw [HT.sIx_none, HT.sIx_nat, Int.toNat_natCast, Nat.min_eq_left (by omega)]
  refine List.take_of_length_le ?_
  rw [List.length_drop, ← len_tl]
  exact Nat.le_refl _
theorem has_glued (F : FnAt K mg "glued" s_glued ["one", "other"]) (B : Blt mg) (mmin : mg "min" = none) : HasGlued P w K mg base := F.has fun F => by
  refine F.ok sc_glued (fun vs H Q E h => ?_) (fun cdv A outer s H vs Q E hr h => ?_)
  · obtain ⟨x, y, rfl, _⟩ := h
    rfl
  · obtain ⟨x, y, rfl, hx, hy, hl, q⟩ := h
    have zx := len_tl x
    have zy := len_tl y
    refine ⟨_, pss_cons (ps_set (i := 2) sc_glued.nd rfl (.inl rfl) (pe_callB (call_min2 rfl) (by rfl) mmin (by decide +kernel) (pa_cons (pe_callB call_len_str (by rfl) B.len PySem.boot_len (pa_cons (pv 0) pa_nil)) (pa_cons (pe_callB call_len_str (by rfl) B.len PySem.boot_len (pa_cons (pv 1) pa_nil)) pa_nil))))
      (pss_cons (ps_set (i := 3) sc_glued.nd rfl (.inl rfl) pe_int)
      (pss_cons (ps_while PassesOwn.never (PW.pt (pw_and (pt_cmpR op_lt (pv 3) (pv 2) (nomark _)) (pw_and1 (pt_cmpR op_eq (pe_ix ix_str (pv 0) (pe_op op_sub (pe_un un_neg pe_int) (pv 3)) (fun _ _ => rfl)) (pe_swapcase (pe_ix ix_str (pv 1) (pv 3) (fun _ _ => rfl))) (nomark _)))))
        (pss_one (ps_aug (i := 3) sc_glued.nd rfl (.inl rfl) pe_int ip_add)))
      (pss_one (ps_ret (pe_op op_add_str (pe_slice sl_str (pv 0) po_none (po_some (pe_op op_sub (pe_callB call_len_str (by rfl) B.len PySem.boot_len (pa_cons (pv 0) pa_nil)) (pv 3)))) (pe_slice sl_str (pv 1) (po_some (pv 3)) po_none)))))), ?_⟩
    refine ⟨_, rfl, x, rfl, line_of (by omega), _, rfl, y, rfl, line_of (by omega), _, _, rfl, ?_⟩
    have em : (if (y.length : Int) < (x.length : Int) then (y.length : Int) else (x.length : Int)) = ((min (tl x).reverse.length (tl y).length : Nat) : Int) := by
      rw [List.length_reverse, ← zx, ← zy]
      split <;> omega
    rw [em]
    refine ⟨fun m σ H1 => ∃ g : Nat, σ = [some (.str x), some (.str y), some (.int ((min (tl x).reverse.length (tl y).length : Nat) : Int)), some (.int (g : Int))] ∧ H1 = H ∧ g ≤ min (tl x).reverse.length (tl y).length ∧ glS (tl x).reverse (tl y) = glS ((tl x).reverse.drop g) ((tl y).drop g) ∧ m = min (tl x).reverse.length (tl y).length - g, ⟨_, 0, rfl, rfl, Nat.zero_le _, rfl, rfl⟩, ?_⟩
    · rintro m σ H1 ⟨g, rfl, rfl, hg, eg, rfl⟩
      have fin : (g = min (tl x).reverse.length (tl y).length ∨ ∃ (h1 : g < (tl x).reverse.length) (h2 : g < (tl y).length), (tl x).reverse[g] ≠ flipC (tl y)[g]) → Q (.str (cutS x none (some ((x.length : Int) - (g : Int))) ++ cutS y (some (g : Int)) none)) H1 := by
        intro hstop
        have e : cutS x none (some ((x.length : Int) - (g : Int))) ++ cutS y (some (g : Int)) none = gluT x y := by
          refine eq_mkS ?_
          rw [List.length_reverse, ← zx, ← zy] at hg
          rw [eg, glu_stop hstop, tl_append, cut_to (by omega) (by omega), cut_from (by omega) (by omega), List.reverse_append, List.reverse_reverse, List.reverse_drop, List.reverse_reverse, List.length_reverse, ← zx]
          have e1 : ((x.length : Int) - (g : Int)).toNat = x.length - g := by omega
          rw [e1, Int.toNat_natCast]
        rw [e]
        exact q
      have tail : (g = min (tl x).reverse.length (tl y).length ∨ ∃ (h1 : g < (tl x).reverse.length) (h2 : g < (tl y).length), (tl x).reverse[g] ≠ flipC (tl y)[g]) → ∃ v : V, some (some (V.str x)) = some (some v) ∧ ∃ v2 : V, some (some (V.str x)) = some (some v2) ∧ ∃ z : Str, [v2] = [V.str z] ∧ z.length ≤ sizeLine ∧ ∃ v3 : V, some (some (V.int (g : Int))) = some (some v3) ∧
          ∃ i j : Int, V.int z.length = .int i ∧ v3 = .int j ∧ ∃ k : Int, V.int (i - j) = .int k ∧ ∃ z2 : Str, v = .str z2 ∧ z2.length ≤ sizeLine ∧ ∃ v4 : V, some (some (V.str y)) = some (some v4) ∧ ∃ v5 : V, some (some (V.int (g : Int))) = some (some v5) ∧ ∃ i2 : Int, v5 = .int i2 ∧ ∃ z3 : Str, v4 = .str z3 ∧ z3.length ≤ sizeLine ∧
            ∃ i3 j3 : Str, V.str (cutS z2 none (some k)) = .str i3 ∧ V.str (cutS z3 (some i2) none) = .str j3 ∧ i3.length + j3.length ≤ sizeLine ∧ Q (.str (i3 ++ j3)) H1 := fun hstop =>
        ⟨_, rfl, _, rfl, x, rfl, line_of (by omega), _, rfl, _, _, rfl, rfl, _, rfl, x, rfl, line_of (by omega), _, rfl, _, rfl, _, rfl, y, rfl, line_of (by omega), _, _, rfl, rfl, line_of (Nat.le_trans (Nat.add_le_add (cutS_length x _ _) (cutS_length y _ _)) hl), fin hstop⟩
      refine ⟨_, rfl, _, rfl, (g : Int), _, rfl, rfl, _, rfl, ite2 (fun e => ?_) (fun e => ?_)⟩
      · have hlt : g < min (tl x).reverse.length (tl y).length := by
          have := of_decide_eq_true e
          omega
        have h1 : g < (tl x).reverse.length := by omega
        have h2 : g < (tl y).length := by omega
        have h1' : g < (tl x).length := by
          rw [List.length_reverse] at h1
          exact h1
        have ay : atI (tl y) (g : Int) = some (tl y)[g] := atI_nat (List.getElem?_eq_getElem h2)
        have sy := hy _ (List.getElem_mem h2)
        refine ⟨_, rfl, 1, rfl, _, rfl, -1, (g : Int), rfl, rfl, x, _, _, rfl, rfl, line_of (by omega), at_neg h1', _, rfl, _, rfl, y, _, _, rfl, rfl, line_of (by omega), ay, ⟨_, rfl⟩, _, rfl, rfl, by rw [len_one]; decide, ?_⟩
        rw [swap_wd (wd_one sy), flipS_one]
        refine ⟨rfl, _, rfl, ite2 (fun e2 => ?_) (fun e2 => ?_)⟩
        · have e3 : (tl x).reverse[g] = flipC (tl y)[g] := by
            have := of_decide_eq_true e2
            have h5 := V.str.inj this
            have h6 := congrArg tl h5
            exact List.head_eq_of_cons_eq h6
          refine ⟨fun σ' H' => σ' = [some (.str x), some (.str y), some (.int ((min (tl x).reverse.length (tl y).length : Nat) : Int)), some (.int ((g : Int) + 1))] ∧ H' = H1, fun σ' H' hN => ?_, ?_⟩
          · obtain ⟨rfl, rfl⟩ := hN
            exact ⟨min (tl x).reverse.length (tl y).length - (g + 1), by omega, g + 1, rfl, rfl, by omega, by rw [eg, glu_step h1 h2 e3], rfl⟩
          · exact ⟨_, rfl, _, _, rfl, rfl, rfl, rfl⟩
        · exact tail (.inr ⟨h1, h2, fun z => e2 (decide_eq_true (by rw [z]))⟩)
      · have hge : g = min (tl x).reverse.length (tl y).length := by
          have : ¬ ((g : Int) < ((min (tl x).reverse.length (tl y).length : Nat) : Int)) := fun z => e (decide_eq_true z)
          omega
        exact iteF (tail (.inl hge))
end
end Sf
namespace Sf
open PySem PySem.Spec PyProof.Rows L2 TL
section
variable {P : Program} {w : World} {K : PySem.W.Frag} {mg : Str → Option Value} {base : Heap}
def spTurned : Sp := fun vs H Q _ => ∃ x : Str, vs = [.str x] ∧ Wd x ∧ x.length ≤ 100000 ∧ Q (.str (backT x)) H
abbrev HasTurned (P : Program) (w : World) (K : PySem.W.Frag) (mg : Str → Option Value) (base : Heap) : Prop := Has P w K mg base 1 "turned" ["word"] spTurned
theorem sc_turned : FnScope ["word"] ["word"] (defScope s_turned) := ⟨rfl, rfl, rfl, by decide +kernel, rfl, by decide +kernel, by decide +kernel⟩
theorem has_turned (F : FnAt K mg "turned" s_turned ["word"]) : HasTurned P w K mg base := F.has fun F => by
  refine F.ok sc_turned (fun vs H Q E h => ?_) (fun cdv A outer s H vs Q E hr h => ?_)
  · obtain ⟨x, rfl, _⟩ := h
    rfl
  · obtain ⟨x, rfl, hx, hl, q⟩ := h
    refine ⟨_, pss_one (ps_ret (pe_swapcase (pe_revS (pv 0)))), ?_⟩
    refine ⟨_, rfl, x, rfl, line_of hl, ⟨_, rfl⟩, _, rfl, rfl, by rw [revS_len]; omega, ?_⟩
    have e : Txt.swapcase (revS x) = backT x := by
      rw [swap_wd (rev_wd hx)]
      refine eq_mkS ?_
      rw [tl_flipS, tl_revS, List.map_reverse]
      rfl
    rw [e]
    exact q
end
end Sf
namespace Sf
open PySem PySem.Spec PyProof.Rows L2 TL
/-! ### {**a, **b} -/
section
variable {prog : Program} {w : World} {A : Around} {E : Value → Shared → Prop} {s : Shared}
theorem put_pairs {d : Addr} {kvs : List (Key × Value)} {k : Key} {key v : Value} {Q : Unit → Shared → Prop} (hkey : (mixKind prog w).is k key = true) (hm : s.heap.DictOf (mixKind prog w) d kvs)
    (hQ : ∀ h', h'.DictOf (mixKind prog w) d (stored kvs k v) → Heap.SameBut d s.heap h' → Q () { s with heap := h' })
    (hsz : kvs.length ≤ sizeLine) : wpAny (model prog w) A (dictPut d ((mixKind prog w).hash k) key v) Q E s := by
  obtain ⟨o, es, ep, ho, hc, hd, hk, hp, hn⟩ := hm
  have hes : es.size ≤ sizeLine := by
    have e1 := hp.length
    have e2 : es.toList.length = es.size := by simp
    omega
  unfold dictPut
  refine wpAny_bind (wpAny_dictFind_of hkey ho hd hk ?_)
  have hidx : (es.findIdx? fun e => (mixKind prog w).is k e.key) = kvs.findIdx? fun kv => decide (kv.1 = k) := by
    rw [← hp.findIdx k]
    obtain ⟨l⟩ := es
    simp
  cases hi : es.findIdx? fun e => (mixKind prog w).is k e.key with
  | some i =>
    refine wpAny_updateDict ho hd (hQ _ ⟨_, _, ep, Heap.get?_update_self _ ho (Obj.isFreed_of_dict (Obj.data_mapDict hd _)), hc.mapDict _, Obj.data_mapDict hd _, hk.modify _ _, ?_, ?_⟩ (Heap.SameBut.update ..))
    · rw [stored, if_pos (any_of_findIdx_some (hidx ▸ hi))]
      have hl : (es.toList.findIdx? fun e => (mixKind prog w).is k e.key) = some i := by
        rw [← hi]
        obtain ⟨l⟩ := es
        simp
      have := hp.modify hn hl v
      obtain ⟨l⟩ := es
      simpa using this
    · rw [stored, if_pos (any_of_findIdx_some (hidx ▸ hi)), keys_map_store]
      exact hn
  | none =>
    have hnot : k ∉ kvs.map (·.1) := not_mem_of_findIdx_none (hidx ▸ hi)
    have hany : ¬ (kvs.any fun kv => decide (kv.1 = k)) = true := by
      rw [List.any_eq_true]
      rintro ⟨kv, hkv, he⟩
      exact hnot (List.mem_map.mpr ⟨kv, hkv, of_decide_eq_true he⟩)
    refine wpAny_updateDictKeys (hz := hes) ho hd (hQ _ ⟨_, _, ep + 1, Heap.get?_update_self _ ho (Obj.isFreed_of_dict (Obj.data_mapDictKeys hd _)), hc.mapDictKeys _, Obj.data_mapDictKeys hd _, hk.push hkey _, ?_, ?_⟩ (Heap.SameBut.update ..))
    · rw [stored, if_neg hany]
      have := hp.append hkey ((mixKind prog w).hash k) v
      obtain ⟨l⟩ := es
      simpa using this
    · rw [stored, if_neg hany, List.map_append, List.nodup_append]
      refine ⟨hn, by simp, ?_⟩
      intro a ha b hb
      simp only [List.map_cons, List.map_nil, List.mem_singleton] at hb
      subst hb
      exact fun e => hnot (e ▸ ha)
theorem merge_pairs {d o : Addr} {kvs more : List (Key × Value)} {Q : Unit → Shared → Prop} (hdo : d ≠ o) (hoS : (o == sysModules) = false) (hd : s.heap.DictOf (mixKind prog w) d kvs) (ho : s.heap.DictOf (mixKind prog w) o more)
    (hQ : ∀ h', h'.DictOf (mixKind prog w) d (merged kvs more) → Heap.SameBut d s.heap h' → Q () { s with heap := h' }) (hsz : kvs.length + more.length ≤ sizeLine) :
    wpAny (model prog w) A (mergeMapping d (.ref o) false) Q E s := by
  obtain ⟨od, esd, epd, hod, hcd, hdd, hkd, hpd, hnd⟩ := id hd
  obtain ⟨oo, eso, epo, hoo, hco, hdo', hko, hpo, hno⟩ := id ho
  have hlen : more.length = eso.size := by rw [← hpo.length]; simp
  unfold mergeMapping
  refine wpAny_bind (wpAny_isInstance ho.typeIs isSubtype_dict_dict ?_)
  simp only [if_true]
  refine wpAny_bind (wpAny_specialOf ho.typeIs PySem.F.slot_dict_iter.lookup ?_)
  refine wpAny_bind (wpAny_pure ?_)
  simp only [beq_self_eq_true]
  rw [if_neg (by rw [hoS]; exact Bool.false_ne_true)]
  refine wpAny_bind (wpAny_dictEntries hod hdd ?_)
  have loop : wpAny (model prog w) A (do
      let l ← dictEntries o
      let epoch ← dictEpoch o
      forIn (List.range l.size) PUnit.unit fun i (_ : PUnit) => (do
          let l' ← dictEntries o
          match l'[i]? with
            | some e => do
              holding [e.key, e.val] (dictPut d e.hash e.key e.val)
              let ep' ← dictEpoch o
              if (ep' != epoch) = true then do
                  (unsupported "dict.changed-during-merge" : Sem PUnit)
                  pure (ForInStep.yield PUnit.unit)
                else pure (ForInStep.yield PUnit.unit)
            | _ => do
              (unsupported "dict.changed-during-merge" : Sem PUnit)
              pure (ForInStep.yield PUnit.unit) : Sem (ForInStep PUnit))
      pure ()) Q E s := by
    refine wpAny_bind (wpAny_dictEntries hoo hdo' ?_)
    refine wpAny_bind (wpAny_dictEpoch hoo hdo' ?_)
    refine wpAny_bind ?_
    rw [List.range_eq_range']
    refine wpAny_forIn_list _
      (fun rest _ s' => ∃ h' i, s' = { s with heap := h' } ∧ rest = List.range' i (eso.size - i) ∧ i ≤ eso.size ∧ h'.DictOf (mixKind prog w) d (merged kvs (more.take i)) ∧ h'.get? o = some oo ∧ Heap.SameBut d s.heap h')
      _ ?_ ?_ _ _ ⟨s.heap, 0, rfl, by simp, Nat.zero_le _, by simpa [merged] using hd, hoo, Heap.SameBut.refl _ _⟩
    · rintro x rest b s' ⟨h', i, rfl, hr, hi, hd', hoo', hs'⟩
      have hlt : i < eso.size := by
        rcases Nat.lt_or_ge i eso.size with h | h
        · exact h
        · rw [Nat.sub_eq_zero_of_le h] at hr
          simp at hr
      obtain ⟨rfl, hrest⟩ : x = i ∧ rest = List.range' (i + 1) (eso.size - (i + 1)) := by
        have e : eso.size - i = (eso.size - (i + 1)) + 1 := by omega
        rw [e, List.range'_succ] at hr
        injection hr with h1 h2
        exact ⟨h1, h2⟩
      refine wpAny_bind (wpAny_dictEntries hoo' hdo' ?_)
      rw [Array.getElem?_eq_getElem hlt]
      obtain ⟨kv, hkv⟩ : ∃ kv, more[x]? = some kv := ⟨more[x]'(by rw [hlen]; exact hlt), List.getElem?_eq_getElem _⟩
      obtain ⟨k, v⟩ := kv
      obtain ⟨hkey, hval⟩ := hpo.get? (e := eso[x]) (by simp [hlt]) hkv
      obtain ⟨k', hkey', hhash⟩ := hko eso[x] (Array.getElem_mem hlt)
      obtain rfl : k' = k := (mixKind prog w).inj _ _ _ hkey' hkey
      show wpAny _ _ (holding [eso[x].key, eso[x].val] (dictPut d eso[x].hash eso[x].key eso[x].val) >>= _) _ _ _
      rw [hhash, hval]
      have hmx : (merged kvs (more.take x)).length ≤ sizeLine := by
        have e1 := merged_length_le kvs (more.take x)
        have e2 : (more.take x).length ≤ more.length := by rw [List.length_take]; omega
        omega
      refine wpAny_bind (wpAny_holding (put_pairs (hsz := hmx) hkey hd' fun h'' hd'' hs'' => ?_))
      have hoo'' : h''.get? o = some oo := (hs''.2 o (Ne.symm hdo)).trans hoo'
      refine wpAny_bind (wpAny_dictEpoch hoo'' hdo' ?_)
      rw [if_neg (by simp)]
      exact wpAny_pure ⟨h'', x + 1, rfl, hrest, hlt, by rw [merged_take_succ kvs more x (k', v) hkv]; exact hd'', hoo'', hs'.trans hs''⟩
    · rintro b s' ⟨h', i, rfl, hr, hi, hd', hoo', hs'⟩
      have hin : i = eso.size := by
        rcases Nat.lt_or_ge i eso.size with h | h
        · have e : eso.size - i = (eso.size - (i + 1)) + 1 := by omega
          rw [e, List.range'_succ] at hr
          exact nomatch hr
        · exact Nat.le_antisymm hi h
      refine wpAny_pure (hQ h' ?_ hs')
      rw [hin, ← hlen, List.take_length] at hd'
      exact hd'
  split
  · refine wpAny_bind (wpAny_dictEntries hoo hdo' ?_)
    refine wpAny_bind (MeetsSeq2.wpAny_forIn_array _ (fun rest _ s' => s' = s ∧ ∀ e ∈ rest, e ∈ eso.toList) _ (fun e rest b s' hI => ?_) (fun b s' hI => ?_) _ _ ⟨rfl, fun e he => he⟩)
    · obtain ⟨rfl, hmem⟩ := hI
      obtain ⟨k', hkey', hhash⟩ := hko e (Array.mem_toList_iff.mp (hmem e (List.mem_cons_self ..)))
      have hrest : ∀ e' ∈ rest, e' ∈ eso.toList := fun e' he' => hmem e' (List.mem_cons_of_mem _ he')
      rcases keyIs_shape (show keyIs k' e.key = true from hkey') with ⟨i, t, _, ek⟩ | ⟨x, t, _, ek⟩
      · rw [ek]
        exact wpAny_pure ⟨rfl, hrest⟩
      · rw [ek]
        exact wpAny_pure ⟨rfl, hrest⟩
    · obtain ⟨rfl, _⟩ := hI
      exact loop
  · exact loop
end
section
variable {X : Cx}
theorem stored_put {kvs : List (Key × V)} {vs : List (Key × Value)} (r : KV kvs vs) : ∀ {more : List (Key × V)} {ws : List (Key × Value)}, KV more ws → KV (more.foldl (fun a p => putK a p.1 p.2) kvs) (merged vs ws) := by
  intro more ws h
  induction h generalizing kvs vs with
  | nil => exact r
  | cons p q ih =>
    rename_i a b l m
    obtain ⟨e, rv⟩ := p
    show KV (List.foldl _ (putK kvs a.1 a.2) l) (merged (stored vs b.1 b.2) m)
    rw [← e]
    exact ih (r.put a.1 rv)
def mergeV (a b : List (Key × V)) : List (Key × V) := b.foldl (fun a p => putK a p.1 p.2) a
theorem mergeV_len (a b : List (Key × V)) : (mergeV a b).length ≤ a.length + b.length := by
  unfold mergeV
  induction b generalizing a with
  | nil => simp
  | cons p b ih =>
    rw [List.foldl_cons]
    have h1 := ih (putK a p.1 p.2)
    have h2 := length_putK a p.1 p.2
    simp only [List.length_cons]
    omega
theorem merge_run {A : Around} {E : Value → Shared → Prop} {pins : List (Addr × Obj)} {σ : L2.St} {H : Hp} {s : Shared} {d o : Addr} {kvs more : List (Key × V)} {Q : Unit → Shared → Prop} (I : Inv X pins σ H s) (hdo : d ≠ o) (hd : H d = some (.dK kvs)) (ho : H o = some (.dK more)) (hsz : kvs.length + more.length ≤ sizeLine)
    (h : ∀ s', Inv X pins σ (upd H d (.dK (mergeV kvs more))) s' → Q () s') : wpAny (model X.prog X.w) A (mergeMapping d (.ref o) false) Q E s := by
  obtain ⟨z1, hs1, vs, rel, dd⟩ := dk_of I.hok hd
  obtain ⟨z2, hs2, ws, rel2, dd2⟩ := dk_of I.hok ho
  refine merge_pairs hdo hs2 dd dd2 (fun h' dd' hs => h _ ?_) (by rw [← rel.length, ← rel2.length]; exact hsz)
  have he : ∃ q, h'.get? d = some q := let ⟨q, _, _, hq, _⟩ := dd'; ⟨q, hq⟩
  exact d_write I (by rw [hd]; exact True.intro) hs he (dk_new (Nat.le_trans (mergeV_len _ _) hsz) hs1 (stored_put rel rel2) dd')
/-- {**a, **b}: a new dict first, then a into it, then b -/
def tMerge2 (ta tb : TE) : TE := fun σ H Q => ∀ p, H p = none → ta σ (upd H p (.dK [])) fun x H1 => ∃ (a : Addr) (ka : List (Key × V)), x = .ref a ∧ a ≠ p ∧ H1 a = some (.dK ka) ∧ H1 p = some (.dK []) ∧ ka.length ≤ sizeLine ∧
  tb σ (upd H1 p (.dK (mergeV [] ka))) fun y H2 => ∃ (b : Addr) (kb : List (Key × V)), y = .ref b ∧ b ≠ p ∧ H2 b = some (.dK kb) ∧ H2 p = some (.dK (mergeV [] ka)) ∧ (mergeV [] ka).length + kb.length ≤ sizeLine ∧ Q (.ref p) (upd H2 p (.dK (mergeV (mergeV [] ka) kb)))
theorem pe_merge2 {e1 e2 : Expr} {ta tb : TE} {pos : Pos} (h1 : PE X e1 ta) (h2 : PE X e2 tb) : PE X (.Dict [none, none] [e1, e2] pos) (tMerge2 ta tb) := by
  refine ⟨fun pins s σ H Q I q => ?_⟩
  show wpAny _ _ (do
    standAt pos
    dictDisplay [(none, do let x ← eval e1 X.env; standAt pos; pure x), (none, do let x ← eval e2 X.env; standAt pos; pure x)]) _ _ _
  refine wpAny_bind (wpAny_standAt ?_)
  have hn := I.hok.fresh (Nat.le_refl s.heap.objs.size)
  have I1 := I.laid (a := s.heap.objs.size) (o := .dK []) (h' := s.heap.push { cls := .type "dict", data := .dict #[] }) (t' := s.toks) (fun _ _ q => Heap.get?_push_of_some _ q) (Nat.le_refl _) (dk_empty s.heap I.big)
  have q := q _ hn
  unfold dictDisplay
  simp only [List.forIn_cons, List.forIn_nil, List.isEmpty_nil, if_true]
  refine wpAny_bind ?_
  refine wpAny_bind ?_
  refine wpAny_bind (wpAny_pure ?_)
  dsimp only
  refine wpAny_bind (wpAny_alloc ?_)
  refine wpAny_bind (wpAny_holding (wpAny_bind (thn (h1.run pins _ σ _ _ I1 q) fun v s2 ⟨x, H2, I2, rx, a, ka, ex, hap, ha, hp, hz, q2⟩ => wpAny_bind (wpAny_standAt (wpAny_pure ?_)))))
  subst ex
  cases rx
  refine wpAny_bind (wpAny_onRaise (wpAny_tryCatch (wpAny_onRaise (wpAny_holding (merge_run I2 hap.symm hp ha (by rw [List.length_nil, Nat.zero_add]; exact hz) fun s3 I3 => ?_)))))
  refine wpAny_pure ?_
  dsimp only
  refine wpAny_bind ?_
  simp only [List.isEmpty_nil, if_true]
  refine wpAny_bind (wpAny_pure ?_)
  dsimp only
  refine wpAny_bind (wpAny_pure ?_)
  refine wpAny_bind (wpAny_holding (wpAny_bind (thn (h2.run pins _ σ _ _ I3 q2) fun v s4 ⟨y, H4, I4, ry, b, kb, ey, hbp, hb, hp4, hz4, q4⟩ => wpAny_bind (wpAny_standAt (wpAny_pure ?_)))))
  subst ey
  cases ry
  refine wpAny_bind (wpAny_onRaise (wpAny_tryCatch (wpAny_onRaise (wpAny_holding (merge_run I4 hbp.symm hp4 hb hz4 fun s5 I5 => ?_)))))
  refine wpAny_pure ?_
  dsimp only
  refine wpAny_pure ?_
  simp only [List.isEmpty_nil, if_true]
  refine wpAny_bind (wpAny_pure ?_)
  exact wpAny_pure ⟨.ref _, _, I5, rfl, q4⟩
end
end Sf
namespace Sf
open PySem PySem.Spec PyProof.Rows L2 TL
def MAt (K : PySem.W.Frag) (C : Addr) (m q : Str) (st : Stmt) (ps : List Str) : Prop := ∃ (f : Addr) (fd : FuncData), Meth K C m f ∧ Fun K m q st f fd ∧ Binds K fd ps []
def HasM (P : Program) (w : World) (K : PySem.W.Frag) (mg : Str → Option Value) (base : Heap) (C : Addr) (k : Nat) (m : Str) (ps : List Str) (sp : Sp) : Prop :=
  ∃ (f : Addr) (fd : FuncData), Meth K C m f ∧ Binds K fd ps [] ∧ FnOk P w K mg base CX0 k f fd ps sp
theorem MAt.has {P : Program} {w : World} {K : PySem.W.Frag} {mg : Str → Option Value} {base : Heap} {C : Addr} {k : Nat} {m q : Str} {st : Stmt} {ps : List Str} {sp : Sp} (h : MAt K C m q st ps)
    (ok : ∀ {f : Addr} {fd : FuncData}, Fun K m q st f fd → FnOk P w K mg base CX0 k f fd ps sp) : HasM P w K mg base C k m ps sp := by
  obtain ⟨f, fd, g, F, b⟩ := h
  exact ⟨f, fd, g, b, ok F⟩
theorem mAt_mk {K : PySem.W.Frag} {C : Addr} {m q : Str} {st : Stmt} {ps : List Str} {f : Addr} {oc : Value} {od an : Option Addr} {osl : Array (Option Value)} {kV doc pm cdv ct : Value}
    (a : PySem.W.findIn K (.ref C) m = some (some (.ref f))) (i : PySem.W.isFn K (.ref f) = true) (l : K.lookup f = some ⟨oc, od, .func (PySem.W.fnOf m q (defArgs st) (defBody st) (defScope st) .none kV doc pm an cdv ct), osl⟩)
    (c : PySem.W.codeIn K cdv q = true) (k : PySem.W.keepIn K (.ref f) = true)
    (b : ∀ (kV doc pm : Value) (an : Option Addr) (cdv ct : Value) (us : List Value), us.length = ps.length → bindArgs (PySem.W.fnOf m q (defArgs st) (defBody st) (defScope st) .none kV doc pm an cdv ct) ⟨us, []⟩ = pure (ps.zip us)) : MAt K C m q st ps :=
  ⟨f, _, ⟨a, i, k⟩, fun_mk l c k, (fun_mk l c k).binds b⟩
theorem dc_gen {J : It} {n : Nat} {g : TG} {tt : TT} {tk tv : TE} {vs : List Nat} {σ : L2.St} {H1 : Hp} {D : Addr} {Qd : Hp → Prop} (Pv : Nat → Hp → Prop) (h0 : Pv 0 (upd H1 D (.dK [])))
    (hgo : ∀ i H, i < n → Pv i H → J.go i H) (hst : ∀ H, Pv n H → J.stop n H)
    (hs : ∀ i x H H', i < n → Pv i H → J.yld i H x H' → g x (wipe σ vs) H' fun σ2 H2 => wipe σ2 vs = wipe σ vs ∧ tt σ2 H2 fun b H3 =>
      if b = true then tk σ2 H3 fun y H4 => tv σ2 H4 fun z H5 => ∃ kvs k, y = kV k ∧ H5 D = some (.dK kvs) ∧ kvs.length < sizeLine ∧ Pv (i + 1) (upd H5 D (.dK (putK kvs k z))) else Pv (i + 1) H3) (hd : ∀ H, Pv n H → Qd H) :
    ∃ W : Nat → Nat → Hp → Prop, (∃ m, W 0 m (upd H1 D (.dK []))) ∧ ∀ i m H, W i m H →
      (J.stop i H ∧ Qd H) ∨ (J.go i H ∧ ∃ Nx : Hp → Prop, (∀ H', Nx H' → ∃ m', m' < m ∧ W (i + 1) m' H') ∧ ∀ x H', J.yld i H x H' → g x (wipe σ vs) H' fun σ2 H2 => wipe σ2 vs = wipe σ vs ∧ tt σ2 H2 fun b H3 =>
        if b = true then tk σ2 H3 fun y H4 => tv σ2 H4 fun z H5 => ∃ kvs k, y = kV k ∧ H5 D = some (.dK kvs) ∧ kvs.length < sizeLine ∧ Nx (upd H5 D (.dK (putK kvs k z))) else Nx H3) := by
  refine ⟨fun i m H => m = n - i ∧ i ≤ n ∧ Pv i H, ⟨n, rfl, Nat.zero_le _, h0⟩, ?_⟩
  rintro i m H ⟨rfl, hi, p⟩
  by_cases hlt : i < n
  · exact .inr ⟨hgo i H hlt p, Pv (i + 1), fun H' p' => ⟨n - (i + 1), by omega, rfl, hlt, p'⟩, fun x H' y => hs i x H H' hlt p y⟩
  · have e : i = n := by omega
    subst e
    exact .inl ⟨hst H p, hd H p⟩
theorem kit_self {K : PySem.W.Frag} {t : Value} : PySem.W.kitOne K t t = some true := by
  unfold PySem.W.kitOne
  rw [if_pos (beq_self_eq_true t)]
end Sf
namespace Sf
open PySem PySem.Spec PyProof.Rows L2 TL
/-! ### ==, != and len of an own class -/
section
variable {X : Cx} {k : Nat} {f C : Addr} {fd : FuncData} {ps : List Str} {sp : Sp}
theorem run_fnA {A : Around} {Er : Value → Shared → Prop} {pins : List (Addr × Obj)} {σ : L2.St} {H : Hp} {s : Shared} {Q : VK} {us : List Value} {vs : List V} (F : FnOk X.prog X.w X.K X.mg X.base CX0 k f fd ps sp) (hr : Room k A) (e0 : Env0 X.prog X.w X.K X.mg X.base A X.stack s H) (hb : Binds X.K fd ps [])
    (I : Inv X pins σ H s) (r : Vals vs us) (h : sp vs H Q E0) : wpAny (model X.prog X.w) A (call (.ref f) us) (EP X pins σ Q) Er s := by
  have hl : (us ++ []).length = ps.length := by rw [List.append_nil, ← r.length]; exact F.len _ _ _ _ h
  have hbd := hb s us I.kIn hl
  rw [List.append_nil] at hbd
  refine wpAny_call (codeAny_mono (F.run A X.stack s H ⟨us, []⟩ us vs Q E0 hr e0 hbd r h) fun r s' hq => ?_)
  cases r with
  | error e => exact False.elim hq
  | ok fl =>
    cases fl with
    | ret u => exact I.after hq
    | next => exact False.elim hq
    | brk => exact False.elim hq
    | cont => exact False.elim hq
/-- a == b, both of the class at C, by its __eq__ -/
theorem op_eqOwn (F : FnOk X.prog X.w X.K X.mg X.base CX0 k f fd ps sp) (hs : PySem.W.findIn X.K (.ref C) "__eq__" = some (some (.ref f))) (hf : PySem.W.isFn X.K (.ref f) = true) (hb : Binds X.K fd ps []) (hr : Room k X.A) :
    OpR X (compareOp .Eq) (fun x y H Q => ∃ a b dx dy fs gs, x = .ref a ∧ y = .ref b ∧ H a = some (.ins C dx fs) ∧ H b = some (.ins C dy gs) ∧ sp [.ref a, .ref b] H (fun v H' => ∃ t, v = .bl t ∧ Q (.bl t) H') E0) := by
  intro pins s σ H x y v u Q I rx ry h
  obtain ⟨a, b, dx, dy, fs, gs, rfl, rfl, ha, hb', h⟩ := h
  cases rx
  cases ry
  obtain ⟨mA, J, _⟩ := ins_get I.hok ha
  obtain ⟨mB, J', _⟩ := ins_get I.hok hb'
  obtain ⟨od, J, _⟩ := J.look
  obtain ⟨od', J', _⟩ := J'.look
  obtain ⟨m, hF⟩ := I.fr
  refine PySem.W.cmp_K (op := .Eq) (tb := .ref C) hr.units0 hF I.ok.mod.kin J J'.type (by simp [PySem.W.notFirst]) hs hf ?_
  refine wpAny_mono (run_fnA (Er := X.xe) F hr I.env0 hb I (show Vals [V.ref a, V.ref b] [Value.ref a, Value.ref b] from .cons rfl (.cons rfl .nil)) h) (fun v s' hv => ?_) fun _ _ z => z
  obtain ⟨z, H', I', rz, t, rfl, q⟩ := hv
  cases rz
  exact ⟨.bl t, H', I', rfl, q⟩
theorem ifBound_ne {M : Model} {A : Around} {E : Value → Shared → Prop} {s : Shared} {K : PySem.W.Frag} {x : Addr} {ox : Obj} {od : Option Obj} {args : List Value} {Q : Option Value → Shared → Prop} (X : K.In s.heap) (I : PySem.W.InstAt s.heap x ox C od) (hs : PySem.W.findIn K (.ref C) "__ne__" = some (some (.builtin "object.__ne__")))
    (h : wpAny M A (call (.builtin "object.__ne__") (.ref x :: args)) (fun v => Q (some v)) E s) : wpAny M A (callSpecialIfBound? (.ref x) "__ne__" args) Q E s := by
  simp only [callSpecialIfBound?, bindSpecialIfBound?]
  refine wpAny_holding (wpAny_bind (wpAny_bind (wpAny_bind (I.type.here ((PySem.W.looks_findIn X hs).here ?_)))))
  refine wpAny_bind (wpAny_askSetting (wpAny_ite ?_))
  have fin : wpAny M A (call (.builtin "object.__ne__") ([.ref x] ++ args) >>= fun v => pure (some v)) Q E s := wpAny_bind (wpAny_mono h (fun v s' h' => wpAny_pure h') fun _ _ h' => h')
  split
  · exact wpAny_bind (wpAny_of_eq (PySem.F.cmp_object.ne.bind _) (wpAny_pure (by exact fin)))
  · exact wpAny_tryCatch (wpAny_bind (wpAny_of_eq (PySem.F.cmp_object.ne.bind _) (wpAny_pure (by exact fin))))
/-- a != b, both of the class at C, by its __eq__ -/
theorem op_neOwn (F : FnOk X.prog X.w X.K X.mg X.base CX0 k f fd ps sp) (hs : PySem.W.findIn X.K (.ref C) "__eq__" = some (some (.ref f))) (hf : PySem.W.isFn X.K (.ref f) = true) (hb : Binds X.K fd ps []) (hn : PySem.W.findIn X.K (.ref C) "__ne__" = some (some (.builtin "object.__ne__")))
    (hm : PySem.W.mroIn X.K C (.type "object") = some true) (hr : Room (k + 1) X.A) :
    OpR X (compareOp .NotEq) (fun x y H Q => ∃ a b dx dy fs gs, x = .ref a ∧ y = .ref b ∧ H a = some (.ins C dx fs) ∧ H b = some (.ins C dy gs) ∧ sp [.ref a, .ref b] H (fun v H' => ∃ t, v = .bl t ∧ Q (.bl (!t)) H') E0) := by
  intro pins s σ H x y v u Q I rx ry h
  obtain ⟨a, b, dx, dy, fs, gs, rfl, rfl, ha, hb', h⟩ := h
  cases rx
  cases ry
  obtain ⟨mA, J, _⟩ := ins_get I.hok ha
  obtain ⟨mB, J', _⟩ := ins_get I.hok hb'
  obtain ⟨od, J, _⟩ := J.look
  obtain ⟨od', J', _⟩ := J'.look
  have hu1 : X.A.in1.units < cLine := hr.in1.units0
  have one : wpAny (model X.prog X.w) X.A (tryCompare (.ref a) (cmpInfo .NotEq).2.1 (.ref b)) (fun r s' => ∃ v, r = some v ∧ EP X pins σ Q v s') X.xe s := by
    unfold tryCompare
    refine wpAny_bind (ifBound_ne I.kIn J hn ?_)
    refine wpAny_call (codeAny_call_builtin PySem.F.cmp_object.ne.plain PySem.F.cmpEntry_ne (PySem.W.check_slot PySem.F.cmpKind_ne PySem.F.cmpSplit_ne (J.type.andThen (PySem.W.looks_mroIn I.kIn hm)) (PySem.F.cmpArgs_ne _ _) ?_))
    unfold Builtin.«object.__ne__»
    refine wpAny_bind (wpAny_of_eq (a := (.ref a, [.ref b])) rfl ?_)
    dsimp only
    refine wpAny_bind (wpAny_cRoomFor hu1 ?_)
    refine wpAny_bind (PySem.W.ifBound_K I.kIn J hs hf ?_)
    refine wpAny_mono (run_fnA F hr.in1 I.env0.in1 hb I (show Vals [V.ref a, V.ref b] [Value.ref a, Value.ref b] from .cons rfl (.cons rfl .nil)) h) (fun v s' hv => ?_) fun _ _ z => z
    obtain ⟨z, H', I', rz, t, rfl, q⟩ := hv
    cases rz
    refine wpAny_bind (wpAny_truthy_bool ?_)
    exact wpAny_pure (wpAny_pure ⟨_, rfl, .bl (!t), H', I', rfl, q⟩)
  show wpAny (model X.prog X.w) X.A (richCompare .NotEq (.ref a) (.ref b)) _ _ _
  unfold richCompare
  simp only [oneThing_ref]
  refine wpAny_holding (wpAny_bind (wpAny_cRoomFor hr.units0 ?_))
  refine wpAny_bind (J.type.here (wpAny_bind (J'.type.here ?_)))
  split
  · rename_i q
    simp at q
  · refine wpAny_bind (wpAny_pure ?_)
    simp only [Bool.false_eq_true, if_false]
    refine wpAny_bind (wpAny_mono one (fun r s' z => ?_) fun _ _ e => e)
    obtain ⟨v, rfl, hq⟩ := z
    exact wpAny_pure hq
/-- len(a), a of the class at C, by its __len__ -/
theorem call_lenOwn (F : FnOk X.prog X.w X.K X.mg X.base CX0 k f fd ps sp) (hs : PySem.W.findIn X.K (.ref C) "__len__" = some (some (.ref f))) (hf : PySem.W.isFn X.K (.ref f) = true) (hb : Binds X.K fd ps []) (hr : Room (k + 1) X.A) :
    CallR X (.builtin "len") (fun xs H Q => ∃ a dx fs, xs = [.ref a] ∧ H a = some (.ins C dx fs) ∧ sp [.ref a] H (fun v H' => ∃ n : Nat, v = .int (n : Int) ∧ n ≤ sizeLine ∧ Q (.int (n : Int)) H') E0) := by
  intro pins s σ H xs us Q I r h
  obtain ⟨a, dx, fs, rfl, ha, h⟩ := h
  obtain ⟨u1, rfl, r1⟩ := vals1 r
  cases r1
  obtain ⟨mA, J, _⟩ := ins_get I.hok ha
  obtain ⟨od, J, _⟩ := J.look
  obtain ⟨m, hF⟩ := I.fr
  refine PySem.W.len_K hF I.ok.mod.kin J hs hf ?_
  refine wpAny_mono (run_fnA F hr.in1 I.env0.in1 hb I (show Vals [V.ref a] [Value.ref a] from .cons rfl .nil) h) (fun v s' hv => ?_) fun _ _ z => z
  obtain ⟨z, H', I', rz, n, rfl, hn, q⟩ := hv
  obtain ⟨t, rfl⟩ := rz
  have h63 : (n : Int) < 2 ^ 63 := by
    have := line63
    have : n < 2 ^ 63 := Nat.lt_of_le_of_lt hn this
    exact_mod_cast this
  exact ⟨⟨Int.natCast_nonneg n, h63⟩, .int (n : Int), H', I'.tok _, ⟨_, rfl⟩, q⟩
end
end Sf
namespace Sf
open PySem PySem.Spec PyProof.Rows L2 TL
section
variable {X : Cx}
/-! ### name = {k: v for ..} on one line, the name a local -/
theorem ps_setDc {i : Nat} {y : Str} {py : Pos} {kx vx tg iter : Expr} {ifs : List Expr} {scope : Scope} {own : List (Str × Nat)} {pos spos : Pos} {wi : TI} {g : TG} {tt : TT} {tk tv : TE} (hc : X.calm = true) (hN : X.N.Nodup) (hy : X.N[i]? = some y) (hyl : X.env.scope.names.lookup y = some .local)
    (hsw : swapsWith (.DictComp kx vx [⟨tg, iter, ifs, 0⟩] scope pos) (some (.Name y py)) spos.line X.env = pure true) (hi : PI X tg iter wi) (ok : BlkOk X.N X.env.scope scope own)
    (hg : ∀ (s : Shared) (H : Hp) (C : Addr) (cl : List (Str × Addr)) (fp : List Addr), PG (X.blk s H scope (compEnvC scope cl C X.env) fp) tg g) (ht : ∀ (s : Shared) (H : Hp) (C : Addr) (cl : List (Str × Addr)) (fp : List Addr), PTs (X.blk s H scope (compEnvC scope cl C X.env) fp) ifs tt)
    (hk : ∀ (s : Shared) (H : Hp) (C : Addr) (cl : List (Str × Addr)) (fp : List Addr), PE (X.blk s H scope (compEnvC scope cl C X.env) fp) kx tk)
    (he : ∀ (s : Shared) (H : Hp) (C : Addr) (cl : List (Str × Addr)) (fp : List Addr), PE (X.blk s H scope (compEnvC scope cl C X.env) fp) vx tv) (hs : ∀ x, foldedSetIterable iter X.env x = pure x := by intro _; rfl) :
    PS X (.Assign [.Name y py] (.DictComp kx vx [⟨tg, iter, ifs, 0⟩] scope pos) spos) (tAsg (tDc wi g tt tk tv (own.map (·.2))) (gName i)) := by
  refine ⟨fun pins s σ H D I h => ?_⟩
  rw [exec_Assign_Name_used _ _ _ _ hsw]
  refine wpAny_bind (wpAny_standAt (wpAny_bind ?_))
  show wpAny _ X.A (do let _ ← comprehension (.DictComp kx vx [⟨tg, iter, ifs, 0⟩] scope pos) scope X.env (firstIterPos [⟨tg, iter, ifs, 0⟩] pos) newDict false (eval iter X.env) (some (assign (.Name y py) X.env))) _ _ s
  have h : tDc wi g tt tk tv (own.map (·.2)) σ H (fun x H1 => gName i x σ H1 D.nx) := h
  refine wpAny_bind (thn (dc_core (Qf := fun _ s' => SP X pins D .next s') hc hN I hi ok hg ht hk he hs h fun L C s' m H' I' q hn f => ?_) fun _ s' hq => wpAny_pure (wpAny_pure hq))
  show wpAny _ _ (assign (.Name y py) X.env (.ref L)) _ _ _
  refine wpAny_assign_Name (store_ok2 (v := V.ref L) I' hN hy (.inl hyl) rfl (fun s2 I2 ⟨a, sb, ha⟩ => ?_) (.inr hyl))
  obtain ⟨f0, f1, f2, f3, f4, f5⟩ := f
  have haC : C ≠ a := by
    rcases ha with z | z
    · rw [z]; exact f1
    · exact fun e => f4 y a z e.symm
  refine ⟨m, hn.sameBut sb haC, fun h3 sb3 => ?_⟩
  exact ⟨_, H', I2.turned (t' := s2.toks) (fun b o hb e => (sb3.2 b hb).trans e) f0 f1 f3 f4 f5, q⟩
theorem swD_true {kx vx : Expr} {gs : List Comprehension} {scope : Scope} {pos py : Pos} {y : Str} {l : Nat} {env : Env} (hk : env.scope.kind = .function) (hy : env.scope.names.lookup y = some .local) (hl : (py.line == pos.line) = true)
    (ha : (scope.names.any fun (n, k) => n == y && (k == .local || k == .cell)) = false) : swapsWith (.DictComp kx vx gs scope pos) (some (.Name y py)) l env = pure true := by
  have ky : env.kindOf y = some .local := hy
  have hb : env.blockKind = .function := by unfold Env.blockKind; rw [hk]; rfl
  unfold swapsWith
  simp only [hb, ky, ha, Expr.pos, hl]
  rfl
end
end Sf
namespace Sf
open PySem PySem.Spec PyProof.Rows L2 TL
/-! ### the readings, step by step -/
theorem pe_gS {X : Cx} {x z : Str} {t : Tok} {pos : Pos} (hg : Gl X x) (hm : X.mg x = some (.str z t)) (hd : (x == ("__debug__" : Str)) = false := by decide) : PE X (.Name x pos) (tC (.str z)) := pe_glob (v := .str z) hg hm ⟨t, rfl⟩ hd
theorem pe_gI {X : Cx} {x : Str} {z : Int} {t : Tok} {pos : Pos} (hg : Gl X x) (hm : X.mg x = some (.int z t)) (hd : (x == ("__debug__" : Str)) = false := by decide) : PE X (.Name x pos) (tC (.int z)) := pe_glob (v := .int z) hg hm ⟨t, rfl⟩ hd
/-- a new object at p -/
structure Nw (p : Addr) (H H1 : Hp) : Prop where
  nn : H p = none
  off : ∀ a, a ≠ p → H1 a = H a
/-- all but what stands at p is as it was -/
def Of (p : Addr) (H H1 : Hp) : Prop := ∀ a, a ≠ p → H1 a = H a
theorem Nw.at {p a : Addr} {H H1 : Hp} {o : HO} (n : Nw p H H1) (h : H a = some o) : H1 a = some o := by
  rw [n.off a (ne_of_none h n.nn)]
  exact h
theorem Nw.same {p : Addr} {H H1 : Hp} (n : Nw p H H1) : Same H H1 := fun _ _ h => n.at h
theorem Nw.ne {p a : Addr} {H H1 : Hp} {o : HO} (n : Nw p H H1) (h : H a = some o) : a ≠ p := ne_of_none h n.nn
theorem _root_.L2.Same.at {a : Addr} {H H1 : Hp} {o : HO} (n : Same H H1) (h : H a = some o) : H1 a = some o := n _ _ h
theorem Of.at {p a : Addr} {H H1 : Hp} {o : HO} (n : Of p H H1) (ne : a ≠ p) (h : H a = some o) : H1 a = some o := by
  rw [n a ne]
  exact h
theorem Fx.at {b a : Addr} {H H1 : Hp} {o : HO} (n : Fx b H H1) (ne : a ≠ b) (h : H a = some o) : H1 a = some o := n _ _ h ne
theorem Nw.mk' {p : Addr} {H : Hp} {o : HO} (h : H p = none) : Nw p H (upd H p o) := ⟨h, fun _ n => upd_ne n⟩
theorem _root_.L2.Same.off {p : Addr} {H H1 H2 : Hp} (s : Same H H1) (o : Of p H1 H2) (n : H p = none) : Same H H2 := fun a u h => o.at (ne_of_none h n) (s _ _ h)
theorem _root_.L2.Same.nw {p : Addr} {H H1 H2 : Hp} (s : Same H H1) (o : Nw p H1 H2) : Same H H2 := s.trans o.same
theorem Of.mk' {p : Addr} {H : Hp} {o : HO} : Of p H (upd H p o) := fun _ n => upd_ne n
theorem Bag.nw {H H1 : Hp} {b l p : Addr} (h : Bag H b l) (n : Nw p H H1) : Bag H1 b l := h.same n.same
theorem Bag.off {H H1 : Hp} {b l p : Addr} (h : Bag H b l) (n1 : p ≠ b) (n2 : p ≠ l) (o : Of p H H1) : Bag H1 b l := by
  obtain ⟨ns, k, z, r, h⟩ := h
  exact ⟨ns, k, z, r, o.at n1.symm h.hb, o.at n2.symm h.hl, h.k0, h.z0, h.r0, h.r1⟩
theorem Fx.nw {b p : Addr} {H H1 H2 : Hp} (f : Fx b H H1) (n : Nw p H1 H2) : Fx b H H2 := f.same n.same
theorem Fx.off {b p : Addr} {H H1 H2 : Hp} (f : Fx b H H1) (o : Of p H1 H2) (n : H p = none) : Fx b H H2 := fun a u e hb => o.at (ne_of_none e n) (f a u e hb)
section
variable {σ : L2.St} {H : Hp} {Q : VK} {D : Ends} {K : PySem.W.Frag}
theorem w_var {i : Nat} {v : V} (h : σ[i]? = some (some v)) (q : Q v H) : tVar i σ H Q := ⟨v, h, q⟩
theorem w_c {v : V} (q : Q v H) : tC v σ H Q := q
theorem w_op {r : R2} {ta tb : TE} (q : ta σ H fun x H1 => tb σ H1 fun y H2 => r x y H2 Q) : tOp r ta tb σ H Q := q
theorem w_un {r : V → Hp → VK → Prop} {ta : TE} (q : ta σ H fun x H1 => r x H1 Q) : tUn r ta σ H Q := q
theorem w_i0 {g : Int → Int → V} {i j : Int} (q : Q (g i j) H) : rI0 g (.int i) (.int j) H Q := ⟨i, j, rfl, rfl, q⟩
theorem w_i {C : Int → Int → Prop} {g : Int → Int → V} {i j : Int} (c : C i j) (q : Q (g i j) H) : rI C g (.int i) (.int j) H Q := ⟨i, j, rfl, rfl, c, q⟩
theorem w_u {g : Int → V} {i : Int} (q : Q (g i) H) : rU g (.int i) H Q := ⟨i, rfl, q⟩
theorem dec_int (i j : Int) : decide (V.int i = V.int j) = decide (i = j) := by
  by_cases h : i = j
  · subst h; simp
  · rw [decide_eq_false h, decide_eq_false (fun e => h (V.int.inj e))]
theorem dec_str (i j : Str) : decide (V.str i = V.str j) = decide (i = j) := by
  by_cases h : i = j
  · subst h; simp
  · rw [decide_eq_false h, decide_eq_false (fun e => h (V.str.inj e))]
theorem dec_bl (i j : Bool) : decide (V.bl i = V.bl j) = decide (i = j) := by
  by_cases h : i = j
  · subst h; simp
  · rw [decide_eq_false h, decide_eq_false (fun e => h (V.bl.inj e))]
theorem w_eqI {i j : Int} (q : Q (.bl (decide (i = j))) H) : rEq (.int i) (.int j) H Q := ⟨rfl, by rw [dec_int]; exact q⟩
theorem w_neI {i j : Int} (q : Q (.bl (!decide (i = j))) H) : rNe (.int i) (.int j) H Q := ⟨rfl, by rw [dec_int]; exact q⟩
theorem w_eqS {i j : Str} (q : Q (.bl (decide (i = j))) H) : rEq (.str i) (.str j) H Q := ⟨rfl, by rw [dec_str]; exact q⟩
theorem w_neS {i j : Str} (q : Q (.bl (!decide (i = j))) H) : rNe (.str i) (.str j) H Q := ⟨rfl, by rw [dec_str]; exact q⟩
theorem w_eqB {i j : Bool} (q : Q (.bl (decide (i = j))) H) : rEq (.bl i) (.bl j) H Q := ⟨rfl, by rw [dec_bl]; exact q⟩
theorem w_neB {i j : Bool} (q : Q (.bl (!decide (i = j))) H) : rNe (.bl i) (.bl j) H Q := ⟨rfl, by rw [dec_bl]; exact q⟩
/-! texts -/
def rAddStr : R2 := fun x y H Q => ∃ i j, x = .str i ∧ y = .str j ∧ i.length + j.length ≤ sizeLine ∧ Q (.str (i ++ j)) H
theorem op_addS {X : Cx} : OpR X (binaryOp .Add) rAddStr := op_add_str
theorem w_addS {i j : Str} (h : i.length + j.length ≤ sizeLine) (q : Q (.str (i ++ j)) H) : rAddStr (.str i) (.str j) H Q := ⟨i, j, rfl, rfl, h, q⟩
def rInSign : R2 := fun x y H Q => ∃ (c : Nat) (z : Str), x = .str ⟨#[c]⟩ ∧ y = .str z ∧ Q (.bl (decide (c ∈ z.cps.toList))) H
theorem op_inSg {X : Cx} : OpR X (compareOp .In) rInSign := op_in_sign
theorem w_inSg {c : Nat} {z : Str} (q : Q (.bl (decide (c ∈ z.cps.toList))) H) : rInSign (.str (one c)) (.str z) H Q := ⟨c, z, rfl, rfl, q⟩
def rNotInSign : R2 := fun x y H Q => ∃ (c : Nat) (z : Str), x = .str ⟨#[c]⟩ ∧ y = .str z ∧ Q (.bl (!decide (c ∈ z.cps.toList))) H
theorem op_notInSg {X : Cx} : OpR X (compareOp .NotIn) rNotInSign := op_notIn_sign
theorem w_notInSg {c : Nat} {z : Str} (q : Q (.bl (!decide (c ∈ z.cps.toList))) H) : rNotInSign (.str (one c)) (.str z) H Q := ⟨c, z, rfl, rfl, q⟩
def rIsNone : R2 := fun x y H Q => y = .non ∧ Q (.bl (decide (x = .non))) H
theorem op_isNn {X : Cx} : OpR X (compareOp .Is) rIsNone := op_isN
theorem w_isN {x : V} (q : Q (.bl (decide (x = .non))) H) : rIsNone x .non H Q := ⟨rfl, q⟩
theorem w_isNI {i : Int} (q : Q (.bl false) H) : rIsNone (.int i) .non H Q := ⟨rfl, by rw [decide_eq_false (fun z => nomatch z)]; exact q⟩
theorem w_isNN (q : Q (.bl true) H) : rIsNone .non .non H Q := ⟨rfl, by rw [decide_eq_true rfl]; exact q⟩
def rNotNone : R2 := fun x y H Q => y = .non ∧ Q (.bl (!decide (x = .non))) H
theorem op_notNn {X : Cx} : OpR X (compareOp .IsNot) rNotNone := op_notN
theorem w_notN {x : V} (q : Q (.bl (!decide (x = .non))) H) : rNotNone x .non H Q := ⟨rfl, q⟩
theorem w_notNI {i : Int} (q : Q (.bl true) H) : rNotNone (.int i) .non H Q := ⟨rfl, by rw [decide_eq_false (fun z => nomatch z)]; exact q⟩
theorem w_notNN (q : Q (.bl false) H) : rNotNone .non .non H Q := ⟨rfl, by rw [decide_eq_true rfl]; exact q⟩
theorem w_slS {z : Str} {lo hi : Option Int} (h : z.length ≤ sizeLine) (q : Q (.str (cutS z lo hi)) H) : rSlS (.str z) lo hi H Q := ⟨z, rfl, h, q⟩
theorem w_sl {r : V → Option Int → Option Int → Hp → VK → Prop} {te : TE} {tl th : TO} (q : te σ H fun x H1 => tl σ H1 fun l H2 => th σ H2 fun u H3 => r x l u H3 Q) : tSl r te tl th σ H Q := q
theorem w_nopart {Q : Option Int → Hp → Prop} (q : Q none H) : tNoPart σ H Q := q
def kPart (Q : Option Int → Hp → Prop) : VK := fun x H1 => ∃ i, x = .int i ∧ Q (some i) H1
theorem w_part {t : TE} {Q : Option Int → Hp → Prop} (q : t σ H (kPart Q)) : tPart t σ H Q := q
theorem w_kpart {i : Int} {Q : Option Int → Hp → Prop} (q : Q (some i) H) : kPart Q (.int i) H := ⟨i, rfl, q⟩
theorem w_ixS {z : Str} {i : Int} {c : Nat} (hl : z.length ≤ sizeLine) (h : atI z.cps.toList i = some c) (q : Q (.str (one c)) H) : rIxS (.str z) (.int i) H Q := ⟨z, i, c, rfl, rfl, hl, h, q⟩
theorem w_ixL {p : Addr} {xs : List V} {i : Int} {v : V} (h : H p = some (.lst xs)) (e : atI xs i = some v) (q : Q v H) : rIxL K (.ref p) (.int i) H Q := ⟨p, xs, i, v, rfl, rfl, SqL.of h, e, q⟩
theorem w_ixT {p : Addr} {xs : List V} {i : Int} {v : V} (h : H p = some (.tup xs)) (e : atI xs i = some v) (q : Q v H) : rIxT K (.ref p) (.int i) H Q := ⟨p, xs, i, v, rfl, rfl, SqT.of h, e, q⟩
/-! truth -/
def kB (Q : Bool → Hp → Prop) : VK := fun x H' => ∃ k, x = .bl k ∧ Q k H'
theorem w_test {t : TE} {Q : Bool → Hp → Prop} (q : t σ H (kB Q)) : tTest t σ H Q := q
theorem w_tB {t : TE} {Q : Bool → Hp → Prop} (q : t σ H (kB Q)) : tB t σ H Q := q
theorem w_kB {c : Bool} {Q : Bool → Hp → Prop} (q : Q c H) : kB Q (.bl c) H := ⟨c, rfl, q⟩
def kAnd (u : TT) (σ : L2.St) (Q : Bool → Hp → Prop) : Bool → Hp → Prop := fun c H1 => if c = true then u σ H1 Q else Q false H1
theorem w_and {t u : TT} {Q : Bool → Hp → Prop} (q : t σ H (kAnd u σ Q)) : tAnd t u σ H Q := q
theorem w_andT {u : TT} {Q : Bool → Hp → Prop} (q : u σ H Q) : kAnd u σ Q true H := iteT q
theorem w_andF {u : TT} {Q : Bool → Hp → Prop} (q : Q false H) : kAnd u σ Q false H := iteF q
theorem w_and2 {p : Prop} [Decidable p] {u : TT} {Q : Bool → Hp → Prop} (h1 : p → u σ H Q) (h2 : ¬ p → Q false H) : kAnd u σ Q (decide p) H :=
  ite2 (fun e => h1 (of_decide_eq_true e)) fun e => h2 fun z => e (decide_eq_true z)
theorem w_andN2 {p : Prop} [Decidable p] {u : TT} {Q : Bool → Hp → Prop} (h1 : ¬ p → u σ H Q) (h2 : p → Q false H) : kAnd u σ Q (!decide p) H := by
  by_cases h : p
  · rw [decide_eq_true h]; exact iteF (h2 h)
  · rw [decide_eq_false h]; exact iteT (h1 h)
theorem w_andB {b : Bool} {u : TT} {Q : Bool → Hp → Prop} (h1 : b = true → u σ H Q) (h2 : b = false → Q false H) : kAnd u σ Q b H := by
  cases b with
  | true => exact iteT (h1 rfl)
  | false => exact iteF (h2 rfl)
def kOr (u : TT) (σ : L2.St) (Q : Bool → Hp → Prop) : Bool → Hp → Prop := fun c H1 => if c = true then Q true H1 else u σ H1 Q
theorem w_or {t u : TT} {Q : Bool → Hp → Prop} (q : t σ H (kOr u σ Q)) : tOr t u σ H Q := q
theorem w_orT {u : TT} {Q : Bool → Hp → Prop} (q : Q true H) : kOr u σ Q true H := iteT q
theorem w_orF {u : TT} {Q : Bool → Hp → Prop} (q : u σ H Q) : kOr u σ Q false H := iteF q
theorem w_or2 {p : Prop} [Decidable p] {u : TT} {Q : Bool → Hp → Prop} (h1 : p → Q true H) (h2 : ¬ p → u σ H Q) : kOr u σ Q (decide p) H :=
  ite2 (fun e => h1 (of_decide_eq_true e)) fun e => h2 fun z => e (decide_eq_true z)
theorem w_orN2 {p : Prop} [Decidable p] {u : TT} {Q : Bool → Hp → Prop} (h1 : ¬ p → Q true H) (h2 : p → u σ H Q) : kOr u σ Q (!decide p) H := by
  by_cases h : p
  · rw [decide_eq_true h]; exact iteF (h2 h)
  · rw [decide_eq_false h]; exact iteT (h1 h)
theorem w_orB {b : Bool} {u : TT} {Q : Bool → Hp → Prop} (h1 : b = true → Q true H) (h2 : b = false → u σ H Q) : kOr u σ Q b H := by
  cases b with
  | true => exact iteT (h1 rfl)
  | false => exact iteF (h2 rfl)
def kNot (Q : Bool → Hp → Prop) : Bool → Hp → Prop := fun c H1 => Q (!c) H1
theorem w_not {t : TT} {Q : Bool → Hp → Prop} (q : t σ H (kNot Q)) : tNot t σ H Q := q
theorem w_kNot {c : Bool} {Q : Bool → Hp → Prop} (q : Q (!c) H) : kNot Q c H := q
theorem w_kNotT {Q : Bool → Hp → Prop} (q : Q false H) : kNot Q true H := q
theorem w_kNotF {Q : Bool → Hp → Prop} (q : Q true H) : kNot Q false H := q
theorem w_kNotN {p : Prop} [Decidable p] {Q : Bool → Hp → Prop} (q : Q (decide p) H) : kNot Q (!decide p) H := by
  show Q (!!decide p) H
  rw [Bool.not_not]
  exact q
/-! truth as values -/
def kAndV (tb : TE) (σ : L2.St) (Q : VK) : VK := fun x H1 => ∃ c, x = .bl c ∧ if c = true then tb σ H1 Q else Q (.bl false) H1
theorem w_andV {ta tb : TE} (q : ta σ H (kAndV tb σ Q)) : tAndV ta tb σ H Q := q
theorem w_andVT {tb : TE} (q : tb σ H Q) : kAndV tb σ Q (.bl true) H := ⟨true, rfl, iteT q⟩
theorem w_andVF {tb : TE} (q : Q (.bl false) H) : kAndV tb σ Q (.bl false) H := ⟨false, rfl, iteF q⟩
theorem w_andV2 {p : Prop} [Decidable p] {tb : TE} (h1 : p → tb σ H Q) (h2 : ¬ p → Q (.bl false) H) : kAndV tb σ Q (.bl (decide p)) H :=
  ⟨_, rfl, ite2 (fun e => h1 (of_decide_eq_true e)) fun e => h2 fun z => e (decide_eq_true z)⟩
theorem w_andVB {b : Bool} {tb : TE} (h1 : b = true → tb σ H Q) (h2 : b = false → Q (.bl false) H) : kAndV tb σ Q (.bl b) H := by
  cases b with
  | true => exact w_andVT (h1 rfl)
  | false => exact w_andVF (h2 rfl)
def kOrV (tb : TE) (σ : L2.St) (Q : VK) : VK := fun x H1 => ∃ c, x = .bl c ∧ if c = true then Q (.bl true) H1 else tb σ H1 Q
theorem w_orV {ta tb : TE} (q : ta σ H (kOrV tb σ Q)) : tOrV ta tb σ H Q := q
theorem w_orVB {b : Bool} {tb : TE} (h1 : b = true → Q (.bl true) H) (h2 : b = false → tb σ H Q) : kOrV tb σ Q (.bl b) H := by
  cases b with
  | true => exact ⟨true, rfl, iteT (h1 rfl)⟩
  | false => exact ⟨false, rfl, iteF (h2 rfl)⟩
def kNotV (Q : VK) : VK := fun x H1 => ∃ c, x = .bl c ∧ Q (.bl (!c)) H1
theorem w_notV {ta : TE} (q : ta σ H (kNotV Q)) : tNotV ta σ H Q := q
theorem w_kNotV {c : Bool} (q : Q (.bl (!c)) H) : kNotV Q (.bl c) H := ⟨c, rfl, q⟩
theorem w_kNotVF (q : Q (.bl true) H) : kNotV Q (.bl false) H := ⟨false, rfl, q⟩
theorem w_kNotVT (q : Q (.bl false) H) : kNotV Q (.bl true) H := ⟨true, rfl, q⟩
def kIfE (ta tb : TE) (σ : L2.St) (Q : VK) : Bool → Hp → Prop := fun c H1 => if c = true then ta σ H1 Q else tb σ H1 Q
theorem w_ifE {t : TT} {ta tb : TE} (q : t σ H (kIfE ta tb σ Q)) : tIf t ta tb σ H Q := q
theorem w_ifET {ta tb : TE} (q : ta σ H Q) : kIfE ta tb σ Q true H := iteT q
theorem w_ifEF {ta tb : TE} (q : tb σ H Q) : kIfE ta tb σ Q false H := iteF q
theorem w_ifE2 {p : Prop} [Decidable p] {ta tb : TE} (h1 : p → ta σ H Q) (h2 : ¬ p → tb σ H Q) : kIfE ta tb σ Q (decide p) H :=
  ite2 (fun e => h1 (of_decide_eq_true e)) fun e => h2 fun z => e (decide_eq_true z)
theorem w_ifEN2 {p : Prop} [Decidable p] {ta tb : TE} (h1 : ¬ p → ta σ H Q) (h2 : p → tb σ H Q) : kIfE ta tb σ Q (!decide p) H := by
  by_cases h : p
  · rw [decide_eq_true h]; exact iteF (h2 h)
  · rw [decide_eq_false h]; exact iteT (h1 h)
theorem w_ifEB {b : Bool} {ta tb : TE} (h1 : b = true → ta σ H Q) (h2 : b = false → tb σ H Q) : kIfE ta tb σ Q b H := by
  cases b with
  | true => exact iteT (h1 rfl)
  | false => exact iteF (h2 rfl)
def kChain (r' : R2) (tc : TE) (y : V) (σ : L2.St) (Q : VK) : VK := fun z H3 => ∃ k, z = .bl k ∧ (if k = true then tc σ H3 fun w' H4 => r' y w' H4 Q else Q (.bl false) H3)
theorem w_chain {r r' : R2} {ta tb tc : TE} (q : ta σ H fun x H1 => tb σ H1 fun y H2 => r x y H2 (kChain r' tc y σ Q)) : tChain r r' ta tb tc σ H Q := q
theorem w_chain2 {p : Prop} [Decidable p] {r' : R2} {tc : TE} {y : V} (h1 : p → tc σ H fun w' H4 => r' y w' H4 Q) (h2 : ¬ p → Q (.bl false) H) : kChain r' tc y σ Q (.bl (decide p)) H :=
  ⟨_, rfl, ite2 (fun e => h1 (of_decide_eq_true e)) fun e => h2 fun z => e (decide_eq_true z)⟩
/-! arguments, displays -/
theorem w_nil {Q : List V → Hp → Prop} (q : Q [] H) : tNil σ H Q := q
theorem w_cons {ta : TE} {tr : TA} {Q : List V → Hp → Prop} (q : ta σ H fun x H1 => tr σ H1 fun xs H2 => Q (x :: xs) H2) : tCons ta tr σ H Q := q
def kNewL (Q : VK) : List V → Hp → Prop := fun xs H1 => xs.length ≤ sizeLine ∧ ∀ p, H1 p = none → Q (.ref p) (upd H1 p (.lst xs))
def kNewT (Q : VK) : List V → Hp → Prop := fun xs H1 => xs.length ≤ sizeLine ∧ ∀ p, H1 p = none → Q (.ref p) (upd H1 p (.tup xs))
theorem w_lst {t : TA} (q : t σ H (kNewL Q)) : tLst t σ H Q := q
theorem w_tup {t : TA} (q : t σ H (kNewT Q)) : tTup t σ H Q := q
theorem w_newL {xs : List V} (hl : xs.length ≤ sizeLine) (k : ∀ p H1, H1 p = some (.lst xs) → Nw p H H1 → Q (.ref p) H1) : kNewL Q xs H := ⟨hl, fun _ n => k _ _ upd_same (.mk' n)⟩
theorem w_newT {xs : List V} (hl : xs.length ≤ sizeLine) (k : ∀ p H1, H1 p = some (.tup xs) → Nw p H H1 → Q (.ref p) H1) : kNewT Q xs H := ⟨hl, fun _ n => k _ _ upd_same (.mk' n)⟩
theorem w_slL {p : Addr} {xs : List V} {lo hi : Option Int} (h : H p = some (.lst xs)) (k : ∀ q H1, H1 q = some (.lst (cutV xs lo hi)) → Nw q H H1 → Q (.ref q) H1) : rSlL K (.ref p) lo hi H Q :=
  ⟨p, xs, rfl, SqL.of h, fun _ n => k _ _ upd_same (.mk' n)⟩
theorem w_cat {l b : Addr} {xs zs : List V} (h1 : H l = some (.lst xs)) (h2 : H b = some (.lst zs)) (hl : xs.length + zs.length ≤ sizeLine) (k : ∀ q H1, H1 q = some (.lst (xs ++ zs)) → Nw q H H1 → Q (.ref q) H1) : rCat (.ref l) (.ref b) H Q :=
  ⟨l, b, xs, zs, rfl, rfl, h1, h2, hl, fun _ n => k _ _ upd_same (.mk' n)⟩
/-! calls -/
theorem w_cb {r : List V → Hp → VK → Prop} {t : TA} (q : t σ H fun vs H1 => r vs H1 Q) : tCB r t σ H Q := q
theorem w_call {sp : Sp} {dvs : List V} {E : XK} {t : TA} (q : t σ H fun vs H1 => sp (vs ++ dvs) H1 Q E) : tCall sp dvs E t σ H Q := q
def kMeth (C : Addr) (m : Str) (sp : Sp) (dvs : List V) (E : XK) (t : TA) (σ : L2.St) (Q : VK) : VK := fun x H1 => ∃ a dx fs, x = .ref a ∧ H1 a = some (.ins C dx fs) ∧ fs.lookup m = none ∧ t σ H1 fun vs H2 => sp (x :: (vs ++ dvs)) H2 Q E
theorem w_meth {C : Addr} {m : Str} {sp : Sp} {dvs : List V} {E : XK} {ta : TE} {t : TA} (q : ta σ H (kMeth C m sp dvs E t σ Q)) : tMeth C m sp dvs E ta t σ H Q := q
theorem w_kMeth {C a dx : Addr} {fs : List (Str × V)} {m : Str} {sp : Sp} {dvs : List V} {E : XK} {t : TA} (h : H a = some (.ins C dx fs)) (hm : fs.lookup m = none) (q : t σ H fun vs H2 => sp (.ref a :: (vs ++ dvs)) H2 Q E) : kMeth C m sp dvs E t σ Q (.ref a) H := ⟨a, dx, fs, rfl, h, hm, q⟩
def kMake (C : Addr) (sp : Sp) (dvs : List V) (E : XK) (Q : VK) : List V → Hp → Prop := fun vs H1 => ∀ x dx, H1 x = none → H1 dx = none → dx ≠ x →
  sp (.ref x :: (vs ++ dvs)) (upd (upd H1 dx (.own x)) x (.ins C dx [])) (fun v H2 => v = .non ∧ Q (.ref x) H2) E
theorem w_make {C : Addr} {sp : Sp} {dvs : List V} {E : XK} {t : TA} (q : t σ H (kMake C sp dvs E Q)) : tMake C sp dvs E t σ H Q := q
def kFld (K : PySem.W.Frag) (f : Str) (Q : VK) : VK := fun x H1 => ∃ a C dx fs v, x = .ref a ∧ H1 a = some (.ins C dx fs) ∧ Cls K C ∧ NoAttr K C f ∧ fs.lookup f = some v ∧ Q v H1
theorem w_fld {ta : TE} {f : Str} (q : ta σ H (kFld K f Q)) : tFld K ta f σ H Q := q
theorem w_kFld {a C dx : Addr} {fs : List (Str × V)} {f : Str} {v : V} (h : H a = some (.ins C dx fs)) (c : Cls K C) (n : NoAttr K C f) (e : fs.lookup f = some v) (q : Q v H) : kFld K f Q (.ref a) H := ⟨a, C, dx, fs, v, rfl, h, c, n, e, q⟩
def rLenSeq (K : PySem.W.Frag) : List V → Hp → VK → Prop := fun xs H Q => ∃ p ys, xs = [.ref p] ∧ (SqL K H p ys ∨ SqT K H p ys) ∧ Q (.int ys.length) H
theorem call_lenQ {X : Cx} : CallR X (.builtin "len") (rLenSeq X.K) := call_len_seq
theorem w_lenL {p : Addr} {ys : List V} (h : H p = some (.lst ys)) (q : Q (.int ys.length) H) : rLenSeq K [.ref p] H Q := ⟨p, ys, rfl, .inl (SqL.of h), q⟩
theorem w_lenT {p : Addr} {ys : List V} (h : H p = some (.tup ys)) (q : Q (.int ys.length) H) : rLenSeq K [.ref p] H Q := ⟨p, ys, rfl, .inr (SqT.of h), q⟩
def rLenStr : List V → Hp → VK → Prop := fun xs H Q => ∃ z, xs = [.str z] ∧ z.length ≤ sizeLine ∧ Q (.int z.length) H
theorem call_lenS {X : Cx} : CallR X (.builtin "len") rLenStr := call_len_str
theorem w_lenS {z : Str} (h : z.length ≤ sizeLine) (q : Q (.int z.length) H) : rLenStr [.str z] H Q := ⟨z, rfl, h, q⟩
def rLenDct : List V → Hp → VK → Prop := fun xs H Q => ∃ a kvs, xs = [V.ref a] ∧ H a = some (.dK kvs) ∧ Q (.int kvs.length) H
theorem call_lenDc {X : Cx} : CallR X (.builtin "len") rLenDct := call_lenD
theorem w_lenD {p : Addr} {kvs : List (Key × V)} (h : H p = some (.dK kvs)) (q : Q (.int kvs.length) H) : rLenDct [.ref p] H Q := ⟨p, kvs, rfl, h, q⟩
def rMin2 : List V → Hp → VK → Prop := fun xs H Q => ∃ i j, xs = [.int i, .int j] ∧ Q (.int (if j < i then j else i)) H
theorem call_min2N {X : Cx} (hc : X.calm = true) : CallR X (.builtin "min") rMin2 := call_min2 hc
theorem w_min2 {i j : Int} (q : Q (.int (if j < i then j else i)) H) : rMin2 [.int i, .int j] H Q := ⟨i, j, rfl, q⟩
def rMax2 : List V → Hp → VK → Prop := fun xs H Q => ∃ i j, xs = [.int i, .int j] ∧ Q (.int (if j > i then j else i)) H
theorem call_max2N {X : Cx} (hc : X.calm = true) : CallR X (.builtin "max") rMax2 := call_max2 hc
theorem w_max2 {i j : Int} (q : Q (.int (if j > i then j else i)) H) : rMax2 [.int i, .int j] H Q := ⟨i, j, rfl, q⟩
def rListOf (K : PySem.W.Frag) : List V → Hp → VK → Prop := fun xs H Q => ∃ p ys, xs = [.ref p] ∧ (SqL K H p ys ∨ SqT K H p ys) ∧ ∀ l, H l = none → Q (.ref l) (upd H l (.lst ys))
theorem call_listO {X : Cx} : CallR X (.type "list") (rListOf X.K) := call_list_of
theorem w_listL {p : Addr} {ys : List V} (h : H p = some (.lst ys)) (k : ∀ l H1, H1 l = some (.lst ys) → Nw l H H1 → Q (.ref l) H1) : rListOf K [.ref p] H Q := ⟨p, ys, rfl, .inl (SqL.of h), fun _ n => k _ _ upd_same (.mk' n)⟩
theorem w_listT {p : Addr} {ys : List V} (h : H p = some (.tup ys)) (k : ∀ l H1, H1 l = some (.lst ys) → Nw l H H1 → Q (.ref l) H1) : rListOf K [.ref p] H Q := ⟨p, ys, rfl, .inr (SqT.of h), fun _ n => k _ _ upd_same (.mk' n)⟩
def rTupOf (K : PySem.W.Frag) : List V → Hp → VK → Prop := fun xs H Q => ∃ p ys, xs = [.ref p] ∧ ((SqL K H p ys ∧ ∀ l, H l = none → Q (.ref l) (upd H l (.tup ys))) ∨ (SqT K H p ys ∧ Q (.ref p) H))
theorem call_tupO {X : Cx} : CallR X (.type "tuple") (rTupOf X.K) := call_tuple_of
theorem w_tupL {p : Addr} {ys : List V} (h : H p = some (.lst ys)) (k : ∀ l H1, H1 l = some (.tup ys) → Nw l H H1 → Q (.ref l) H1) : rTupOf K [.ref p] H Q := ⟨p, ys, rfl, .inl ⟨SqL.of h, fun _ n => k _ _ upd_same (.mk' n)⟩⟩
theorem w_all {p : Addr} {bs : List Bool} (h : H p = some (.lst (bs.map V.bl))) (q : Q (.bl (bs.all id)) H) : rAll K [.ref p] H Q := ⟨p, bs, rfl, SqL.of h, q⟩
theorem w_any {p : Addr} {bs : List Bool} (h : H p = some (.lst (bs.map V.bl))) (q : Q (.bl (bs.any id)) H) : rAny K [.ref p] H Q := ⟨p, bs, rfl, SqL.of h, q⟩
theorem w_isi_int_int {i : Int} (q : Q (.bl true) H) : rIsi K [(.int i), .ty "int"] H Q := ⟨_, _, _, _, true, rfl, .ty "int", .base (.int i), kit_ty (by decide +kernel), q⟩
theorem w_isi_int_bool {i : Int} (q : Q (.bl false) H) : rIsi K [(.int i), .ty "bool"] H Q := ⟨_, _, _, _, false, rfl, .ty "bool", .base (.int i), kit_ty (by decide +kernel), q⟩
theorem w_isi_int_str {i : Int} (q : Q (.bl false) H) : rIsi K [(.int i), .ty "str"] H Q := ⟨_, _, _, _, false, rfl, .ty "str", .base (.int i), kit_ty (by decide +kernel), q⟩
theorem w_isi_str_int {i : Str} (q : Q (.bl false) H) : rIsi K [(.str i), .ty "int"] H Q := ⟨_, _, _, _, false, rfl, .ty "int", .base (.str i), kit_ty (by decide +kernel), q⟩
theorem w_isi_str_bool {i : Str} (q : Q (.bl false) H) : rIsi K [(.str i), .ty "bool"] H Q := ⟨_, _, _, _, false, rfl, .ty "bool", .base (.str i), kit_ty (by decide +kernel), q⟩
theorem w_isi_str_str {i : Str} (q : Q (.bl true) H) : rIsi K [(.str i), .ty "str"] H Q := ⟨_, _, _, _, true, rfl, .ty "str", .base (.str i), kit_ty (by decide +kernel), q⟩
theorem w_isi_bool_int {i : Bool} (q : Q (.bl true) H) : rIsi K [(.bl i), .ty "int"] H Q := ⟨_, _, _, _, true, rfl, .ty "int", .base (.bl i), kit_ty (by decide +kernel), q⟩
theorem w_isi_bool_bool {i : Bool} (q : Q (.bl true) H) : rIsi K [(.bl i), .ty "bool"] H Q := ⟨_, _, _, _, true, rfl, .ty "bool", .base (.bl i), kit_ty (by decide +kernel), q⟩
theorem w_isi_bool_str {i : Bool} (q : Q (.bl false) H) : rIsi K [(.bl i), .ty "str"] H Q := ⟨_, _, _, _, false, rfl, .ty "str", .base (.bl i), kit_ty (by decide +kernel), q⟩
theorem w_isi_NoneType_int  (q : Q (.bl false) H) : rIsi K [.non, .ty "int"] H Q := ⟨_, _, _, _, false, rfl, .ty "int", .base .non, kit_ty (by decide +kernel), q⟩
theorem w_isi_NoneType_str  (q : Q (.bl false) H) : rIsi K [.non, .ty "str"] H Q := ⟨_, _, _, _, false, rfl, .ty "str", .base .non, kit_ty (by decide +kernel), q⟩
theorem w_isi_NoneType_bool  (q : Q (.bl false) H) : rIsi K [.non, .ty "bool"] H Q := ⟨_, _, _, _, false, rfl, .ty "bool", .base .non, kit_ty (by decide +kernel), q⟩
/-! methods of lists, texts -/
def kBM (K : PySem.W.Frag) (T : String) (r : V → List V → Hp → VK → Prop) (t : TA) (σ : L2.St) (Q : VK) : VK := fun x H1 => tyV K T x H1 ∧ t σ H1 fun xs H2 => r x xs H2 Q
theorem w_bm {T : String} {r : V → List V → Hp → VK → Prop} {to : TE} {t : TA} (q : to σ H (kBM K T r t σ Q)) : tBM K T r to t σ H Q := q
theorem w_bm0 {T : String} {r : V → List V → Hp → VK → Prop} {to : TE} (q : to σ H (kBM K T r tNil σ Q)) : tBM0 K T r to σ H Q := q
theorem w_kbmL {p : Addr} {xs : List V} {r : V → List V → Hp → VK → Prop} {t : TA} (h : H p = some (.lst xs)) (q : t σ H fun xs H2 => r (.ref p) xs H2 Q) : kBM K "list" r t σ Q (.ref p) H := ⟨.inl ⟨rfl, _, SqL.of h⟩, q⟩
theorem w_append {p : Addr} {xs : List V} {v : V} (h : H p = some (.lst xs)) (hl : xs.length < sizeLine) (k : ∀ H1, H1 p = some (.lst (xs ++ [v])) → Of p H H1 → Q .non H1) : rAppend (.ref p) [v] H Q := ⟨p, xs, v, rfl, rfl, h, hl, k _ upd_same .mk'⟩
theorem perm_erase {α : Type} : ∀ (l : List α) (i : Nat) (h : i < l.length), l.Perm (l[i] :: l.eraseIdx i)
  | x :: r, 0, _ => by exact .refl _
  | x :: r, i + 1, h => by
    have ih := perm_erase r i (by simpa using h)
    exact (ih.cons x).trans (.swap _ _ _)
theorem w_popV {p : Addr} {xs : List V} {i : Int} (h : H p = some (.lst xs)) (h0 : 0 ≤ i) (h1 : i < xs.length) (hz : xs.length ≤ 100000) (k : ∀ x ys H1, xs.Perm (x :: ys) → H1 p = some (.lst ys) → Of p H H1 → Q x H1) : rPopAt (.ref p) [.int i] H Q := by
  have hi : i.toNat < xs.length := by omega
  refine ⟨p, xs, i, i.toNat, xs[i.toNat], rfl, rfl, h, by omega, by omega, ?_, List.getElem?_eq_getElem hi, k _ (xs.eraseIdx i.toNat) _ (perm_erase xs _ hi) upd_same .mk'⟩
  unfold seqIndex?
  simp only [if_neg (show ¬ i < 0 by omega), Bool.and_eq_true, decide_eq_true_eq]
  rw [if_pos ⟨h0, h1⟩]
theorem erase_map {α β : Type} (f : α → β) : ∀ (l : List α) (i : Nat), (l.map f).eraseIdx i = (l.eraseIdx i).map f
  | [], _ => rfl
  | x :: r, 0 => rfl
  | x :: r, i + 1 => by
    show f x :: (r.map f).eraseIdx i = f x :: (r.eraseIdx i).map f
    rw [erase_map f r i]
theorem w_popI {p : Addr} {ns : List Int} {i : Int} (h : H p = some (.lst (ns.map V.int))) (h0 : 0 ≤ i) (h1 : i < ns.length) (hz : ns.length ≤ 100000) (k : ∀ x ms H1, ns.Perm (x :: ms) → H1 p = some (.lst (ms.map V.int)) → Of p H H1 → Q (.int x) H1) : rPopAt (.ref p) [.int i] H Q := by
  have hi : i.toNat < ns.length := by omega
  have e : (ns.map V.int)[i.toNat]? = some (.int ns[i.toNat]) := by rw [List.getElem?_map, List.getElem?_eq_getElem hi]; rfl
  refine ⟨p, _, i, i.toNat, .int ns[i.toNat], rfl, rfl, h, by omega, by omega, ?_, e, k _ (ns.eraseIdx i.toNat) _ (perm_erase ns _ hi) ?_ .mk'⟩
  · unfold seqIndex?
    simp only [if_neg (show ¬ i < 0 by omega), Bool.and_eq_true, decide_eq_true_eq, List.length_map]
    rw [if_pos ⟨h0, h1⟩]
  · rw [upd_same, erase_map]
theorem w_clear {p : Addr} {xs : List V} (h : H p = some (.lst xs)) (k : ∀ H1, H1 p = some (.lst []) → Of p H H1 → Q .non H1) : rClear (.ref p) [] H Q := ⟨p, xs, rfl, rfl, h, k _ upd_same .mk'⟩
def kM0 (r : V → List V → Hp → VK → Prop) (Q : VK) : VK := fun x H1 => (∃ a, x = .str a) ∧ r x [] H1 Q
theorem w_m0 {r : V → List V → Hp → VK → Prop} {to : TE} (q : to σ H (kM0 r Q)) : tM0 r to σ H Q := q
theorem w_kM0 {r : V → List V → Hp → VK → Prop} {x : Str} (q : r (.str x) [] H Q) : kM0 r Q (.str x) H := ⟨⟨x, rfl⟩, q⟩
def kM1 (r : V → List V → Hp → VK → Prop) (te : TE) (σ : L2.St) (Q : VK) : VK := fun x H1 => (∃ a, x = .str a) ∧ te σ H1 fun y H2 => r x [y] H2 Q
theorem w_m1 {r : V → List V → Hp → VK → Prop} {to te : TE} (q : to σ H (kM1 r te σ Q)) : tM1 r to te σ H Q := q
theorem w_kM1 {r : V → List V → Hp → VK → Prop} {te : TE} {x : Str} (q : te σ H fun y H2 => r (.str x) [y] H2 Q) : kM1 r te σ Q (.str x) H := ⟨⟨x, rfl⟩, q⟩
/-! methods of texts, by name -/
def rUpper : V → List V → Hp → VK → Prop := fun x xs H Q => ∃ a, x = .str a ∧ xs = [] ∧ a.length ≤ 5592405 ∧ Q (.str (Txt.upper a)) H
theorem mt_upN {X : Cx} : MtR X "str.upper" rUpper := mt_upper
theorem w_upper {a : Str} (h : a.length ≤ 5592405) (q : Q (.str (Txt.upper a)) H) : rUpper (.str a) [] H Q := ⟨a, rfl, rfl, h, q⟩
theorem w_up1 {c : Nat} (h : 97 ≤ c ∧ c ≤ 104) (q : Q (.str (one (c - 32))) H) : rUpper (.str (one c)) [] H Q := ⟨_, rfl, rfl, by rw [len_one]; decide, by rw [upper_one h]; exact q⟩
def rLower : V → List V → Hp → VK → Prop := fun x xs H Q => ∃ a, x = .str a ∧ xs = [] ∧ a.length ≤ 5592405 ∧ Q (.str (Txt.lower a)) H
theorem mt_loN {X : Cx} : MtR X "str.lower" rLower := mt_lower
theorem w_lower {a : Str} (h : a.length ≤ 5592405) (q : Q (.str (Txt.lower a)) H) : rLower (.str a) [] H Q := ⟨a, rfl, rfl, h, q⟩
theorem w_lo1 {c : Nat} (h : 65 ≤ c ∧ c ≤ 72) (q : Q (.str (one (c + 32))) H) : rLower (.str (one c)) [] H Q := ⟨_, rfl, rfl, by rw [len_one]; decide, by rw [lower_one h]; exact q⟩
def rSwap : V → List V → Hp → VK → Prop := fun x xs H Q => ∃ a, x = .str a ∧ xs = [] ∧ a.length ≤ 5592405 ∧ Q (.str (Txt.swapcase a)) H
theorem pe_swapN {X : Cx} {o : Expr} {to : TE} {apos pos : Pos} (ho : PE X o to) (hbase : attributeBase o "swapcase" X.env (eval o X.env) = eval o X.env := by rfl) (hline : (apos.endLine == pos.line) = true := by rfl) : PE X (.Call (.Attribute o "swapcase" apos) [] [] pos) (tM0 rSwap to) := pe_swapcase ho hbase hline
theorem w_swap {a : Str} (hw : Wd a) (h : a.length ≤ 5592405) (q : Q (.str (flipS a)) H) : rSwap (.str a) [] H Q := ⟨a, rfl, rfl, h, by rw [swap_wd hw]; exact q⟩
theorem w_swap1 {c : Nat} (hc : sgn c = true) (q : Q (.str (one (flipC c))) H) : rSwap (.str (one c)) [] H Q := w_swap (wd_one hc) (by rw [len_one]; decide) q
theorem w_revS {te : TE} (q : te σ H fun x H1 => ∃ z, x = .str z ∧ z.length ≤ sizeLine ∧ Q (.str (revS z)) H1) : tRevS te σ H Q := q
def rJoin (K : PySem.W.Frag) : V → List V → Hp → VK → Prop := fun x xs H Q => ∃ a p, ∃ ys : List Str, x = .str a ∧ xs = [.ref p] ∧ (SqL K H p (ys.map V.str) ∨ SqT K H p (ys.map V.str)) ∧ (ys.map (·.length)).sum + ys.length * a.length ≤ 16777216 ∧ Q (.str (Txt.join a ys)) H
theorem mt_joinN {X : Cx} : MtR X "str.join" (rJoin X.K) := mt_join
theorem w_join {a : Str} {p : Addr} {ys : List Str} (h : H p = some (.lst (ys.map V.str))) (hl : (ys.map (·.length)).sum + ys.length * a.length ≤ 16777216) (q : Q (.str (Txt.join a ys)) H) : rJoin K (.str a) [.ref p] H Q := ⟨a, p, ys, rfl, rfl, .inl (SqL.of h), hl, q⟩
def rStarts : V → List V → Hp → VK → Prop := fun x xs H Q => ∃ a b, x = .str a ∧ xs = [.str b] ∧ Q (.bl (Txt.startswith a b)) H
theorem mt_startN {X : Cx} : MtR X "str.startswith" rStarts := mt_startswith
theorem w_starts {a b : Str} (q : Q (.bl (Txt.startswith a b)) H) : rStarts (.str a) [.str b] H Q := ⟨a, b, rfl, rfl, q⟩
def rEnds : V → List V → Hp → VK → Prop := fun x xs H Q => ∃ a b, x = .str a ∧ xs = [.str b] ∧ Q (.bl (Txt.endswith a b)) H
theorem mt_endN {X : Cx} : MtR X "str.endswith" rEnds := mt_endswith
theorem w_ends {a b : Str} (q : Q (.bl (Txt.endswith a b)) H) : rEnds (.str a) [.str b] H Q := ⟨a, b, rfl, rfl, q⟩
def rMulStr : R2 := fun x y H Q => ∃ (a : Str) (n : Int), x = .str a ∧ y = .int n ∧ 0 ≤ n ∧ n ≤ 1000 ∧ a.length ≤ 1000 ∧ Q (.str (Txt.mul a n)) H
theorem op_mulS {X : Cx} : OpR X (binaryOp .Mult) rMulStr := op_mul_str
theorem w_mulS {a : Str} {n : Int} (h0 : 0 ≤ n) (h1 : n ≤ 1000) (h2 : a.length ≤ 1000) (q : Q (.str (Txt.mul a n)) H) : rMulStr (.str a) (.int n) H Q := ⟨a, n, rfl, rfl, h0, h1, h2, q⟩
/-! dicts -/
def kDGet (x y : V) (Q : VK) : Hp → Prop := fun H2 => ∃ a v, x = .ref a ∧ DGet H2 a y (some v) ∧ Q v H2
theorem w_dget {td ty : TE} (q : td σ H fun x H1 => ty σ H1 fun y H2 => kDGet x y Q H2) : tDGet td ty σ H Q := q
theorem w_kDGetI {a : Addr} {kvs : List (Key × V)} {i : Int} {v : V} (h : H a = some (.dK kvs)) (e : valV kvs (Sum.inl i) = some v) (q : Q v H) : kDGet (.ref a) (.int i) Q H := ⟨a, v, rfl, by rw [← e]; exact DGet.k (k := Sum.inl i) h, q⟩
theorem w_kDGetS {a : Addr} {kvs : List (Key × V)} {i : Str} {v : V} (h : H a = some (.dK kvs)) (e : valV kvs (Sum.inr i) = some v) (q : Q v H) : kDGet (.ref a) (.str i) Q H := ⟨a, v, rfl, by rw [← e]; exact DGet.k (k := Sum.inr i) h, q⟩
def kDIn (y x : V) (Q : VK) : Hp → Prop := fun H2 => ∃ a o, x = .ref a ∧ DGet H2 a y o ∧ Q (.bl o.isSome) H2
theorem w_din {ty td : TE} (q : ty σ H fun y H1 => td σ H1 fun x H2 => kDIn y x Q H2) : tDIn ty td σ H Q := q
theorem w_kDInI {a : Addr} {kvs : List (Key × V)} {i : Int} (h : H a = some (.dK kvs)) (q : Q (.bl (valV kvs (Sum.inl i)).isSome) H) : kDIn (.int i) (.ref a) Q H := ⟨a, _, rfl, DGet.k (k := Sum.inl i) h, q⟩
theorem w_kDInS {a : Addr} {kvs : List (Key × V)} {i : Str} (h : H a = some (.dK kvs)) (q : Q (.bl (valV kvs (Sum.inr i)).isSome) H) : kDIn (.str i) (.ref a) Q H := ⟨a, _, rfl, DGet.k (k := Sum.inr i) h, q⟩
def kDNotIn (y x : V) (Q : VK) : Hp → Prop := fun H2 => ∃ a o, x = .ref a ∧ DGet H2 a y o ∧ Q (.bl (!o.isSome)) H2
theorem w_dnotin {ty td : TE} (q : ty σ H fun y H1 => td σ H1 fun x H2 => kDNotIn y x Q H2) : tDNotIn ty td σ H Q := q
theorem w_kDNotInI {a : Addr} {kvs : List (Key × V)} {i : Int} (h : H a = some (.dK kvs)) (q : Q (.bl (!(valV kvs (Sum.inl i)).isSome)) H) : kDNotIn (.int i) (.ref a) Q H := ⟨a, _, rfl, DGet.k (k := Sum.inl i) h, q⟩
theorem w_kDNotInS {a : Addr} {kvs : List (Key × V)} {i : Str} (h : H a = some (.dK kvs)) (q : Q (.bl (!(valV kvs (Sum.inr i)).isSome)) H) : kDNotIn (.str i) (.ref a) Q H := ⟨a, _, rfl, DGet.k (k := Sum.inr i) h, q⟩
def kDGet1 (ty : TE) (σ : L2.St) (Q : VK) : VK := fun x H1 => ∃ a, x = .ref a ∧ IsD H1 a ∧ ty σ H1 fun y H2 => ∃ o, DGet H2 a y o ∧ Q (o.getD .non) H2
def kDGet1b (a : Addr) (Q : VK) : VK := fun y H2 => ∃ o, DGet H2 a y o ∧ Q (o.getD .non) H2
theorem w_dget1 {td ty : TE} (q : td σ H (kDGet1 ty σ Q)) : tDGet1 td ty σ H Q := q
theorem w_kDGet1 {a : Addr} {kvs : List (Key × V)} {ty : TE} (h : H a = some (.dK kvs)) (q : ty σ H (kDGet1b a Q)) : kDGet1 ty σ Q (.ref a) H := ⟨a, rfl, .inl ⟨kvs, .of h⟩, q⟩
theorem w_kDGet1I {a : Addr} {kvs : List (Key × V)} {i : Int} (h : H a = some (.dK kvs)) (q : Q ((valV kvs (Sum.inl i)).getD .non) H) : kDGet1b a Q (.int i) H := ⟨_, DGet.k (k := Sum.inl i) h, q⟩
theorem w_kDGet1S {a : Addr} {kvs : List (Key × V)} {i : Str} (h : H a = some (.dK kvs)) (q : Q ((valV kvs (Sum.inr i)).getD .non) H) : kDGet1b a Q (.str i) H := ⟨_, DGet.k (k := Sum.inr i) h, q⟩
theorem w_dnewK (k : ∀ p H1, H1 p = some (.dK []) → Nw p H H1 → Q (.ref p) H1) : tDNewK σ H Q := fun _ n => k _ _ upd_same (.mk' n)
def kDPut (n : L2.St → Hp → Prop) (σ : L2.St) (x y v : V) : Hp → Prop := fun H3 => ∃ a H4, x = .ref a ∧ DPut H3 a y v H4 ∧ n σ H4
theorem w_sdput {td ty tv : TE} {n : L2.St → Hp → Prop} {rt : VK} {bk ct : L2.St → Hp → Prop} (q : tv σ H fun v H1 => td σ H1 fun x H2 => ty σ H2 fun y H3 => kDPut n σ x y v H3) : sDPut td ty tv ⟨n, rt, bk, ct⟩ σ H := q
theorem w_kDPutI {a : Addr} {kvs : List (Key × V)} {i : Int} {v : V} {n : L2.St → Hp → Prop} (h : H a = some (.dK kvs)) (hl : kvs.length < sizeLine) (k : ∀ H1, H1 a = some (.dK (putK kvs (Sum.inl i) v)) → Of a H H1 → n σ H1) : kDPut n σ (.ref a) (.int i) v H := ⟨a, _, rfl, DPut.k (k := Sum.inl i) h hl, k _ upd_same .mk'⟩
theorem w_kDPutS {a : Addr} {kvs : List (Key × V)} {i : Str} {v : V} {n : L2.St → Hp → Prop} (h : H a = some (.dK kvs)) (hl : kvs.length < sizeLine) (k : ∀ H1, H1 a = some (.dK (putK kvs (Sum.inr i) v)) → Of a H H1 → n σ H1) : kDPut n σ (.ref a) (.str i) v H := ⟨a, _, rfl, DPut.k (k := Sum.inr i) h hl, k _ upd_same .mk'⟩
/-! a dict made by a comprehension -/
def kDc (g : TG) (tt : TT) (tk tv : TE) (vs : List Nat) (σ : L2.St) (Q : VK) : It → Hp → Prop := fun J H1 => ∀ D, H1 D = none → ∃ W : Nat → Nat → Hp → Prop, (∃ m, W 0 m (upd H1 D (.dK []))) ∧ ∀ i m H, W i m H →
  (J.stop i H ∧ Q (.ref D) H) ∨ (J.go i H ∧ ∃ Nx : Hp → Prop, (∀ H', Nx H' → ∃ m', m' < m ∧ W (i + 1) m' H') ∧ ∀ x H', J.yld i H x H' → g x (wipe σ vs) H' fun σ2 H2 => wipe σ2 vs = wipe σ vs ∧ tt σ2 H2 fun b H3 =>
    if b = true then tk σ2 H3 fun y H4 => tv σ2 H4 fun z H5 => ∃ kvs k, y = kV k ∧ H5 D = some (.dK kvs) ∧ kvs.length < sizeLine ∧ Nx (upd H5 D (.dK (putK kvs k z))) else Nx H3)
theorem w_dc {wi : TI} {g : TG} {tt : TT} {tk tv : TE} {vs : List Nat} (q : wi σ H (kDc g tt tk tv vs σ Q)) : tDc wi g tt tk tv vs σ H Q := q
def kItD (D : Addr) (N : Hp → Prop) (y z : V) : Hp → Prop := fun H5 => ∃ kvs k, y = kV k ∧ H5 D = some (.dK kvs) ∧ kvs.length < sizeLine ∧ N (upd H5 D (.dK (putK kvs k z)))
theorem w_kItDS {p : Addr} {N : Hp → Prop} {kvs : List (Key × V)} {y : Str} {z : V} (h : H p = some (.dK kvs)) (hl : kvs.length < sizeLine) (k : ∀ H5, H5 p = some (.dK (putK kvs (Sum.inr y) z)) → Of p H H5 → N H5) : kItD p N (.str y) z H := ⟨kvs, Sum.inr y, rfl, h, hl, k _ upd_same .mk'⟩
theorem w_kItDI {p : Addr} {N : Hp → Prop} {kvs : List (Key × V)} {y : Int} {z : V} (h : H p = some (.dK kvs)) (hl : kvs.length < sizeLine) (k : ∀ H5, H5 p = some (.dK (putK kvs (Sum.inl y) z)) → Of p H H5 → N H5) : kItD p N (.int y) z H := ⟨kvs, Sum.inl y, rfl, h, hl, k _ upd_same .mk'⟩
def kTstD (tk tv : TE) (σ : L2.St) (D : Addr) (N : Hp → Prop) : Bool → Hp → Prop := fun b H3 => if b = true then tk σ H3 fun y H4 => tv σ H4 fun z H5 => kItD D N y z H5 else N H3
theorem w_tstDT {tk tv : TE} {p : Addr} {N : Hp → Prop} (q : tk σ H fun y H4 => tv σ H4 fun z H5 => kItD p N y z H5) : kTstD tk tv σ p N true H := iteT q
theorem w_tstDB {b : Bool} {tk tv : TE} {p : Addr} {N : Hp → Prop} (h1 : b = true → tk σ H fun y H4 => tv σ H4 fun z H5 => kItD p N y z H5) (h2 : b = false → N H) : kTstD tk tv σ p N b H := by
  cases b with
  | true => exact iteT (h1 rfl)
  | false => exact iteF (h2 rfl)
def kEachD (tt : TT) (tk tv : TE) (vs : List Nat) (σ : L2.St) (D : Addr) (N : Hp → Prop) : L2.St → Hp → Prop := fun σ2 H2 => wipe σ2 vs = wipe σ vs ∧ tt σ2 H2 (kTstD tk tv σ2 D N)
theorem w_eachD {tt : TT} {tk tv : TE} {vs : List Nat} {σ σ2 : L2.St} {p : Addr} {N : Hp → Prop} (e : wipe σ2 vs = wipe σ vs) (q : tt σ2 H (kTstD tk tv σ2 p N)) : kEachD tt tk tv vs σ p N σ2 H := ⟨e, q⟩
theorem w_dcG {J : It} {n : Nat} {g : TG} {tt : TT} {tk tv : TE} {vs : List Nat} (Pv : Addr → Nat → Hp → Prop) (h0 : ∀ p H1, H1 p = some (.dK []) → Nw p H H1 → Pv p 0 H1)
    (hgo : ∀ p i H, i < n → Pv p i H → J.go i H) (hst : ∀ p H, Pv p n H → J.stop n H)
    (hs : ∀ p i x H H', i < n → Pv p i H → J.yld i H x H' → g x (wipe σ vs) H' (kEachD tt tk tv vs σ p (Pv p (i + 1)))) (hd : ∀ p H, Pv p n H → Q (.ref p) H) : kDc g tt tk tv vs σ Q J H := fun p np => by
  refine ⟨fun i m H => m = n - i ∧ i ≤ n ∧ Pv p i H, ⟨n, rfl, Nat.zero_le _, h0 p _ upd_same (.mk' np)⟩, ?_⟩
  rintro i m H ⟨rfl, hi, h⟩
  by_cases hlt : i < n
  · exact .inr ⟨hgo p i H hlt h, Pv p (i + 1), fun H' p' => ⟨n - (i + 1), by omega, rfl, hlt, p'⟩, fun x H' y => hs p i x H H' hlt h y⟩
  · have e : i = n := by omega
    subst e
    exact .inl ⟨hst p H h, hd p H h⟩
theorem w_dcS {x : Str} {g : TG} {tt : TT} {tk tv : TE} {vs : List Nat} (Pv : Addr → Nat → Hp → Prop) (h0 : ∀ p H1, H1 p = some (.dK []) → Nw p H H1 → Pv p 0 H1)
    (hs : ∀ p i c H, (tl x)[i]? = some c → Pv p i H → g (.str (one c)) (wipe σ vs) H (kEachD tt tk tv vs σ p (Pv p (i + 1)))) (hd : ∀ p H, Pv p (tl x).length H → Q (.ref p) H) : kDc g tt tk tv vs σ Q (Its x) H := by
  have hz : x.cps.size = (tl x).length := len_tl x
  refine w_dcG (n := x.cps.size) Pv h0 (fun p i H hi h => hi) (fun p H h => Nat.le_refl _) ?_ (fun p H h => hd p H (by rw [← hz]; exact h))
  rintro p i v H H' hi h ⟨rfl, c, hc, rfl⟩
  exact hs p i c H' (getElem?_of_cps hc) h
/-! list(range(n)) -/
def kRg1 (Q : Int → Int → Hp → Prop) : VK := fun x H1 => ∃ n, x = .int n ∧ Q 0 n H1
theorem w_rg1 {ta : TE} {Q : Int → Int → Hp → Prop} (q : ta σ H (kRg1 Q)) : tRg1 ta σ H Q := q
theorem w_kRg1 {n : Int} {Q : Int → Int → Hp → Prop} (q : Q 0 n H) : kRg1 Q (.int n) H := ⟨n, rfl, q⟩
def kRgL (Q : VK) (a b : Int) : Hp → Prop := fun H1 => RgOk a b ∧ ∀ q, H1 q = none → Q (.ref q) (upd H1 q (.lst (rgV a b)))
theorem w_lstRg {te : L2.St → Hp → (Int → Int → Hp → Prop) → Prop} (q : te σ H fun a b H1 => kRgL Q a b H1) : tLstRg te σ H Q := q
theorem w_kRgL {a b : Int} (h : RgOk a b) (k : ∀ p H1, H1 p = some (.lst (rgV a b)) → Nw p H H1 → Q (.ref p) H1) : kRgL Q a b H := ⟨h, fun _ n => k _ _ upd_same (.mk' n)⟩
/-! statements -/
theorem w_seq {t u : TS} {n : L2.St → Hp → Prop} {rt : VK} {bk ct : L2.St → Hp → Prop} (q : t ⟨u ⟨n, rt, bk, ct⟩, rt, bk, ct⟩ σ H) : tSeq t u ⟨n, rt, bk, ct⟩ σ H := q
/-- a statement, and what holds behind it -/
theorem w_seqJ {t u : TS} {n : L2.St → Hp → Prop} {rt : VK} {bk ct : L2.St → Hp → Prop} (J : L2.St → Hp → Prop) (q : ∀ N : L2.St → Hp → Prop, (∀ σ' H', J σ' H' → N σ' H') → t ⟨N, rt, bk, ct⟩ σ H) (hr : ∀ σ' H', J σ' H' → u ⟨n, rt, bk, ct⟩ σ' H') : tSeq t u ⟨n, rt, bk, ct⟩ σ H := q _ hr
theorem w_next {n : L2.St → Hp → Prop} {rt : VK} {bk ct : L2.St → Hp → Prop} (q : n σ H) : tNext ⟨n, rt, bk, ct⟩ σ H := q
theorem w_break {n : L2.St → Hp → Prop} {rt : VK} {bk ct : L2.St → Hp → Prop} (q : bk σ H) : tBreak ⟨n, rt, bk, ct⟩ σ H := q
theorem w_cont {n : L2.St → Hp → Prop} {rt : VK} {bk ct : L2.St → Hp → Prop} (q : ct σ H) : tCont ⟨n, rt, bk, ct⟩ σ H := q
theorem w_drop {te : TE} {n : L2.St → Hp → Prop} {rt : VK} {bk ct : L2.St → Hp → Prop} (q : te σ H fun _ H1 => n σ H1) : tDrop te ⟨n, rt, bk, ct⟩ σ H := q
theorem w_ret {te : TE} {n : L2.St → Hp → Prop} {rt : VK} {bk ct : L2.St → Hp → Prop} (q : te σ H rt) : tRet te ⟨n, rt, bk, ct⟩ σ H := q
theorem w_retN {n : L2.St → Hp → Prop} {rt : VK} {bk ct : L2.St → Hp → Prop} (q : rt .non H) : tRetN ⟨n, rt, bk, ct⟩ σ H := q
def kIf (t u : TS) (D : Ends) (σ : L2.St) : Bool → Hp → Prop := fun b H1 => if b = true then t D σ H1 else u D σ H1
theorem w_if {c : TT} {t u : TS} (q : c σ H (kIf t u D σ)) : tIfS c t u D σ H := q
theorem w_ifT {t u : TS} (q : t D σ H) : kIf t u D σ true H := iteT q
theorem w_ifF {t u : TS} (q : u D σ H) : kIf t u D σ false H := iteF q
theorem w_if2 {p : Prop} [Decidable p] {t u : TS} (h1 : p → t D σ H) (h2 : ¬ p → u D σ H) : kIf t u D σ (decide p) H :=
  ite2 (fun e => h1 (of_decide_eq_true e)) fun e => h2 fun z => e (decide_eq_true z)
theorem w_ifN2 {p : Prop} [Decidable p] {t u : TS} (h1 : ¬ p → t D σ H) (h2 : p → u D σ H) : kIf t u D σ (!decide p) H := by
  by_cases h : p
  · rw [decide_eq_true h]; exact iteF (h2 h)
  · rw [decide_eq_false h]; exact iteT (h1 h)
theorem w_ifB {b : Bool} {t u : TS} (h1 : b = true → t D σ H) (h2 : b = false → u D σ H) : kIf t u D σ b H := by
  cases b with
  | true => exact iteT (h1 rfl)
  | false => exact iteF (h2 rfl)
theorem w_asg {te : TE} {g : TG} {n : L2.St → Hp → Prop} {rt : VK} {bk ct : L2.St → Hp → Prop} (q : te σ H fun x H1 => g x σ H1 n) : tAsg te g ⟨n, rt, bk, ct⟩ σ H := q
theorem w_gn {i : Nat} {v : V} {Q : L2.St → Hp → Prop} (q : Q (σ.set i (some v)) H) : gName i v σ H Q := q
def kPar (i j : Nat) (σ : L2.St) (n : L2.St → Hp → Prop) : List V → Hp → Prop := fun vs H1 => ∃ v w, vs = [v, w] ∧ n ((σ.set i (some v)).set j (some w)) H1
theorem w_par {i j : Nat} {ta : TA} {n : L2.St → Hp → Prop} {rt : VK} {bk ct : L2.St → Hp → Prop} (q : ta σ H (kPar i j σ n)) : tPar i j ta ⟨n, rt, bk, ct⟩ σ H := q
theorem w_kPar {i j : Nat} {v w : V} {n : L2.St → Hp → Prop} (q : n ((σ.set i (some v)).set j (some w)) H) : kPar i j σ n [v, w] H := ⟨v, w, rfl, q⟩
theorem w_gtup {a : Addr} {xs : List V} {n : Nat} {t : TGs} {Q : L2.St → Hp → Prop} (h : H a = some (.tup xs)) (hl : xs.length = n) (q : t xs σ H Q) : gTup K n t (.ref a) σ H Q := ⟨a, xs, rfl, SqT.of h, hl, q⟩
theorem w_gcons {t : TG} {u : TGs} {v : V} {r : List V} {Q : L2.St → Hp → Prop} (q : t v σ H fun σ' H' => u r σ' H' Q) : gCons t u (v :: r) σ H Q := ⟨v, r, rfl, q⟩
theorem w_gnil {Q : L2.St → Hp → Prop} (q : Q σ H) : gNil [] σ H Q := ⟨rfl, q⟩
theorem w_gsub {to ti : TE} {t : TSet} {v : V} {Q : L2.St → Hp → Prop} (q : to σ H fun o H1 => ti σ H1 fun i H2 => t o i v H2 fun H3 => Q σ H3) : gSub to ti t v σ H Q := q
theorem w_setL {p : Addr} {xs : List V} {k : Int} {j : Nat} {v : V} {Q : Hp → Prop} (h : H p = some (.lst xs)) (e : ixN xs.length k = some j) (q : ∀ H1, H1 p = some (.lst (xs.set j v)) → Of p H H1 → Q H1) : rSetL (.ref p) (.int k) v H Q := ⟨p, xs, k, j, rfl, rfl, h, e, q _ upd_same .mk'⟩
def kSFld (K : PySem.W.Frag) (f : Str) (y : V) (n : L2.St → Hp → Prop) (σ : L2.St) : VK := fun x H2 => ∃ a C dx fs, x = .ref a ∧ H2 a = some (.ins C dx fs) ∧ Cls K C ∧ NoAttr K C f ∧ fs.length < 1000 ∧ n σ (upd H2 a (.ins C dx (putF f y fs)))
theorem w_sfld {ta tv : TE} {f : Str} {n : L2.St → Hp → Prop} {rt : VK} {bk ct : L2.St → Hp → Prop} (q : tv σ H fun y H1 => ta σ H1 (kSFld K f y n σ)) : sFld K ta tv f ⟨n, rt, bk, ct⟩ σ H := q
theorem w_kSFld {a C dx : Addr} {fs : List (Str × V)} {f : Str} {y : V} {n : L2.St → Hp → Prop} (h : H a = some (.ins C dx fs)) (c : Cls K C) (na : NoAttr K C f) (hl : fs.length < 1000) (k : ∀ H1, H1 a = some (.ins C dx (putF f y fs)) → Of a H H1 → n σ H1) : kSFld K f y n σ (.ref a) H :=
  ⟨a, C, dx, fs, rfl, h, c, na, hl, k _ upd_same .mk'⟩
theorem w_aug {i : Nat} {x : V} {te : TE} {ti : TIp} {n : L2.St → Hp → Prop} {rt : VK} {bk ct : L2.St → Hp → Prop} (h : σ[i]? = some (some x)) (q : te σ H fun y H1 => ti x y H1 fun z H2 => n (σ.set i (some z)) H2) : tAug i te ti ⟨n, rt, bk, ct⟩ σ H := ⟨x, h, q⟩
theorem w_ipI {f : Int → Int → Int} {i j : Int} (q : Q (.int (f i j)) H) : ipI f (.int i) (.int j) H Q := ⟨i, j, rfl, rfl, q⟩
/-! loops -/
def kFor (g : TG) (tb : TS) (D : Ends) (σ : L2.St) : It → Hp → Prop := fun J H1 => ∃ W : Nat → Nat → L2.St → Hp → Prop, (∃ m, W 0 m σ H1) ∧ ∀ i m σ H, W i m σ H →
  (J.stop i H ∧ D.nx σ H) ∨ (J.go i H ∧ ∃ N : L2.St → Hp → Prop, (∀ σ' H', N σ' H' → ∃ m', m' < m ∧ W (i + 1) m' σ' H') ∧ ∀ x H', J.yld i H x H' → g x σ H' fun σ2 H2 => tb { D with nx := N, ct := N, bk := D.nx } σ2 H2)
theorem w_for {wi : TI} {g : TG} {tb : TS} (q : wi σ H (kFor g tb D σ)) : tFor wi g tb D σ H := q
def kRng1 (R : It → Hp → Prop) : List V → Hp → Prop := fun vs H1 => ∃ j : Int, vs = [.int j] ∧ -(2 ^ 62) ≤ j ∧ j < 2 ^ 62 ∧ R (Itr 0 j.toNat) H1
theorem w_rng1 {ta : TA} {R : It → Hp → Prop} (q : ta σ H (kRng1 R)) : iRng1 ta σ H R := q
theorem w_kRng1 {j : Int} {R : It → Hp → Prop} (h0 : -(2 ^ 62) ≤ j) (h1 : j < 2 ^ 62) (q : R (Itr 0 j.toNat) H) : kRng1 R [.int j] H := ⟨j, rfl, h0, h1, q⟩
def kList (K : PySem.W.Frag) (R : It → Hp → Prop) : VK := fun x H1 => ∃ a, x = .ref a ∧ (∃ xs, SqL K H1 a xs) ∧ R (Itl K a) H1
theorem w_ilist {tl : TE} {R : It → Hp → Prop} (q : tl σ H (kList K R)) : iList K tl σ H R := q
theorem w_kList {a : Addr} {xs : List V} {R : It → Hp → Prop} (h : H a = some (.lst xs)) (q : R (Itl K a) H) : kList K R (.ref a) H := ⟨a, rfl, ⟨xs, SqL.of h⟩, q⟩
def kTupI (K : PySem.W.Frag) (R : It → Hp → Prop) : VK := fun x H1 => ∃ a, x = .ref a ∧ (∃ xs, SqT K H1 a xs) ∧ R (Itt K a) H1
theorem w_itup {tl : TE} {R : It → Hp → Prop} (q : tl σ H (kTupI K R)) : iTup K tl σ H R := q
theorem w_kTupI {a : Addr} {xs : List V} {R : It → Hp → Prop} (h : H a = some (.tup xs)) (q : R (Itt K a) H) : kTupI K R (.ref a) H := ⟨a, rfl, ⟨xs, SqT.of h⟩, q⟩
def kStr (R : It → Hp → Prop) : VK := fun v H1 => ∃ x, v = .str x ∧ R (Its x) H1
theorem w_istr {te : TE} {R : It → Hp → Prop} (q : te σ H (kStr R)) : iStr te σ H R := q
theorem w_kStr {x : Str} {R : It → Hp → Prop} (q : R (Its x) H) : kStr R (.str x) H := ⟨x, rfl, q⟩
def kEnum (K : PySem.W.Frag) (R : It → Hp → Prop) : List V → Hp → Prop := fun vs H1 => ∃ a xs, vs = [.ref a] ∧ SqL K H1 a xs ∧ R (Ite K a) H1
theorem w_ienum {ta : TA} {R : It → Hp → Prop} (q : ta σ H (kEnum K R)) : iEnum K ta σ H R := q
theorem w_kEnum {a : Addr} {xs : List V} {R : It → Hp → Prop} (h : H a = some (.lst xs)) (q : R (Ite K a) H) : kEnum K R [.ref a] H := ⟨a, xs, rfl, SqL.of h, q⟩
/-- a loop: what holds ahead of turn i -/
theorem w_range {lo : Int} {n : Nat} {g : TG} {tb : TS} {nx : L2.St → Hp → Prop} {rt : VK} {bk ct : L2.St → Hp → Prop} (Pv : Nat → L2.St → Hp → Prop) (h0 : Pv 0 σ H)
    (hs : ∀ i σ H, i < n → Pv i σ H → g (.int (lo + i)) σ H fun σ2 H2 => tb ⟨Pv (i + 1), rt, nx, Pv (i + 1)⟩ σ2 H2) (hd : ∀ σ H, Pv n σ H → nx σ H) : kFor g tb ⟨nx, rt, bk, ct⟩ σ (Itr lo n) H :=
  for_range (lo := lo) (n := n) Pv h0 hs hd
theorem w_list {a : Addr} {xs : List V} {g : TG} {tb : TS} {nx : L2.St → Hp → Prop} {rt : VK} {bk ct : L2.St → Hp → Prop} (Pv : Nat → L2.St → Hp → Prop) (h0 : Pv 0 σ H) (hl : ∀ i σ H, i ≤ xs.length → Pv i σ H → H a = some (.lst xs))
    (hs : ∀ i x σ H, xs[i]? = some x → Pv i σ H → g x σ H fun σ2 H2 => tb ⟨Pv (i + 1), rt, nx, Pv (i + 1)⟩ σ2 H2) (hd : ∀ σ H, Pv xs.length σ H → nx σ H) : kFor g tb ⟨nx, rt, bk, ct⟩ σ (Itl K a) H :=
  for_list (K := K) (a := a) (xs := xs) Pv h0 (fun i σ H hi p => SqL.of (hl i σ H hi p)) hs hd
theorem w_tupF {a : Addr} {xs : List V} {g : TG} {tb : TS} {nx : L2.St → Hp → Prop} {rt : VK} {bk ct : L2.St → Hp → Prop} (Pv : Nat → L2.St → Hp → Prop) (h0 : Pv 0 σ H) (hl : ∀ i σ H, i ≤ xs.length → Pv i σ H → H a = some (.tup xs))
    (hs : ∀ i x σ H, xs[i]? = some x → Pv i σ H → g x σ H fun σ2 H2 => tb ⟨Pv (i + 1), rt, nx, Pv (i + 1)⟩ σ2 H2) (hd : ∀ σ H, Pv xs.length σ H → nx σ H) : kFor g tb ⟨nx, rt, bk, ct⟩ σ (Itt K a) H := by
  refine for_gen (n := xs.length) Pv h0 (fun i σ H hi p => ⟨xs, xs[i], SqT.of (hl i σ H (Nat.le_of_lt hi) p), List.getElem?_eq_getElem hi⟩) (fun σ H p => ⟨xs, SqT.of (hl _ σ H (Nat.le_refl _) p), Nat.le_refl _⟩) ?_ hd
  rintro i v σ H H' hi p ⟨rfl, hx⟩
  exact hs i v σ H' (hx xs (SqT.of (hl i σ H' (Nat.le_of_lt hi) p))) p
theorem w_str {x : Str} {g : TG} {tb : TS} {nx : L2.St → Hp → Prop} {rt : VK} {bk ct : L2.St → Hp → Prop} (Pv : Nat → L2.St → Hp → Prop) (h0 : Pv 0 σ H)
    (hs : ∀ i c σ H, (tl x)[i]? = some c → Pv i σ H → g (.str (one c)) σ H fun σ2 H2 => tb ⟨Pv (i + 1), rt, nx, Pv (i + 1)⟩ σ2 H2) (hd : ∀ σ H, Pv (tl x).length σ H → nx σ H) : kFor g tb ⟨nx, rt, bk, ct⟩ σ (Its x) H := by
  have hz : x.cps.size = (tl x).length := len_tl x
  refine for_gen (n := x.cps.size) Pv h0 (fun i σ H hi _ => hi) (fun σ H _ => Nat.le_refl _) ?_ (fun σ H p => hd σ H (by rw [← hz]; exact p))
  rintro i v σ H H' hi p ⟨rfl, c, hc, rfl⟩
  exact hs i c σ H' (getElem?_of_cps hc) p
theorem w_enum {a : Addr} {xs : List V} {g : TG} {tb : TS} {nx : L2.St → Hp → Prop} {rt : VK} {bk ct : L2.St → Hp → Prop} (Pv : Nat → L2.St → Hp → Prop) (h0 : Pv 0 σ H) (hl : ∀ i σ H, i ≤ xs.length → Pv i σ H → H a = some (.lst xs))
    (hs : ∀ i x t σ H H1, xs[i]? = some x → Pv i σ H → H1 t = some (.tup [.int (i : Nat), x]) → Nw t H H1 → g (.ref t) σ H1 fun σ2 H2 => tb ⟨Pv (i + 1), rt, nx, Pv (i + 1)⟩ σ2 H2) (hd : ∀ σ H, Pv xs.length σ H → nx σ H) : kFor g tb ⟨nx, rt, bk, ct⟩ σ (Ite K a) H := by
  refine for_gen (n := xs.length) Pv h0 (fun i σ H hi p => ⟨xs, xs[i], SqL.of (hl i σ H (Nat.le_of_lt hi) p), List.getElem?_eq_getElem hi⟩) (fun σ H p => ⟨xs, SqL.of (hl _ σ H (Nat.le_refl _) p), Nat.le_refl _⟩) ?_ hd
  rintro i v σ H H' hi p ⟨t, x, rfl, nt, rfl, hx⟩
  exact hs i x t σ H _ (hx xs (SqL.of (hl i σ H (Nat.le_of_lt hi) p))) p upd_same (.mk' nt)
/-! comprehensions -/
def kLc (g : TG) (tt : TT) (te : TE) (vs : List Nat) (σ : L2.St) (Q : VK) : It → Hp → Prop := fun J H1 => ∀ D, H1 D = none → ∃ W : Nat → Nat → Hp → Prop, (∃ m, W 0 m (upd H1 D (.lst []))) ∧ ∀ i m H, W i m H →
  (J.stop i H ∧ Q (.ref D) H) ∨ (J.go i H ∧ ∃ Nx : Hp → Prop, (∀ H', Nx H' → ∃ m', m' < m ∧ W (i + 1) m' H') ∧ ∀ x H', J.yld i H x H' → g x (wipe σ vs) H' fun σ2 H2 => wipe σ2 vs = wipe σ vs ∧ tt σ2 H2 fun b H3 =>
    if b = true then te σ2 H3 fun y H4 => ∃ acc, H4 D = some (.lst acc) ∧ acc.length < sizeLine ∧ Nx (upd H4 D (.lst (acc ++ [y]))) else Nx H3)
theorem w_lc {wi : TI} {g : TG} {tt : TT} {te : TE} {vs : List Nat} (q : wi σ H (kLc g tt te vs σ Q)) : tLc wi g tt te vs σ H Q := q
/-- what an item of the list does: the item, then the list -/
def kIt (D : Addr) (N : Hp → Prop) : VK := fun y H4 => ∃ acc, H4 D = some (.lst acc) ∧ acc.length < sizeLine ∧ N (upd H4 D (.lst (acc ++ [y])))
theorem w_kIt {p : Addr} {N : Hp → Prop} {acc : List V} {y : V} (h : H p = some (.lst acc)) (hl : acc.length < sizeLine) (k : ∀ H5, H5 p = some (.lst (acc ++ [y])) → Of p H H5 → N H5) : kIt p N y H := ⟨acc, h, hl, k _ upd_same .mk'⟩
def kTst (te : TE) (σ : L2.St) (D : Addr) (N : Hp → Prop) : Bool → Hp → Prop := fun b H3 => if b = true then te σ H3 (kIt D N) else N H3
theorem w_yes {Q : Bool → Hp → Prop} (q : Q true H) : tYes σ H Q := q
theorem w_tstT {te : TE} {p : Addr} {N : Hp → Prop} (q : te σ H (kIt p N)) : kTst te σ p N true H := iteT q
theorem w_tstF {te : TE} {p : Addr} {N : Hp → Prop} (q : N H) : kTst te σ p N false H := iteF q
theorem w_tst2 {c : Prop} [Decidable c] {te : TE} {p : Addr} {N : Hp → Prop} (h1 : c → te σ H (kIt p N)) (h2 : ¬ c → N H) : kTst te σ p N (decide c) H :=
  ite2 (fun e => h1 (of_decide_eq_true e)) fun e => h2 fun z => e (decide_eq_true z)
theorem w_tstB {b : Bool} {te : TE} {p : Addr} {N : Hp → Prop} (h1 : b = true → te σ H (kIt p N)) (h2 : b = false → N H) : kTst te σ p N b H := by
  cases b with
  | true => exact iteT (h1 rfl)
  | false => exact iteF (h2 rfl)
def kEach (tt : TT) (te : TE) (vs : List Nat) (σ : L2.St) (D : Addr) (N : Hp → Prop) : L2.St → Hp → Prop := fun σ2 H2 => wipe σ2 vs = wipe σ vs ∧ tt σ2 H2 (kTst te σ2 D N)
theorem w_each {tt : TT} {te : TE} {vs : List Nat} {σ σ2 : L2.St} {p : Addr} {N : Hp → Prop} (e : wipe σ2 vs = wipe σ vs) (q : tt σ2 H (kTst te σ2 p N)) : kEach tt te vs σ p N σ2 H := ⟨e, q⟩
/-- a comprehension by what holds ahead of item i; p: where the made list stands -/
theorem w_lcG {J : It} {n : Nat} {g : TG} {tt : TT} {te : TE} {vs : List Nat} (Pv : Addr → Nat → Hp → Prop) (h0 : ∀ p H1, H1 p = some (.lst []) → Nw p H H1 → Pv p 0 H1)
    (hgo : ∀ p i H, i < n → Pv p i H → J.go i H) (hst : ∀ p H, Pv p n H → J.stop n H)
    (hs : ∀ p i x H H', i < n → Pv p i H → J.yld i H x H' → g x (wipe σ vs) H' (kEach tt te vs σ p (Pv p (i + 1)))) (hd : ∀ p H, Pv p n H → Q (.ref p) H) : kLc g tt te vs σ Q J H := fun p np =>
  lc_gen (n := n) (Pv p) (h0 p _ upd_same (.mk' np)) (hgo p) (hst p) (hs p) (hd p)
theorem w_lcL {a : Addr} {xs : List V} {g : TG} {tt : TT} {te : TE} {vs : List Nat} (Pv : Addr → Nat → Hp → Prop) (h0 : ∀ p H1, H1 p = some (.lst []) → Nw p H H1 → Pv p 0 H1)
    (hl : ∀ p i H, i ≤ xs.length → Pv p i H → H a = some (.lst xs)) (hs : ∀ p i x H, xs[i]? = some x → Pv p i H → g x (wipe σ vs) H (kEach tt te vs σ p (Pv p (i + 1)))) (hd : ∀ p H, Pv p xs.length H → Q (.ref p) H) : kLc g tt te vs σ Q (Itl K a) H := by
  refine w_lcG (n := xs.length) Pv h0 (fun p i H hi h => ⟨xs, xs[i], SqL.of (hl p i H (Nat.le_of_lt hi) h), List.getElem?_eq_getElem hi⟩) (fun p H h => ⟨xs, SqL.of (hl p _ H (Nat.le_refl _) h), Nat.le_refl _⟩) ?_ hd
  rintro p i x H H' hi h ⟨rfl, hx⟩
  exact hs p i x H' (hx xs (SqL.of (hl p i H' (Nat.le_of_lt hi) h))) h
theorem w_lcR {lo : Int} {n : Nat} {g : TG} {tt : TT} {te : TE} {vs : List Nat} (Pv : Addr → Nat → Hp → Prop) (h0 : ∀ p H1, H1 p = some (.lst []) → Nw p H H1 → Pv p 0 H1)
    (hs : ∀ p i H, i < n → Pv p i H → g (.int (lo + i)) (wipe σ vs) H (kEach tt te vs σ p (Pv p (i + 1)))) (hd : ∀ p H, Pv p n H → Q (.ref p) H) : kLc g tt te vs σ Q (Itr lo n) H := by
  refine w_lcG (n := n) Pv h0 (fun p i H hi h => hi) (fun p H h => Nat.le_refl _) ?_ hd
  rintro p i x H H' hi h ⟨rfl, rfl⟩
  exact hs p i H' hi h
theorem w_lcS {x : Str} {g : TG} {tt : TT} {te : TE} {vs : List Nat} (Pv : Addr → Nat → Hp → Prop) (h0 : ∀ p H1, H1 p = some (.lst []) → Nw p H H1 → Pv p 0 H1)
    (hs : ∀ p i c H, (tl x)[i]? = some c → Pv p i H → g (.str (one c)) (wipe σ vs) H (kEach tt te vs σ p (Pv p (i + 1)))) (hd : ∀ p H, Pv p (tl x).length H → Q (.ref p) H) : kLc g tt te vs σ Q (Its x) H := by
  have hz : x.cps.size = (tl x).length := len_tl x
  refine w_lcG (n := x.cps.size) Pv h0 (fun p i H hi h => hi) (fun p H h => Nat.le_refl _) ?_ (fun p H h => hd p H (by rw [← hz]; exact h))
  rintro p i v H H' hi h ⟨rfl, c, hc, rfl⟩
  exact hs p i c H' (getElem?_of_cps hc) h
end
end Sf
namespace Sf
open PySem PySem.Spec PyProof.Rows L2 TL
section
variable {X : Cx} {σ : L2.St} {H : Hp} {Q : VK}
def rNeOwn (C : Addr) (sp : Sp) : R2 := fun x y H Q => ∃ a b dx dy fs gs, x = .ref a ∧ y = .ref b ∧ H a = some (.ins C dx fs) ∧ H b = some (.ins C dy gs) ∧ sp [.ref a, .ref b] H (fun v H' => ∃ t, v = .bl t ∧ Q (.bl (!t)) H') E0
theorem op_neN {C f : Addr} {fd : FuncData} {ps : List Str} {k : Nat} {sp : Sp} (F : FnOk X.prog X.w X.K X.mg X.base CX0 k f fd ps sp) (hs : PySem.W.findIn X.K (.ref C) "__eq__" = some (some (.ref f))) (hf : PySem.W.isFn X.K (.ref f) = true) (hb : Binds X.K fd ps []) (hn : PySem.W.findIn X.K (.ref C) "__ne__" = some (some (.builtin "object.__ne__")))
    (hm : PySem.W.mroIn X.K C (.type "object") = some true) (hr : Room (k + 1) X.A) : OpR X (compareOp .NotEq) (rNeOwn C sp) := op_neOwn F hs hf hb hn hm hr
def kNeOwn (Q : VK) : VK := fun v H' => ∃ t, v = .bl t ∧ Q (.bl (!t)) H'
theorem w_neOwn {C a b dx dy : Addr} {fs gs : List (Str × V)} {sp : Sp} (ha : H a = some (.ins C dx fs)) (hb : H b = some (.ins C dy gs)) (q : sp [.ref a, .ref b] H (kNeOwn Q) E0) : rNeOwn C sp (.ref a) (.ref b) H Q := ⟨a, b, dx, dy, fs, gs, rfl, rfl, ha, hb, q⟩
theorem w_kNeOwn {t : Bool} (q : Q (.bl (!t)) H) : kNeOwn Q (.bl t) H := ⟨t, rfl, q⟩
theorem w_kNeOwnT (q : Q (.bl false) H) : kNeOwn Q (.bl true) H := ⟨true, rfl, q⟩
theorem w_kNeOwnF (q : Q (.bl true) H) : kNeOwn Q (.bl false) H := ⟨false, rfl, q⟩
def rEqOwn (C : Addr) (sp : Sp) : R2 := fun x y H Q => ∃ a b dx dy fs gs, x = .ref a ∧ y = .ref b ∧ H a = some (.ins C dx fs) ∧ H b = some (.ins C dy gs) ∧ sp [.ref a, .ref b] H (fun v H' => ∃ t, v = .bl t ∧ Q (.bl t) H') E0
end
end Sf
namespace Sf
open PySem PySem.Spec PyProof.Rows L2 TL
/-! ### worlds: the mathematics -/
/-- a move: the code of its letter, from, to -/
abbrev Mv := Nat × Int × Int
def sgs : List Nat := [97, 65, 98, 66, 99, 67, 100, 68, 101, 69, 102, 70, 103, 71, 104, 72]
theorem sgs_iff {c : Nat} : c ∈ sgs ↔ sgn c = true := by
  rw [sgn_iff]
  unfold sgs
  simp only [List.mem_cons, List.not_mem_nil, or_false]
  omega
theorem sgs_nd : sgs.Nodup := by decide
def mvOn (c : Nat) (m : Mv) : Option (Int × Int) := if m.1 = c then some (m.2.1, m.2.2) else if m.1 = c + 32 then some (m.2.2, m.2.1) else none
def LM (ms : List Mv) (c : Nat) : List (Int × Int) := ms.filterMap (mvOn c)
def lk (l : List (Int × Int)) (x : Int) : Option Int := (l.find? fun p => decide (p.1 = x)).map (·.2)
def kvI (l : List (Int × Int)) : List (Key × V) := l.map fun p => (Sum.inl p.1, V.int p.2)
def oV : Option Int → V
  | none => .non
  | some i => .int i
theorem kvI_len (l : List (Int × Int)) : (kvI l).length = l.length := List.length_map ..
theorem val_kvI (x : Int) : ∀ l : List (Int × Int), valV (kvI l) (Sum.inl x) = (lk l x).map V.int
  | [] => rfl
  | (a, b) :: r => by
    unfold kvI lk
    rw [List.map_cons, List.find?_cons]
    by_cases h : a = x
    · rw [valV_pos (by show (Sum.inl a : Key) = Sum.inl x; rw [h]), decide_eq_true h]
      rfl
    · rw [valV_neg (fun e => h (Sum.inl.inj e)), decide_eq_false h]
      exact val_kvI x r
theorem getD_kvI (x : Int) (l : List (Int × Int)) : (valV (kvI l) (Sum.inl x)).getD .non = oV (lk l x) := by
  rw [val_kvI]
  cases lk l x <;> rfl
theorem lk_none {l : List (Int × Int)} {x : Int} (h : ∀ p ∈ l, p.1 ≠ x) : lk l x = none := by
  unfold lk
  rw [List.find?_eq_none.mpr fun p hp => by simp [h p hp]]
  rfl
theorem lk_mem {l : List (Int × Int)} {x y : Int} (h : lk l x = some y) : (x, y) ∈ l := by
  unfold lk at h
  rw [Option.map_eq_some_iff] at h
  obtain ⟨p, hp, rfl⟩ := h
  have h1 := List.find?_some hp
  have h2 := List.mem_of_find?_eq_some hp
  rw [decide_eq_true_eq] at h1
  rw [← h1]
  exact h2
theorem lk_of {l : List (Int × Int)} {x y : Int} (hu : ∀ p ∈ l, ∀ q ∈ l, p.1 = q.1 → p = q) (h : (x, y) ∈ l) : lk l x = some y := by
  cases e : lk l x with
  | none =>
    unfold lk at e
    rw [Option.map_eq_none_iff, List.find?_eq_none] at e
    exact absurd (decide_eq_true rfl) (e _ h)
  | some z =>
    have := hu _ (lk_mem e) _ h rfl
    exact congrArg some (congrArg Prod.snd this)
structure WOk (n : Int) (ms : List Mv) : Prop where
  rg : ∀ m ∈ ms, 97 ≤ m.1 ∧ m.1 ≤ 104 ∧ 0 ≤ m.2.1 ∧ m.2.1 < n ∧ 0 ≤ m.2.2 ∧ m.2.2 < n
  pw : ms.Pairwise fun m k => m.1 = k.1 → m.2.1 ≠ k.2.1 ∧ m.2.2 ≠ k.2.2
theorem WOk.pre {n : Int} {ms : List Mv} {m : Mv} (h : WOk n (ms ++ [m])) : WOk n ms ∧ ∀ k ∈ ms, k.1 = m.1 → k.2.1 ≠ m.2.1 ∧ k.2.2 ≠ m.2.2 :=
  ⟨⟨fun k hk => h.rg k (List.mem_append_left _ hk), (List.pairwise_append.mp h.pw).1⟩, fun k hk => (List.pairwise_append.mp h.pw).2.2 k hk m (List.mem_singleton.mpr rfl)⟩
theorem WOk.take {n : Int} {ms : List Mv} (h : WOk n ms) (i : Nat) : WOk n (ms.take i) := ⟨fun m hm => h.rg m (List.mem_of_mem_take hm), h.pw.sublist (List.take_sublist i ms)⟩
theorem take_snoc {α : Type} {l : List α} {i : Nat} {x : α} (h : l[i]? = some x) : l.take (i + 1) = l.take i ++ [x] := by
  rw [List.take_add_one, h]
  rfl
theorem LM_snoc (ms : List Mv) (m : Mv) (c : Nat) : LM (ms ++ [m]) c = LM ms c ++ (mvOn c m).toList := by
  unfold LM
  rw [List.filterMap_append, List.filterMap_cons]
  cases mvOn c m <;> rfl
theorem LM_mem {ms : List Mv} {c : Nat} {p : Int × Int} : p ∈ LM ms c ↔ ∃ m ∈ ms, (m.1 = c ∧ m.2.1 = p.1 ∧ m.2.2 = p.2) ∨ (m.1 ≠ c ∧ m.1 = c + 32 ∧ m.2.2 = p.1 ∧ m.2.1 = p.2) := by
  unfold LM
  rw [List.mem_filterMap]
  constructor
  · rintro ⟨m, hm, e⟩
    refine ⟨m, hm, ?_⟩
    unfold mvOn at e
    split at e
    · rename_i h
      cases e
      exact .inl ⟨h, rfl, rfl⟩
    · rename_i h
      split at e
      · rename_i h2
        cases e
        exact .inr ⟨h, h2, rfl, rfl⟩
      · cases e
  · rintro ⟨m, hm, e⟩
    refine ⟨m, hm, ?_⟩
    unfold mvOn
    rcases e with ⟨h1, h2, h3⟩ | ⟨h0, h1, h2, h3⟩
    · rw [if_pos h1, h2, h3]
    · rw [if_neg h0, if_pos h1, h2, h3]
/-- the step at a new move: its start is free, its end too -/
theorem new_start {n : Int} {ms : List Mv} {m : Mv} (h : WOk n (ms ++ [m])) : lk (LM ms m.1) m.2.1 = none := lk_none fun p hp => by
  obtain ⟨k, hk, e⟩ := LM_mem.mp hp
  have hr := h.rg k (List.mem_append_left _ hk)
  have hm := h.rg m (List.mem_append_right _ (List.mem_singleton.mpr rfl))
  rcases e with ⟨h1, h2, _⟩ | ⟨_, h1, _⟩
  · rw [← h2]
    exact (h.pre.2 k hk h1).1
  · omega
theorem new_end {n : Int} {ms : List Mv} {m : Mv} (h : WOk n (ms ++ [m])) : lk (LM ms (m.1 - 32)) m.2.2 = none := lk_none fun p hp => by
  obtain ⟨k, hk, e⟩ := LM_mem.mp hp
  have hr := h.rg k (List.mem_append_left _ hk)
  have hm := h.rg m (List.mem_append_right _ (List.mem_singleton.mpr rfl))
  rcases e with ⟨h1, h2, _⟩ | ⟨_, h1, h2, _⟩
  · omega
  · rw [← h2]
    exact (h.pre.2 k hk (by omega)).2
theorem mvOn_self (m : Mv) : mvOn m.1 m = some (m.2.1, m.2.2) := by
  unfold mvOn
  rw [if_pos rfl]
theorem mvOn_great {m : Mv} (h : 97 ≤ m.1) : mvOn (m.1 - 32) m = some (m.2.2, m.2.1) := by
  unfold mvOn
  rw [if_neg (by omega), if_pos (by omega)]
theorem mvOn_other {m : Mv} {c : Nat} (h1 : c ≠ m.1) (h2 : c ≠ m.1 - 32) (h : 97 ≤ m.1) : mvOn c m = none := by
  unfold mvOn
  rw [if_neg (Ne.symm h1), if_neg (by omega)]
theorem LM_len (ms : List Mv) (c : Nat) : (LM ms c).length ≤ ms.length := List.length_filterMap_le ..
/-- where a word leads -/
def ledM (st : Nat → Int → Option Int) : List Nat → Int → Option Int
  | [], x => some x
  | c :: r, x => (st c x).bind (ledM st r)
theorem ledM_app (st : Nat → Int → Option Int) : ∀ (l r : List Nat) (x : Int), ledM st (l ++ r) x = (ledM st l x).bind (ledM st r)
  | [], r, x => rfl
  | c :: l, r, x => by
    show (st c x).bind (ledM st (l ++ r)) = ((st c x).bind (ledM st l)).bind (ledM st r)
    cases st c x with
    | none => rfl
    | some y => exact ledM_app st l r y
theorem ledM_snoc {st : Nat → Int → Option Int} {l : List Nat} {i c : Nat} {x : Int} (h : l[i]? = some c) : ledM st (l.take (i + 1)) x = (ledM st (l.take i) x).bind (st c) := by
  rw [take_snoc h, ledM_app]
  cases ledM st (l.take i) x with
  | none => rfl
  | some y =>
    show (st c y).bind (fun z => some z) = st c y
    cases st c y <;> rfl
theorem ledM_none {st : Nat → Int → Option Int} {l : List Nat} {i : Nat} {x : Int} (h : ledM st (l.take i) x = none) : ledM st l x = none := by
  have e := ledM_app st (l.take i) (l.drop i) x
  rw [List.take_append_drop, h] at e
  exact e
theorem one_inj {a b : Nat} (h : one a = one b) : a = b := by
  have h2 : tl (one a) = tl (one b) := by rw [h]
  exact (List.cons.inj h2).1
def stp (L : Nat → List (Int × Int)) (c : Nat) (x : Int) : Option Int := lk (L c) x
theorem val_sgs {f : Nat → V} {c : Nat} : ∀ {l : List Nat}, c ∈ l → valV (l.map fun c => ((Sum.inr (one c) : Key), f c)) (Sum.inr (one c)) = some (f c)
  | a :: r, h => by
    rw [List.map_cons]
    by_cases e : a = c
    · subst e
      exact valV_pos rfl
    · rw [valV_neg fun z => e (by
        have := Sum.inr.inj z
        have h2 : tl (one a) = tl (one c) := by rw [this]
        exact List.cons.inj h2 |>.1)]
      exact val_sgs ((List.mem_cons.mp h).resolve_left fun z => e z.symm)
theorem val_sgs_none {f : Nat → V} {c : Nat} : ∀ {l : List Nat}, c ∉ l → valV (l.map fun c => ((Sum.inr (one c) : Key), f c)) (Sum.inr (one c)) = none
  | [], _ => rfl
  | a :: r, h => by
    rw [List.map_cons, valV_neg fun z => h (by
        have := Sum.inr.inj z
        have h2 : tl (one a) = tl (one c) := by rw [this]
        rw [(List.cons.inj h2).1]
        exact List.mem_cons_self)]
    exact val_sgs_none fun z => h (List.mem_cons_of_mem _ z)
end Sf
namespace Sf
open PySem PySem.Spec PyProof.Rows L2 TL
/-! ### data: lists, tuples compared -/
section
variable {K : PySem.W.Frag} {H : Hp}
theorem lay_all {α : Type} {f : α → PyData} : ∀ {l : List α}, (∀ x ∈ l, PyData.canLay0 (f x) = true) → PyData.canLayAll0 (l.map f) = true
  | [], _ => rfl
  | x :: l, h => by
    rw [List.map_cons, PyData.canLayAll0, h x List.mem_cons_self, lay_all fun y hy => h y (List.mem_cons_of_mem _ hy)]
    rfl
theorem depth_all {α : Type} {f : α → PyData} {k : Nat} : ∀ {l : List α}, (∀ x ∈ l, (f x).depth ≤ k) → PyData.depthAll (l.map f) ≤ k
  | [], _ => Nat.zero_le _
  | x :: l, h => by
    rw [List.map_cons, PyData.depthAll]
    exact Nat.max_le.mpr ⟨h x List.mem_cons_self, depth_all fun y hy => h y (List.mem_cons_of_mem _ hy)⟩
theorem dp_map {α : Type} {f : α → PyData} {vs : List V} {l : List α} (h : Paired (fun v x => Dp K H v (f x)) vs l) : DpAll K H vs (l.map f) := by
  induction h with
  | nil => exact .nil
  | cons r _ ih => exact .cons r ih
theorem shaped_list {α : Type} {f : α → PyData} {l : List α} (h1 : ∀ x ∈ l, PyData.canLay0 (f x) = true) (h2 : ∀ x ∈ l, (f x).depth ≤ 60) : SeqAt.shaped (.list (l.map f)) = true := by
  unfold SeqAt.shaped
  rw [PyData.canLay0, lay_all h1, Bool.true_and, PyData.depth]
  have := depth_all h2
  exact decide_eq_true (by omega)
theorem strOk_wd {x : Str} (h : Wd x) : PyData.canLay0 (.str x) = true := by
  rw [PyData.canLay0]
  unfold PyData.strOk
  rw [Array.all_eq_true']
  intro c hc
  have := sgn_lt (h c (Array.mem_def.mp hc))
  exact decide_eq_true (by omega)
theorem eqv_nil {ds : List PyData} : PyData.eqv (.list ds) (.list []) = ds.isEmpty := by
  cases ds <;> simp [PyData.eqv, PyData.eqvAll]
/-- l != [] -/
theorem w_neNil {Q : VK} {p q : Addr} {ds : List PyData} {vs : List V} (h : H p = some (.lst vs)) (hd : DpAll K H vs ds) (hs : SeqAt.shaped (.list ds) = true) (hq : H q = some (.lst [])) (k : Q (.bl (!ds.isEmpty)) H) : rNeD K (.ref p) (.ref q) H Q :=
  ⟨_, _, .lst (SqL.of h) hd, .lst (SqL.of hq) .nil, hs, by decide +kernel, by rw [eqv_nil]; exact k⟩
theorem dpI : ∀ l : List Int, DpAll K H (l.map V.int) (l.map .int)
  | [] => .nil
  | _ :: l => .cons (.int _) (dpI l)
theorem shapedI (l : List Int) : SeqAt.shaped (.list (l.map .int)) = true := shaped_list (fun x _ => by rw [PyData.canLay0]) (fun x _ => by rw [PyData.depth]; omega)
theorem w_neNilI {Q : VK} {p q : Addr} {ns : List Int} (h : H p = some (.lst (ns.map V.int))) (hq : H q = some (.lst [])) (k : Q (.bl (!ns.isEmpty)) H) : rNeD K (.ref p) (.ref q) H Q :=
  w_neNil h (dpI ns) (shapedI ns) hq (by rw [List.isEmpty_map]; exact k)
/-- two lists of the same data -/
theorem w_neSame {Q : VK} {x y : V} {d : PyData} (h1 : Dp K H x d) (h2 : Dp K H y d) (hs : SeqAt.shaped d = true) (k : Q (.bl false) H) : rNeD K x y H Q :=
  ⟨d, d, h1, h2, hs, hs, by rw [SeqAt.eqv_refl d (SeqAt.canLay_of_shaped hs)]; exact k⟩
theorem w_eqSame {Q : VK} {x y : V} {d : PyData} (h1 : Dp K H x d) (h2 : Dp K H y d) (hs : SeqAt.shaped d = true) (k : Q (.bl true) H) : rEqD K x y H Q :=
  ⟨d, d, h1, h2, hs, hs, by rw [SeqAt.eqv_refl d (SeqAt.canLay_of_shaped hs)]; exact k⟩
end
end Sf
namespace Sf
open PySem PySem.Spec PyProof.Rows L2 TL
theorem passes_len {X : Cx} {W : WX} (n : Nat) (hn : X.N.length = n) (tk : Takes X W) : Passes (L2.CX X.prog X.w) X (fun cls d H => ∀ σ : L2.St, σ.length = n → W cls d σ H) := fun _ σ _ _ e s' I c => tk e s' (XE.of_call I (fun _ _ _ h => h σ (I.len.trans hn)) c)
section
variable {X : Cx} {CX : CXT} {k : Nat} {f C : Addr} {fd : FuncData} {ps : List Str} {sp : Sp} {E : XK} {x m : Str} {p pos apos : Pos} {e o : Expr} {es : List Expr} {te ta : TE} {t : TA} {mc : Value}
/-! ### C(), C an own exception whose __init__ is walked -/
theorem pmk_oex0 {fI : Addr} (T : OexC X.K C) (iC : PySem.W.findIn X.K (.ref C) "__init__" = some (some (.ref fI))) (tI : PySem.W.typeIn X.K (.ref fI) = some (.type "function"))
    (F1 : FnOk X.prog X.w X.K X.mg X.base CX k fI fd ps sp) (hr : Room (k + 1) X.A) (hb : Binds X.K fd ps []) (hx : Passes CX X (fun _ _ _ => False)) (hg : Gl X x) (hm : X.mg x = some (.ref C))
    (hdb : (x == ("__debug__" : Str)) = false := by decide) : PMk X (.Call (.Name x p) [] [] pos) (tMkO C sp [] tNil) := by
  intro pins s σ H Q I h
  obtain ⟨nm, q, N, bs, bm, sn, sub, ab, col, dd, k0, k1, k2, k3, k5, hC, hbm⟩ := T.cls
  refine wpAny_Call_Name_kw (ld_glob I hg hm ?_ hdb)
  refine PySem.W.callWith_K0 I.kIn T.kC ?_
  show wpAny _ _ (call (.ref C) []) _ _ _
  obtain ⟨hz, q1⟩ := h
  obtain ⟨hp, g, dr, tk, os⟩ := s
  have hsz : hp.objs.size ≤ hp.objs.size + 1 := Nat.le_succ _
  have hn : H (hp.objs.size + 1) = none := I.hok.fresh hsz
  have hq := q1 (hp.objs.size + 1) hn
  have kk : ∀ b o, hp.get? b = some o → ((hp.push (PySem.W.kdv_tup [])).push (PySem.HandSPX.excO C hp.objs.size)).get? b = some o := fun b o e => Heap.get?_push_of_some _ (Heap.get?_push_of_some _ e)
  have hget : ((hp.push (PySem.W.kdv_tup [])).push (PySem.HandSPX.excO C hp.objs.size)).get? (hp.objs.size + 1) = some (PySem.HandSPX.excO C hp.objs.size) := by heap_get
  have I2 : Inv X pins σ (upd H (hp.objs.size + 1) (exo (hp.objs.size + 1) C none)) ⟨(hp.push (PySem.W.kdv_tup [])).push (PySem.HandSPX.excO C hp.objs.size), g, dr, tk, os⟩ :=
    I.laid (t' := tk) (a := hp.objs.size + 1) (o := exo (hp.objs.size + 1) C none) (h' := (hp.push (PySem.W.kdv_tup [])).push (PySem.HandSPX.excO C hp.objs.size)) kk hsz (exo_ok hget)
  have r2 : Vals [V.ref (hp.objs.size + 1)] [Value.ref (hp.objs.size + 1)] := .cons rfl .nil
  have hl : [Value.ref (hp.objs.size + 1)].length = ps.length := by
    have e : [V.ref (hp.objs.size + 1)].length = ps.length := F1.len _ _ _ _ hq
    exact e
  refine wpAny_call (PySem.HandSPX.call_own F.excBase_ValueError (fun Y => PySem.HandSPX.refsVE_contains Y bm hbm) (I.kIn _ _ hC) (PySem.W.looks_findIn I.kIn iC) (fun self => PySem.W.bind_fn I.kIn self tI) (by decide)
    (codeAny_mono (F1.run _ X.stack _ _ ⟨[Value.ref (hp.objs.size + 1)], []⟩ [Value.ref (hp.objs.size + 1)] _ _ (fun _ _ _ => False) (hr.make C [] []) (I2.env0.make C [] []) (hb _ [Value.ref (hp.objs.size + 1)] I2.kIn hl) r2 hq) fun r s' hq' => ?_))
  cases r with
  | error er => exact hx pins σ _ _ er s' I2 hq'
  | ok fl =>
    cases fl with
    | ret u =>
      obtain ⟨v, H2, os2, bare2, un2, hok2, rv, ev, d, fs, ea, ed, hd1, q2⟩ := hq'
      subst ev
      obtain ⟨h2, g2, d2, t2, os'⟩ := s'
      exact ⟨rv, mk_end (raises_own T.exC T.tyC) I hsz kk un2 hok2 os2 bare2 ea ed hd1 q2⟩
    | next => exact False.elim hq'
    | brk => exact False.elim hq'
    | cont => exact False.elim hq'
/-! ### C.m(..), C an own class, m a def of it -/
def tClsFn (C : Addr) (sp : Sp) (E : XK) (ta : TE) (t : TA) : TE := fun σ H Q => ta σ H fun x H1 => x = .ref C ∧ t σ H1 fun vs H2 => sp vs H2 Q E
theorem pe_clsFn {pl : Sem Bool} (he : PE X o ta) (rd : PySem.W.readsIn X.K C mc = true) (ga : PySem.W.specialIn X.K (.ref C) "__getattribute__" = some (some (.builtin "type.__getattribute__"))) (at_ : PySem.W.findCls X.K (.ref C) mc m = some (.val (.ref f)))
    (F : FnOk X.prog X.w X.K X.mg X.base CX k f fd ps sp) (hr : Room k X.A) (kp : PySem.W.keepIn X.K (.ref f) = true) (hb : Binds X.K fd ps []) (hx : Passes CX X E) (ha : PA X (e :: es) t)
    (hst : starEach (e :: es) X.env = (false, eval e X.env) :: starEach es X.env := by rfl) (hpl : (backTo pos (starEach es X.env)).any (·.1) = false := by rfl)
    (ht : eval (.Call (.Attribute o m apos) (e :: es) [] pos) X.env = (do
      let ov ← eval o X.env
      standAt apos.atName
      let (f, first) ← holding [ov] (getMethod ov m pl)
      callWith pos f first (backTo pos (starEach (e :: es) X.env)) (backToKw pos (keywordEach [] X.env))) := by rfl) :
    PE X (.Call (.Attribute o m apos) (e :: es) [] pos) (tClsFn C sp E ta t) := by
  refine ⟨fun pins s σ H Q I h => ?_⟩
  refine PySem.W.methodCall_KW (pl := pl) (thn (he.run pins s σ H _ I h) fun u s1 ⟨x, H1, I1, rx, ex, q⟩ => ?_) ht
  subst ex
  obtain rfl : u = Value.ref C := rx
  refine PySem.W.method_cls I1.kIn ga (PySem.W.cls_value I1.kIn rd at_ rfl ?_)
  refine PySem.W.callWith_K (h₀ := X.base) I1.ok.mod.kin kp (thn (ha.run pos pins _ σ H1 _ (I1.tok _) q) fun us s3 ⟨vs, H2, I3, rv, q2⟩ => ⟨I3.kIn, ?_⟩) hst hpl
  exact run_fn F hr hb (dvs := []) .nil hx I3 rv (by rw [List.append_nil]; exact q2)
end
end Sf
namespace Sf
open PySem PySem.Spec PyProof.Rows L2 TL
/-! ### a def with defaults -/
structure FunD (K : PySem.W.Frag) (x qual : Str) (st : Stmt) (f : Addr) (fd : FuncData) : Prop where
  ex : ∃ (oc : Value) (od : Option Addr) (dV kV doc pm : Value) (an : Option Addr) (cdv ct : Value) (osl : Array (Option Value)),
    fd = PySem.W.fnOf x qual (defArgs st) (defBody st) (defScope st) dV kV doc pm an cdv ct ∧ K.lookup f = some ⟨oc, od, .func fd, osl⟩ ∧ PySem.W.codeIn K cdv qual = true
  kp : PySem.W.keepIn K (.ref f) = true
theorem FunD.ok {P : Program} {w : World} {K : PySem.W.Frag} {mg : Str → Option Value} {base : Heap} {x qual : Str} {st : Stmt} {f : Addr} {fd : FuncData} {N ps : List Str} {k : Nat} {sp : Sp} (F : FunD K x qual st f fd) (S : FnScope N ps (defScope st)) (len : ∀ vs H Q E, sp vs H Q E → vs.length = ps.length)
    (hbody : ∀ (cdv : Value) (A : Around) (outer : List Env) (s : Shared) (H : Hp) (vs : List V) (Q : VK) (E : XK), Room k (A.deeper (envOfC qual (defScope st) s.heap.objs.size f cdv)) → sp vs H Q E →
      ∃ t, PSs (cxOf CX0 P w K mg base N qual (defScope st) f cdv A outer s H E).nox (defBody st) t ∧ t { nx := fun _ H' => Q .non H', rt := Q } (start N vs) H) : FnOk P w K mg base CX0 (k + 1) f fd ps sp := by
  obtain ⟨oc, od, dV, kV, doc, pm, an, cdv, ct, osl, rfl, lk, hcd⟩ := F.ex
  refine fn_of lk hcd S len fun A outer s H vs Q E hr hsp => ?_
  obtain ⟨t, h, q⟩ := hbody cdv A outer s H vs Q E hr hsp
  exact ⟨t, h.nox, q⟩
def FbD (K : PySem.W.Frag) (x qual : Str) (st : Stmt) (f : Addr) (ps : List Str) : Prop := ∃ fd, FunD K x qual st f fd ∧ Binds K fd ps []
def Fb (K : PySem.W.Frag) (x qual : Str) (st : Stmt) (f : Addr) (ps : List Str) : Prop := ∃ fd, Fun K x qual st f fd ∧ Binds K fd ps []
theorem fbD_mk {K : PySem.W.Frag} {x qual : Str} {st : Stmt} {f T : Addr} {ps : List Str} {oc : Value} {od an : Option Addr} {osl : Array (Option Value)} {kV doc pm cdv ct : Value} (l : K.lookup f = some ⟨oc, od, .func (PySem.W.fnOf x qual (defArgs st) (defBody st) (defScope st) (.ref T) kV doc pm an cdv ct), osl⟩)
    (c : PySem.W.codeIn K cdv qual = true) (k : PySem.W.keepIn K (.ref f) = true)
    (b : ∀ (kV doc pm : Value) (an : Option Addr) (cdv ct : Value) (s : Shared) (us : List Value), K.In s.heap → us.length = ps.length → BindsTo s (PySem.W.fnOf x qual (defArgs st) (defBody st) (defScope st) (.ref T) kV doc pm an cdv ct) ⟨us, []⟩ (ps.zip us)) : FbD K x qual st f ps :=
  ⟨_, ⟨⟨oc, od, .ref T, kV, doc, pm, an, cdv, ct, osl, rfl, l, c⟩, k⟩, fun s us X hl => by
    rw [List.append_nil] at hl ⊢
    exact b kV doc pm an cdv ct s us X hl⟩
theorem se_binds {K : PySem.W.Frag} {T : Addr} {o : Obj} {v1 v2 : Value} {n : Nat} (ho : K.lookup T = some o) (hs : o.data = .seq #[v1, v2] n) (kV doc pm : Value) (an : Option Addr) (cdv ct : Value) (s : Shared) (us : List Value) (X : K.In s.heap) (hl : us.length = 3) :
    BindsTo s (PySem.W.fnOf "__init__" "SpoorError.__init__" (defArgs s_SpoorError___init__) (defBody s_SpoorError___init__) (defScope s_SpoorError___init__) (.ref T) kV doc pm an cdv ct) ⟨us, []⟩ ((["self", "word", "message"] : List Str).zip us) := by
  match us, hl with
  | [_, _, _], _ => exact PySem.W.binds_K X rfl ho hs rfl rfl
theorem fb_mk {K : PySem.W.Frag} {x qual : Str} {st : Stmt} {f : Addr} {ps : List Str} {oc : Value} {od an : Option Addr} {osl : Array (Option Value)} {kV doc pm cdv ct : Value} (l : K.lookup f = some ⟨oc, od, .func (PySem.W.fnOf x qual (defArgs st) (defBody st) (defScope st) .none kV doc pm an cdv ct), osl⟩)
    (c : PySem.W.codeIn K cdv qual = true) (k : PySem.W.keepIn K (.ref f) = true) (b : ∀ (kV doc pm : Value) (an : Option Addr) (cdv ct : Value) (us : List Value), us.length = ps.length → bindArgs (PySem.W.fnOf x qual (defArgs st) (defBody st) (defScope st) .none kV doc pm an cdv ct) ⟨us, []⟩ = pure (ps.zip us)) : Fb K x qual st f ps :=
  ⟨_, fun_mk l c k, (fun_mk l c k).binds b⟩
theorem exm_self {K : PySem.W.Frag} {C : Addr} (h0 : PySem.W.subIn K (.ref C) (.type "BaseException") = some true) (h1 : PySem.W.isClsIn K C = true) (h2 : PySem.W.typeIn K (.ref C) = some (.type "type")) (h3 : PySem.W.subIn K (.ref C) (.ref C) = some true) : PySem.W.exmOne K (.ref C) (.ref C) = some true := by
  unfold PySem.W.exmOne
  rw [if_pos (by rw [h0]; rfl)]
  unfold PySem.W.isClsIn at h1
  unfold PySem.W.kitCls
  dsimp only
  rw [h1, h2, if_pos (by simp), h3]
/-! ### the refusals -/
/-- an own refusal, the class at C, its __init__ at f -/
structure EC (K : PySem.W.Frag) (mg : Str → Option Value) (nm : Str) (C f : Addr) : Prop where
  ox : OexC K C
  iC : PySem.W.findIn K (.ref C) "__init__" = some (some (.ref f))
  tI : PySem.W.typeIn K (.ref f) = some (.type "function")
  gC : mg nm = some (.ref C)
  xf : XfC K C
  nw : PySem.W.findIn K (.ref C) "word" = some none
  te : PySem.W.exmOne K (.ref C) (.ref C) = some true
theorem oex_mk {K : PySem.W.Frag} {C : Addr} {nm q : Str} {N : Addr} {bs bm : List Value} {sn : List Str} {sub : List Value} {ab : Bool} {col : Option Bool} {dd : Option Addr} {k0 k1 k2 k3 k5 : Option Value}
    (lk : K.lookup C = some (excClassObj nm q C N bs bm true sn sub ab col dd k0 k1 k2 k3 k5 "ValueError.__new__")) (rv : PySem.HandSPX.refsVE bm = true) (sa : PySem.W.findIn K (.ref C) "__setattr__" = some (some (.builtin "object.__setattr__"))) (ex : PySem.W.subIn K (.ref C) (.type "BaseException") = some true)
    (ty : PySem.W.typeIn K (.ref C) = some (.type "type")) (kC : PySem.W.keepIn K (.ref C) = true) : OexC K C := ⟨⟨nm, q, N, bs, bm, sn, sub, ab, col, dd, k0, k1, k2, k3, k5, lk, rv⟩, sa, ex, ty, kC⟩
/-- SpoorError itself -/
structure SE (K : PySem.W.Frag) (mg : Str → Option Value) (C f : Addr) : Prop where
  gC : mg "SpoorError" = some (.ref C)
  rd : PySem.W.readsIn K C (.type "type") = true
  ga : PySem.W.specialIn K (.ref C) "__getattribute__" = some (some (.builtin "type.__getattribute__"))
  at_ : PySem.W.findCls K (.ref C) (.type "type") "__init__" = some (.val (.ref f))
  vV : PySem.W.findCls K (.type "ValueError") (.type "type") "__init__" = some (.val (.builtin "ValueError.__init__"))
  mV : mg "ValueError" = none
section
variable {P : Program} {w : World} {K : PySem.W.Frag} {mg : Str → Option Value} {base : Heap} {C CS fS : Addr}
def spSE (K : PySem.W.Frag) : Sp := fun vs H Q _ => ∃ (a C : Addr) (z m : Str), vs = [.ref a, .str z, .str m] ∧ OexC K C ∧ PySem.W.findIn K (.ref C) "word" = some none ∧ H a = some (exo a C none) ∧
  ∀ dx, H dx = none → dx ≠ a → Q .non (upd (upd H dx (exd dx [(("word" : Str), .str z)])) a (exo a C (some dx)))
theorem sc_se : FnScope ["self", "word", "message"] ["self", "word", "message"] (defScope s_SpoorError___init__) := ⟨rfl, rfl, rfl, by decide +kernel, rfl, by decide +kernel, by decide +kernel⟩
theorem ok_se {f : Addr} {fd : FuncData} {j : Nat} (F : FunD K "__init__" "SpoorError.__init__" s_SpoorError___init__ f fd) (S : SE K mg CS fS) : FnOk P w K mg base CX0 (j + 1) f fd ["self", "word", "message"] (spSE K) := by
  refine F.ok sc_se (fun vs H Q E h => ?_) (fun cdv A outer s H vs Q E hr h => ?_)
  · obtain ⟨a, C, z, m, rfl, _⟩ := h
    rfl
  · obtain ⟨a, C, z, m, rfl, ox, nw, ha, q⟩ := h
    refine ⟨_, pss_cons (ps_expr (pe_veinit (by rfl) S.mV S.vV (pa_cons (pv 0) (pa_cons (pv 2) pa_nil)))) (pss_one (ps_ost (pv 0) (pv 1))), ?_⟩
    refine ⟨_, rfl, _, rfl, a, C, _, rfl, (by show 1 ≤ 1000; decide), ox, ha, ?_⟩
    exact ⟨_, rfl, _, rfl, a, C, rfl, ox, nw, .inl ⟨ha, fun dx n ne => q dx n ne⟩⟩
/-- X.__init__(self): the word of X -/
def spEx (K : PySem.W.Frag) (z : Str) : Sp := fun vs H Q _ => ∃ (a C : Addr), vs = [.ref a] ∧ OexC K C ∧ PySem.W.findIn K (.ref C) "word" = some none ∧ H a = some (exo a C none) ∧
  ∀ dx, H dx = none → dx ≠ a → Q .non (upd (upd H dx (exd dx [(("word" : Str), .str z)])) a (exo a C (some dx)))
theorem w_mkO {H : Hp} {σ : L2.St} {W : XK} {z nm : Str} {f : Addr} (T : EC K mg nm C f) (k : ∀ (d : Addr) (H' : Hp), H d = none → H' d = some (.xd [(("word" : Str), .str z)]) → Same H H' → W (.ref C) (some d) H') : tMkO C (spEx K z) [] tNil σ H W := by
  refine ⟨by show 0 ≤ 1000; decide, fun a na => ⟨a, C, rfl, T.ox, T.nw, upd_same, fun dx n ne => ⟨rfl, dx, _, upd_same, ?_, ?_, k dx _ ?_ upd_same fun b o e => ?_⟩⟩⟩
  · rw [upd_ne ne, upd_same]
  · rw [upd_ne ne] at n
    exact n
  · rw [upd_ne ne] at n
    exact n
  · rw [upd_ne ne] at n
    rw [upd_ne (ne_of_none e n), del_ne (ne_of_none e na), upd_ne (ne_of_none e na), upd_ne (ne_of_none e n), upd_ne (ne_of_none e na)]
    exact e
end
end Sf
namespace Sf
open PySem PySem.Spec PyProof.Rows L2 TL
/-! ### own refusals under LookupError -/
abbrev leT : List Value := [.type "LookupError", .type "Exception", .type "BaseException", .type "object"]
structure OexL (K : PySem.W.Frag) (C : Addr) : Prop where
  ini : PySem.W.excInitIn K C leT "LookupError.__new__" = true
  ovr : PySem.W.excOver K C leT = true
  dct : PySem.W.hasDictIn K C = true
  sa : PySem.W.findIn K (.ref C) "__setattr__" = some (some (.builtin "object.__setattr__"))
  exC : PySem.W.subIn K (.ref C) (.type "BaseException") = some true
  tyC : PySem.W.typeIn K (.ref C) = some (.type "type")
  kC : PySem.W.keepIn K (.ref C) = true
theorem taker_no {K : PySem.W.Frag} {C : Addr} {f : Str} (h : PySem.W.findIn K (.ref C) f = some none) : PySem.W.takerIn K C f = some none := by
  unfold PySem.W.takerIn
  rw [h]
  rfl
section
variable {X : Cx} {pins : List (Addr × Obj)} {σ : L2.St} {H : Hp} {s : Shared} {a C dx : Addr} {f : Str} {y : V} {u : Value} {fs : List (Str × V)} {Q : Unit → Shared → Prop} {E : Value → Shared → Prop} {A : Around}
theorem lst_new (T : OexL X.K C) (I : Inv X pins σ H s) (e : H a = some (exo a C none)) (hno : PySem.W.findIn X.K (.ref C) f = some none) (ry : RelV y u)
    (h : ∀ dx s', H dx = none → dx ≠ a → Inv X pins σ (upd (upd H dx (exd dx [(f, y)])) a (exo a C (some dx))) s' → Q () s') : wpAny (model X.prog X.w) A (setAttr (.ref a) f u) Q E s := by
  obtain ⟨t1, ho⟩ := exo_at I.hok e
  obtain ⟨cd, hc, hd⟩ := PySem.W.any_some T.dct
  obtain ⟨hp, g, d, t, os⟩ := s
  have na : a < hp.objs.size := Heap.lt_size ho
  have nd : H hp.objs.size = none := I.hok.fresh (Nat.le_refl _)
  have ne : hp.objs.size ≠ a := Nat.ne_of_gt na
  refine PySem.W.set_plain I.kIn (ox := PySem.W.excObj C t1 none .none) (od := none) ⟨ho, rfl, rfl, trivial⟩ T.sa ?_
  refine PySem.W.osa_openX (od := none) PySem.F.store_LookupError I.kIn ⟨ho, rfl, rfl, trivial⟩ T.ovr (taker_no hno) fun b => ?_
  refine wpAny_bind (wpAny_pure (wpAny_bind (PySem.W.instanceDict_exc (t := t1) (c2 := .none) ho (PySem.W.looks_clsIn I.kIn hc) hd ?_)))
  show wpAny _ _ (PySem.Builtin.ObjectAttr.storeInDict hp.objs.size _ _ _) _ _ _
  have k1 : ∀ b o, hp.get? b = some o → (hp.push (PySem.W.dictOf [] 0)).get? b = some o := fun b o z => Heap.get?_push_of_some _ z
  have hD0 : (hp.push (PySem.W.dictOf [] 0)).get? hp.objs.size = some (PySem.W.dictOf [] 0) := Heap.get?_push_at rfl rfl
  have hN0 : (hp.push (PySem.W.dictOf [] 0)).Ns hp.objs.size (fun _ => none) := ⟨_, #[], _, hD0, rfl, fun e he => absurd he (by simp), fun _ => rfl⟩
  have I1 : Inv X pins σ (upd H hp.objs.size (exd hp.objs.size [])) ⟨hp.push (PySem.W.dictOf [] 0), g, d, t, os⟩ := I.laid (t' := t) (a := hp.objs.size) (o := exd hp.objs.size []) k1 (Nat.le_refl _) (exd_ok (Heap.Ns1.of_empty hN0) fun _ => True.intro)
  have hx1 : ((hp.push (PySem.W.dictOf [] 0)).update a fun o => { o with dict := some hp.objs.size }).get? a = some (PySem.W.excObj C t1 (some hp.objs.size) .none) := Heap.get?_update_self _ (k1 _ _ ho) rfl
  have ko : ∀ b u, b ≠ a → (hp.push (PySem.W.dictOf [] 0)).get? b = some u → ((hp.push (PySem.W.dictOf [] 0)).update a fun o => { o with dict := some hp.objs.size }).get? b = some u := fun b u hb z => (Heap.get?_update_ne _ _ _ _ hb).trans z
  have I2 := I1.write (t' := t) (x := a) (e := a) (o := exo a C (some hp.objs.size)) (by rw [upd_ne (Ne.symm ne), e]; exact True.intro) (.inl rfl) ko ⟨_, hx1⟩ (exo_ok hx1)
  have hN1 : ((hp.push (PySem.W.dictOf [] 0)).update a fun o => { o with dict := some hp.objs.size }).Ns hp.objs.size (fun _ => none) := ⟨_, #[], _, ko _ _ ne hD0, rfl, fun e he => absurd he (by simp), fun _ => rfl⟩
  refine PySem.HandSPX.store_in_new hN1 fun h' tk' hn hs => ?_
  have hd' : ∃ o, h'.get? hp.objs.size = some o := by
    obtain ⟨o, _, _, e', _⟩ := hn
    exact ⟨o, e'⟩
  have I3 := I2.write (t' := tk') (x := hp.objs.size) (e := hp.objs.size) (o := exd hp.objs.size [(f, y)]) (by rw [upd_ne ne, upd_same]; exact True.intro) (.inl rfl) (fun b u hb z => (hs.2 b hb).trans z) hd' (exd_ok hn (relO_put (fs := []) (mA := fun _ => none) ry fun g => True.intro))
  refine h hp.objs.size _ nd ne ?_
  have ee : upd (upd (upd H hp.objs.size (exd hp.objs.size [])) a (exo a C (some hp.objs.size))) hp.objs.size (exd hp.objs.size [(f, y)]) = upd (upd H hp.objs.size (exd hp.objs.size [(f, y)])) a (exo a C (some hp.objs.size)) := by
    funext b
    by_cases h1 : b = a
    · subst h1
      rw [upd_ne (Ne.symm ne), upd_same, upd_same]
    · by_cases h2 : b = hp.objs.size
      · subst h2
        rw [upd_same, upd_ne h1, upd_same]
      · rw [upd_ne h2, upd_ne h1, upd_ne h2, upd_ne h1, upd_ne h2]
  rw [ee] at I3
  exact I3
theorem lst_old (T : OexL X.K C) (I : Inv X pins σ H s) (e : H a = some (exo a C (some dx))) (ed : H dx = some (exd dx fs)) (hl : fs.length ≤ 900) (hno : PySem.W.findIn X.K (.ref C) f = some none) (ry : RelV y u)
    (h : ∀ s', Inv X pins σ (upd H dx (exd dx ((f, y) :: fs))) s' → Q () s') : wpAny (model X.prog X.w) A (setAttr (.ref a) f u) Q E s := by
  obtain ⟨t1, ho⟩ := exo_at I.hok e
  obtain ⟨mA, hns, rel⟩ := exd_at I.hok ed
  obtain ⟨cd, hc, hd⟩ := PySem.W.any_some T.dct
  have hw := within_of rel
  obtain ⟨hp, g, d, t, os⟩ := s
  obtain ⟨oD, _, _, hoD, _, _⟩ := hns.count hw
  refine PySem.W.set_plain I.kIn (ox := PySem.W.excObj C t1 (some dx) .none) (od := some oD) ⟨ho, rfl, rfl, hoD⟩ T.sa ?_
  refine PySem.W.osa_openX (od := some oD) PySem.F.store_LookupError I.kIn ⟨ho, rfl, rfl, hoD⟩ T.ovr (taker_no hno) fun b => ?_
  refine wpAny_bind (wpAny_pure (wpAny_bind (wpAny_bind (wpAny_loadPart ho (wpAny_bind ((PySem.W.looks_clsIn I.kIn hc).at ?_))))))
  rw [hd]
  refine wpAny_pure (a := some dx) ?_
  refine PySem.OEX.store_in_old hns hw (by rw [List.length_map]; omega) fun h' tk' hn hs => ?_
  have hd' : ∃ o, h'.get? dx = some o := by
    obtain ⟨o, _, _, e', _⟩ := hn
    exact ⟨o, e'⟩
  exact h _ (I.write (t' := tk') (x := dx) (e := dx) (o := exd dx ((f, y) :: fs)) (by rw [ed]; exact True.intro) (.inl rfl) (fun b u hb z => (hs.2 b hb).trans z) hd' (exd_ok hn (relO_put ry rel)))
theorem linit_ok {us : List Value} {Q : Value → Shared → Prop} (T : OexL X.K C) (I : Inv X pins σ H s) (e : H a = some (exo a C none)) (hl : us.length ≤ sizeLine) (h : ∀ s', Inv X pins σ H s' → Q .none s') :
    wpAny (model X.prog X.w) A (call (.builtin "LookupError.__init__") (.ref a :: us)) Q E s := by
  obtain ⟨nm, N', qn, bs, bm, hdct, sn, sub, ab, col, dd, k0, k1, k2, k3, k5, hC, hT⟩ := PySem.W.excInit_of I.kIn T.ini
  obtain ⟨t1, ho⟩ := exo_at I.hok e
  obtain ⟨hp, g, d, t, os⟩ := s
  refine wpAny_call (PySem.HandSPX.init_base PySem.F.excBase_LookupError hT hC ho hl fun h' t2 k hx => ?_)
  have J := I.write (t' := t) (x := a) (e := a) (o := exo a C none) (by rw [e]; exact True.intro) (.inl rfl) k ⟨_, hx⟩ (exo_ok hx)
  have eu : upd H a (exo a C none) = H := funext fun b => by
    by_cases hb : b = a
    · rw [hb, upd_same, e]
    · rw [upd_ne hb]
  rw [eu] at J
  exact h _ J
end
/-- LookupError.__init__(self, ..) -/
def tLeI (K : PySem.W.Frag) (ta : TA) : TE := fun σ H Q => ta σ H fun vs H1 => ∃ (a C : Addr) (ws : List V), vs = .ref a :: ws ∧ ws.length ≤ 1000 ∧ OexL K C ∧ H1 a = some (exo a C none) ∧ Q .non H1
/-- self.f = e -/
def tLst (K : PySem.W.Frag) (f : Str) (to te : TE) : TS := fun D σ H => te σ H fun y H1 => to σ H1 fun x H2 => ∃ a C : Addr, x = .ref a ∧ OexL K C ∧ PySem.W.findIn K (.ref C) f = some none ∧
  ((H2 a = some (exo a C none) ∧ ∀ dx, H2 dx = none → dx ≠ a → D.nx σ (upd (upd H2 dx (exd dx [(f, y)])) a (exo a C (some dx)))) ∨
    ∃ (dx : Addr) (fs : List (Str × V)), H2 a = some (exo a C (some dx)) ∧ H2 dx = some (exd dx fs) ∧ fs.length ≤ 900 ∧ D.nx σ (upd H2 dx (exd dx ((f, y) :: fs))))
theorem typ_LE : typeOf (.type "LookupError") = pure (.type "type") := by kernel_rfl
section
variable {X : Cx} {o e : Expr} {es : List Expr} {to te : TE} {ta : TA} {f : Str} {p p' p1 p2 pos : Pos}
theorem pe_leinit {pl : Sem Bool} (hg : Gl X "LookupError") (hm : X.mg "LookupError" = none) (vV : PySem.W.findCls X.K (.type "LookupError") (.type "type") "__init__" = some (.val (.builtin "LookupError.__init__"))) (ha : PA X (e :: es) ta)
    (hc : eval (.Call (.Attribute (.Name "LookupError" p1) "__init__" p2) (e :: es) [] pos) X.env = (do
      let ov ← eval (.Name "LookupError" p1) X.env
      standAt p2.atName
      let (f, first) ← holding [ov] (getMethod ov "__init__" pl)
      callWith pos f first (backTo pos (starEach (e :: es) X.env)) (backToKw pos (keywordEach [] X.env))) := by rfl)
    (he : starEach (e :: es) X.env = (false, eval e X.env) :: starEach es X.env := by rfl) (hpl : (backTo pos (starEach es X.env)).any (·.1) = false := by rfl) :
    PE X (.Call (.Attribute (.Name "LookupError" p1) "__init__" p2) (e :: es) [] pos) (tLeI X.K ta) := by
  refine ⟨fun pins s σ H Q I h => ?_⟩
  refine PySem.W.methodCall_KW (ld_blt I hg hm PyProof.Rows.Boot.«LookupError» ?_ (by decide) (by decide)) hc
  obtain ⟨m, fr⟩ := I.fr
  refine PySem.W.method_type fr I.ok.mod.kin typ_LE (by decide +kernel) vV (by decide +kernel) ?_
  show wpAny _ _ (callWith pos (Value.builtin "LookupError.__init__") [] (backTo pos (starEach (e :: es) X.env)) []) _ _ _
  refine PyProof.Rows.callWith_method1 (thn (ha.run pos pins _ σ H _ (I.tok _) h) fun us s1 ⟨vs, H1, I1, r1, a, C, ws, ev, hl, T, ea, q⟩ => ?_) he hpl
  subst ev
  cases r1 with
  | @cons _ u0 _ ur ra rw' =>
    obtain rfl : u0 = Value.ref a := ra
    have hlen : ur.length ≤ sizeLine := by
      rw [← Paired.length rw', sizeLine_eq]
      omega
    exact linit_ok T I1 ea hlen fun s' J => ⟨.non, H1, J, rfl, q⟩
theorem ps_lst (ho : PE X o to) (he : PE X e te) (hs : swapsWith e (some (.Attribute o f p')) pos.line X.env = pure false := by rfl) : PS X (.Assign [.Attribute o f p'] e pos) (tLst X.K f to te) := by
  refine ⟨fun pins s σ H D I h => ?_⟩
  refine plainObj_wpAny_Assign_Attribute (thn (he.run pins s σ H _ I h) fun v s1 ⟨y, H1, I1, r1, q1⟩ => thn (ho.run pins s1 σ H1 _ I1 q1) fun u s2 ⟨x, H2, I2, r2, a, C, ex, T, hno, q⟩ => ?_) hs
  subst ex
  obtain rfl : u = Value.ref a := r2
  rcases q with ⟨ea, q⟩ | ⟨dx, fs, ea, ed, hl, q⟩
  · exact lst_new T I2 ea hno r1 fun dx s' n ne J => ⟨σ, _, J, q dx n ne⟩
  · exact lst_old T I2 ea ed hl hno r1 fun s' J => ⟨σ, _, J, q⟩
theorem pmk_oexL {CX : CXT} {x : Str} {C fI : Addr} {k : Nat} {fd : FuncData} {ps : List Str} {sp : Sp} (T : OexL X.K C) (iC : PySem.W.findIn X.K (.ref C) "__init__" = some (some (.ref fI))) (tI : PySem.W.typeIn X.K (.ref fI) = some (.type "function"))
    (F1 : FnOk X.prog X.w X.K X.mg X.base CX k fI fd ps sp) (hr : Room (k + 1) X.A) (hb : Binds X.K fd ps []) (hx : Passes CX X (fun _ _ _ => False)) (hg : Gl X x) (hm : X.mg x = some (.ref C)) (ha : PA X (e :: es) ta)
    (hdb : (x == ("__debug__" : Str)) = false := by decide) (he : starEach (e :: es) X.env = (false, eval e X.env) :: starEach es X.env := by rfl) (hpl : (backTo pos (starEach es X.env)).any (·.1) = false := by rfl) :
    PMk X (.Call (.Name x p) (e :: es) [] pos) (tMkO C sp [] ta) := by
  intro pins s σ H Q I h
  refine wpAny_Call_Name_kw (ld_glob I hg hm ?_ hdb)
  refine PySem.W.callWith_K (h₀ := X.base) I.ok.mod.kin T.kC (thn (ha.run pos pins s σ H _ I h) fun us s1 ⟨vs, H1, I1, r1, hz, q1⟩ => ⟨I1.kIn, ?_⟩) he hpl
  show wpAny _ _ (call (.ref C) us) _ _ _
  obtain ⟨nm, N', qn, bs, bm, hdct, sn, sub, ab, col, dd, k0, k1, k2, k3, k5, hC, hT⟩ := PySem.W.excInit_of I1.kIn T.ini
  obtain ⟨hp, g, dr, tk, os⟩ := s1
  have hn : H1 (hp.objs.size + 1) = none := I1.hok.fresh (Nat.le_succ _)
  have hq := q1 (hp.objs.size + 1) hn
  have kk : ∀ b o, hp.get? b = some o → ((hp.push (PySem.W.kdv_tup us)).push (PySem.HandSPX.excO C hp.objs.size)).get? b = some o := fun b o z => Heap.get?_push_of_some _ (Heap.get?_push_of_some _ z)
  have hget : ((hp.push (PySem.W.kdv_tup us)).push (PySem.HandSPX.excO C hp.objs.size)).get? (hp.objs.size + 1) = some (PySem.HandSPX.excO C hp.objs.size) := by heap_get
  have I2 : Inv X pins σ (upd H1 (hp.objs.size + 1) (exo (hp.objs.size + 1) C none)) ⟨(hp.push (PySem.W.kdv_tup us)).push (PySem.HandSPX.excO C hp.objs.size), g, dr, tk, os⟩ :=
    I1.laid (t' := tk) (a := hp.objs.size + 1) (o := exo (hp.objs.size + 1) C none) kk (Nat.le_succ _) (exo_ok hget)
  have r2 : Vals (V.ref (hp.objs.size + 1) :: (vs ++ [])) (Value.ref (hp.objs.size + 1) :: us) := by
    rw [List.append_nil]
    exact .cons rfl r1
  have hl : (Value.ref (hp.objs.size + 1) :: us ++ []).length = ps.length := by
    rw [List.append_nil]
    have z := r2.length
    rw [F1.len _ _ _ _ hq] at z
    exact z.symm
  have hus : us.length ≤ sizeLine := by
    rw [← Paired.length r1, sizeLine_eq]
    omega
  have bb := hb _ (Value.ref (hp.objs.size + 1) :: us) I2.kIn hl
  rw [List.append_nil] at bb
  refine wpAny_call (PySem.HandSPX.call_own PySem.F.excBase_LookupError hT hC (PySem.W.looks_findIn I1.kIn iC) (fun self => PySem.W.bind_fn I1.kIn self tI) hus
    (codeAny_mono (F1.run _ X.stack _ _ ⟨Value.ref (hp.objs.size + 1) :: us, []⟩ (Value.ref (hp.objs.size + 1) :: us) _ _ (fun _ _ _ => False) (hr.make C us []) (I2.env0.make C us []) bb r2 hq) fun r s' hq' => ?_))
  match r, hq' with
  | .error er, hq' => exact hx pins σ _ _ er s' I2 hq'
  | .ok (.ret u), hq' =>
    obtain ⟨v, H2, os2, bare2, un2, hok2, rv, ev, d, fs, ea, ed, hd1, q2⟩ := hq'
    subst ev
    obtain ⟨h2, g2, d2, t2, os'⟩ := s'
    exact ⟨rv, mk_end (raises_own T.exC T.tyC) I1 (Nat.le_succ _) kk un2 hok2 os2 bare2 ea ed hd1 q2⟩
  | .ok .next, hq' => exact False.elim hq'
  | .ok .brk, hq' => exact False.elim hq'
  | .ok .cont, hq' => exact False.elim hq'
end
/-! ### isinstance of a caught refusal that has a dict -/
def rIsX (K : PySem.W.Frag) (D a : Addr) (cls : Value) (d : Option Addr) : List V → Hp → VK → Prop := fun xs H Q => ∃ (c : V) (cv : Value) (b : Bool) (dd : Addr) (fs : List (Str × V)), cls = .ref D ∧ d = some dd ∧ xs = [.ref a, c] ∧ (∀ u, RelV c u → u = cv) ∧ H dd = some (.xd fs) ∧ PySem.W.kitOne K (.ref D) cv = some b ∧ Q (.bl b) H
theorem call_isX {X : Cx} {a D : Addr} {cls : Value} {d : Option Addr} {oe : Obj} {pn : List (Addr × Obj)} (C : L2.ExcC X.K D) (hz : Zc cls d oe) (hf : ∃ vs, oe.data = .fields vs) : CallR (X.suite a ((a, oe) :: pn)) (.builtin "isinstance") (rIsX X.K D a cls d) := by
  intro pins s σ H xs us Q I r h
  obtain ⟨c, cv, b, dd, fs, rfl, rfl, rfl, hcv, ed, e, q⟩ := h
  match us, r with
  | [_, _], .cons rx (.cons rt .nil) =>
    cases rx
    have ec := hcv _ rt
    subst ec
    obtain ⟨hget, _⟩ := I.pin (a, oe) (List.mem_append_left _ List.mem_cons_self)
    obtain ⟨vs, hv⟩ := hf
    have hx : ObjOk X.prog X.w H s.heap dd (.xd fs) := I.hok dd _ ed
    obtain ⟨mA, hns, hr⟩ := hx
    obtain ⟨od, ho, hl⟩ := lookIn_ns hns
    have J : PySem.W.InstAt s.heap a oe D (some od) := ⟨hget, hz.1, by unfold PySem.W.notCls; rw [hv] <;> rfl, by rw [hz.2]; exact ho⟩
    have hcl : (PySem.W.clsIn X.K D).isSome = true := by
      obtain ⟨cd, hc, _⟩ := PySem.W.any_some C.hd
      rw [hc]
      rfl
    exact PySem.W.kia_one (PySem.W.kitx_exc hcl C.hg C.hk C.hs C.ha C.hn C.ht C.hm) I.kIn J e (fun z => nomatch z) fun tk => ⟨.bl b, H, I.kept (t' := tk) fun _ _ z => z, rfl, q⟩
theorem kit_ref {K : PySem.W.Frag} {C D : Addr} {b : Bool} (h0 : (D == C) = false) (h1 : PySem.W.isClsIn K C = true) (h2 : PySem.W.typeIn K (.ref C) = some (.type "type")) (h3 : PySem.W.subIn K (.ref D) (.ref C) = some b) : PySem.W.kitOne K (.ref D) (.ref C) = some b := by
  unfold PySem.W.isClsIn at h1
  unfold PySem.W.kitOne
  rw [if_neg (by intro e; have z := Value.ref.inj (eq_of_beq e); subst z; rw [beq_self_eq_true] at h0; cases h0)]
  unfold PySem.W.kitCls
  dsimp only
  rw [h1, h2, if_pos (by simp), h3]
theorem kit_bty {K : PySem.W.Frag} {D : Addr} {T : String} {b : Bool} (h1 : PySem.W.kitMeta T = true) (h3 : PySem.W.subIn K (.ref D) (.type T) = some b) : PySem.W.kitOne K (.ref D) (.type T) = some b := by
  unfold PySem.W.kitOne
  rw [if_neg (by intro e; have z := eq_of_beq e; cases z)]
  unfold PySem.W.kitCls
  dsimp only
  rw [if_pos h1, h3]
/-! ### the refusals that say what is not there -/
/-- an own refusal under LookupError, the class at C, its __init__ at f -/
structure EL (K : PySem.W.Frag) (mg : Str → Option Value) (nm : Str) (C f : Addr) : Prop where
  ox : OexL K C
  iC : PySem.W.findIn K (.ref C) "__init__" = some (some (.ref f))
  tI : PySem.W.typeIn K (.ref f) = some (.type "function")
  gC : mg nm = some (.ref C)
  xf : XfC K C
  nw : PySem.W.findIn K (.ref C) "word" = some none
  te : PySem.W.exmOne K (.ref C) (.ref C) = some true
/-- Lacking itself -/
structure LE (K : PySem.W.Frag) (mg : Str → Option Value) (C f : Addr) : Prop where
  gC : mg "Lacking" = some (.ref C)
  rd : PySem.W.readsIn K C (.type "type") = true
  ga : PySem.W.specialIn K (.ref C) "__getattribute__" = some (some (.builtin "type.__getattribute__"))
  at_ : PySem.W.findCls K (.ref C) (.type "type") "__init__" = some (.val (.ref f))
  vV : PySem.W.findCls K (.type "LookupError") (.type "type") "__init__" = some (.val (.builtin "LookupError.__init__"))
  mV : mg "LookupError" = none
section
variable {P : Program} {w : World} {K : PySem.W.Frag} {mg : Str → Option Value} {base : Heap} {C CS fS : Addr}
def spLE (K : PySem.W.Frag) : Sp := fun vs H Q _ => ∃ (a C : Addr) (z m : Str), vs = [.ref a, .str z, .str m] ∧ OexL K C ∧ PySem.W.findIn K (.ref C) "word" = some none ∧ H a = some (exo a C none) ∧
  ∀ dx, H dx = none → dx ≠ a → Q .non (upd (upd H dx (exd dx [(("word" : Str), .str z)])) a (exo a C (some dx)))
theorem sc_le : FnScope ["self", "word", "message"] ["self", "word", "message"] (defScope s_Lacking___init__) := ⟨rfl, rfl, rfl, by decide +kernel, rfl, by decide +kernel, by decide +kernel⟩
theorem ok_le {f : Addr} {fd : FuncData} {j : Nat} (F : FunD K "__init__" "Lacking.__init__" s_Lacking___init__ f fd) (S : LE K mg CS fS) : FnOk P w K mg base CX0 (j + 1) f fd ["self", "word", "message"] (spLE K) := by
  refine F.ok sc_le (fun vs H Q E h => ?_) (fun cdv A outer s H vs Q E hr h => ?_)
  · obtain ⟨a, C, z, m, rfl, _⟩ := h
    rfl
  · obtain ⟨a, C, z, m, rfl, ox, nw, ha, q⟩ := h
    refine ⟨_, pss_cons (ps_expr (pe_leinit (by rfl) S.mV S.vV (pa_cons (pv 0) (pa_cons (pv 2) pa_nil)))) (pss_one (ps_lst (pv 0) (pv 1))), ?_⟩
    refine ⟨_, rfl, _, rfl, a, C, _, rfl, (by show 1 ≤ 1000; decide), ox, ha, ?_⟩
    exact ⟨_, rfl, _, rfl, a, C, rfl, ox, nw, .inl ⟨ha, fun dx n ne => q dx n ne⟩⟩
theorem le_binds {K : PySem.W.Frag} {T : Addr} {o : Obj} {v1 v2 : Value} {n : Nat} (ho : K.lookup T = some o) (hs : o.data = .seq #[v1, v2] n) (kV doc pm : Value) (an : Option Addr) (cdv ct : Value) (s : Shared) (us : List Value) (X : K.In s.heap) (hl : us.length = 3) :
    BindsTo s (PySem.W.fnOf "__init__" "Lacking.__init__" (defArgs s_Lacking___init__) (defBody s_Lacking___init__) (defScope s_Lacking___init__) (.ref T) kV doc pm an cdv ct) ⟨us, []⟩ ((["self", "word", "message"] : List Str).zip us) := by
  match us, hl with
  | [_, _, _], _ => exact PySem.W.binds_K X rfl ho hs rfl rfl
/-- X.__init__(self, number) -/
def spExL (K : PySem.W.Frag) (z fl : Str) : Sp := fun vs H Q _ => ∃ (a C : Addr) (i : Int), vs = [.ref a, .int i] ∧ i.natAbs.log2 < 1920 ∧ OexL K C ∧ PySem.W.findIn K (.ref C) "word" = some none ∧ PySem.W.findIn K (.ref C) fl = some none ∧ H a = some (exo a C none) ∧
  ∀ (dx : Addr) (H' : Hp), H dx = none → dx ≠ a → H' a = some (exo a C (some dx)) → H' dx = some (exd dx [(fl, .int i), (("word" : Str), .str z)]) → (∀ b, b ≠ a → b ≠ dx → H' b = H b) → Q .non H'
def kMkL (C : Addr) (sp : Sp) (W : XK) : List V → Hp → Prop := fun vs H1 => vs.length ≤ 1000 ∧ ∀ a, H1 a = none → sp (.ref a :: (vs ++ [])) (upd H1 a (exo a C none))
  (fun v H2 => v = .non ∧ ∃ (d : Addr) (fs : List (Str × V)), H2 a = some (exo a C (some d)) ∧ H2 d = some (exd d fs) ∧ H1 d = none ∧ W (.ref C) (some d) (upd (del H2 a) d (.xd fs))) (fun _ _ _ => False)
theorem w_mkOL {H : Hp} {σ : L2.St} {W : XK} {sp : Sp} {ta : TA} (q : ta σ H (kMkL C sp W)) : tMkO C sp [] ta σ H W := q
theorem w_kMkL {H : Hp} {W : XK} {z fl nm : Str} {f : Addr} {i : Int} (T : EL K mg nm C f) (nf : PySem.W.findIn K (.ref C) fl = some none) (hi : i.natAbs.log2 < 1920)
    (k : ∀ (d : Addr) (H' : Hp), H d = none → H' d = some (.xd [(fl, .int i), (("word" : Str), .str z)]) → Same H H' → W (.ref C) (some d) H') : kMkL C (spExL K z fl) W [.int i] H := by
  refine ⟨by show 1 ≤ 1000; decide, fun a na => ⟨a, C, i, rfl, hi, T.ox, T.nw, nf, upd_same, fun dx H' n ne e1 e2 e3 => ?_⟩⟩
  rw [upd_ne ne] at n
  refine ⟨rfl, dx, _, e1, e2, n, k dx _ n upd_same fun b o e => ?_⟩
  have h1 : b ≠ dx := ne_of_none e n
  have h2 : b ≠ a := ne_of_none e na
  rw [upd_ne h1, del_ne h2, e3 b h2 h1, upd_ne h2]
  exact e
theorem sc_npx : FnScope ["self", "place"] ["self", "place"] (defScope s_NoPlace___init__) := ⟨rfl, rfl, rfl, by decide +kernel, rfl, by decide +kernel, by decide +kernel⟩
theorem ok_npx {f : Addr} {fd fdS : FuncData} (F : Fun K "__init__" "NoPlace.__init__" s_NoPlace___init__ f fd) (S : LE K mg CS fS) (FS : FunD K "__init__" "Lacking.__init__" s_Lacking___init__ fS fdS) (bS : Binds K fdS ["self", "word", "message"] []) : FnOk P w K mg base CX0 2 f fd ["self", "place"] (spExL K (Str.ofString "noplace") "place") := by
  refine F.ok sc_npx (fun vs H Q E h => ?_) (fun cdv A outer s H vs Q E hr h => ?_)
  · obtain ⟨a, C, i, rfl, _⟩ := h
    rfl
  · obtain ⟨a, C, i, rfl, hi, ox, nw, nf, ha, q⟩ := h
    have GS : FnOk P w K mg base CX0 1 fS fdS ["self", "word", "message"] (spLE K) := ok_le FS S
    refine ⟨_, pss_cons (ps_expr (pe_clsFn (pe_glob (v := .ref CS) (by rfl) S.gC rfl) S.rd S.ga S.at_ GS hr FS.kp bS pass0 (pa_cons (pv 0) (pa_cons pe_str (pa_cons (pe_joined (.cons pe_str (.cons (pe_fmt (pv 1)) .nil))) pa_nil))))) (pss_one (ps_lst (pv 0) (pv 1))), ?_⟩
    have l1 : (toString i : Str).length ≤ 1921 := int_text_len_1921 hi
    refine ⟨rfl, _, rfl, ?_⟩
    refine ⟨_, rfl, by decide +kernel, _, rfl, .inr ⟨i, rfl, hi, _, rfl, ?_, ?_⟩⟩
    · rw [len_app, len_app]
      have : (Str.empty.length + (Str.ofString "there is no place ").length) = 18 := by decide +kernel
      exact line_of (by omega)
    · refine ⟨a, C, _, _, rfl, ox, nw, ha, fun dx n ne => ?_⟩
      refine ⟨_, rfl, _, rfl, a, C, rfl, ox, nf, .inr ⟨dx, [(("word" : Str), .str (Str.ofString "noplace"))], upd_same, by rw [upd_ne ne, upd_same], by show 1 ≤ 900; decide, ?_⟩⟩
      refine q dx _ n ne (by rw [upd_ne ne.symm, upd_same]) upd_same fun b h1 h2 => ?_
      rw [upd_ne h2, upd_ne h1, upd_ne h2]
end
end Sf
namespace Sf
open PySem PySem.Spec PyProof.Rows L2 TL
set_option maxHeartbeats 300000
/-! ### the keys of a dict, drawn one after another -/
abbrev keyOb (d : Addr) (i n ep : Nat) : Obj := DVw.itOb "dict_keyiterator" #[.ref d, .int i 0, .int n 0, .int ep 0]
theorem kndKey {prog : Program} {w : World} : DVw.Knd prog w "dict_keyiterator" 0 := ⟨fun h q => wpAny_typeNameOfWhole_keyiter h q, fun h q => wpAny_isOneOf_keyiter h q, by first | decide | rfl, by first | decide | rfl⟩
theorem vNext_key : Builtin.«dict_keyiterator.__next__» = DVw.vNext "dict_keyiterator.__next__" := by kernel_rfl
section
variable {prog : Program} {w : World} {A : Around} {E : Value → Shared → Prop} {s : Shared}
theorem draws_keys (hh : A.handled = none) {it d : Addr} {od : Obj} {es : Array DictEntry} {ep : Nat} (hne : d ≠ it) (hdd : od.data = .dict es ep) :
    Draws prog w A it [it, d] es.size (fun i v => ∃ e, es[i]? = some e ∧ v = e.key) (fun i h => h.get? it = some (keyOb d i es.size ep) ∧ h.get? d = some od) where
  live := fun _ _ st => ⟨_, st.1⟩
  frame := fun _ _ _ st hk => ⟨hk it (by simp) _ st.1, hk d (by simp) _ st.2⟩
  item := fun i s Q E hi st hQ => by
    have ht : s.TypeIs (.ref it) "dict_keyiterator" := DVw.itOb_is st.1
    unfold Builtin.SmallTypes.nextOf
    refine wpAny_bind (wpAny_callSpecial?_slot (name := Str.ofString "__next__") ht F.slot_dict_keyiterator_next (wpAny_call_entry F.slot_dict_keyiterator_next ht F.entry_dict_keyiterator_next ?_ (F.args_dict_keyiterator_next_1 _)))
    rw [vNext_key]
    refine DVw.vStep kndKey st.1 rfl (by simp) st.2 hdd rfl (Array.getElem?_eq_getElem hi) fun h' hi' sb => ?_
    unfold DVw.vPick
    refine wpAny_bind (wpAny_isOneOf_keyiter (s := { s with heap := h' }) (DVw.itOb_is hi') ?_)
    refine wpAny_pure (wpAny_pure (hQ _ h' s.toks ⟨_, Array.getElem?_eq_getElem hi, rfl⟩ ⟨?_, (sb.2 d hne).trans st.2⟩ sb))
    exact hi'
  done := fun s Q E st hE => by
    have ht : s.TypeIs (.ref it) "dict_keyiterator" := DVw.itOb_is st.1
    unfold Builtin.SmallTypes.nextOf
    refine wpAny_bind (wpAny_callSpecial?_slot (name := Str.ofString "__next__") ht F.slot_dict_keyiterator_next (wpAny_call_entry F.slot_dict_keyiterator_next ht F.entry_dict_keyiterator_next ?_ (F.args_dict_keyiterator_next_1 _)))
    rw [vNext_key]
    exact DVw.vStop hh kndKey st.1 rfl (by simp) st.2 hdd rfl (Array.getElem?_eq_none (Nat.le_refl _)) fun h' e oe eb he hc => hE h' e eb ⟨oe, he, hc⟩
theorem begins_dict {d : Addr} {od : Obj} {es : Array DictEntry} {ep : Nat} (hd : (d == sysModules) = false) (hx : od.ExactDict) (hdd : od.data = .dict es ep) : Begins (.ref d) (keyOb d 0 es.size ep) fun h => h.get? d = some od where
  iter := fun prog w A E s Q ho h => iter_keys hd ho hx hdd h
  keeps := fun h h' x hk => hk d _ x
  free := rfl
set_option maxHeartbeats 600000 in
theorem meets_enum1 {v : Value} {o : Obj} {Hh : Heap → Prop} (B : Begins v o Hh) :
    Meets (Builtin.«enumerate.__new__» ⟨[.type "enumerate", v], []⟩) (fun _ R s => Hh s.heap ∧
      R (.ok (.ret (.ref (s.heap.push o).objs.size))) { s with heap := (s.heap.push o).push { cls := .type "enumerate", data := .fields #[.none, .bool false, .ref s.heap.objs.size, rawInt 0, .none, .none] } }) :=
  .of_wp fun prog w A R s h => by
    obtain ⟨hp, g, d, tk, os⟩ := s
    obtain ⟨h1, h⟩ := h
    have hsub := PySem.sub_enumerate
    have q1 : ∀ {A' : Around} {E : Value → Shared → Prop} {Q : Value → Shared → Prop}, Q (.ref hp.objs.size) ⟨hp.push o, g, d, tk, os⟩ → wpAny (model prog w) A' (pyIter v) Q E ⟨hp, g, d, tk, os⟩ := fun q => B.iter prog w _ _ ⟨hp, g, d, tk, os⟩ _ h1 q
    wp_walk using q1
    refine wpAny_stack_any fun st => wpAny_pure ?_
    split
    · rename_i c _ _ _ _ _
      cases (c == Value.type "enumerate")
      · wp_walk using q1
        exact ⟨_, rfl, h⟩
      · wp_walk using q1
        exact ⟨_, rfl, h⟩
    · wp_walk using q1
      exact ⟨_, rfl, h⟩
theorem call_enum1 {v : Value} {o : Obj} {Hh : Heap → Prop} {Q : Value → Shared → Prop} (B : Begins v o Hh) (h1 : Hh s.heap)
    (h : ∀ h', IsEnum h' (s.heap.objs.size + 1) s.heap.objs.size 0 .none → h'.get? s.heap.objs.size = some o → (∀ b o, s.heap.get? b = some o → h'.get? b = some o) → Q (.ref (s.heap.objs.size + 1)) { s with heap := h' }) :
    wpAny (model prog w) A (call (.type "enumerate") [v]) Q E s := by
  refine callType_new F.called_enumerate (by decide) (F.typeCall_enumerate_1 _) (F.newCall_enumerate_1 _) (fun obj => F.args_object_init_2 obj _) F.entry_enumerate_new (meets_enum1 B) ⟨h1, ?_⟩
  have hz : (s.heap.push o).objs.size = s.heap.objs.size + 1 := Heap.size_push ..
  show _ ∧ _
  have he : ((s.heap.push o).push { cls := .type "enumerate", data := .fields #[.none, .bool false, .ref s.heap.objs.size, rawInt 0, .none, .none] }).get? (s.heap.push o).objs.size = some { cls := .type "enumerate", data := .fields #[.none, .bool false, .ref s.heap.objs.size, rawInt 0, .none, .none] } := Heap.get?_push_size _ rfl
  rw [hz] at he ⊢
  exact ⟨⟨_, he, rfl⟩, h _ he (Heap.get?_push_of_some _ (Heap.get?_push_size _ B.free)) fun b o x => Heap.get?_push_of_some _ (Heap.get?_push_of_some _ x)⟩
end
/-! ### enumerate(dict): the dict is locked from there on -/
def Itek (d : Addr) (o : Obj) (kvs : List (Key × V)) : It :=
  ⟨fun i H => H d = some (.frz o (.dK kvs)) ∧ i < kvs.length, fun i H v H' => ∃ T k x, kvs[i]? = some (k, x) ∧ v = .ref T ∧ H T = none ∧ H' = upd H T (.tup [.int (i : Nat), kV k]), fun i H => H d = some (.frz o (.dK kvs)) ∧ kvs.length ≤ i⟩
theorem turn_enumD {P : Program} {w : World} {K : PySem.W.Frag} {elts : List Expr} {kk : Nat} {tpos : Pos} {d e it : Addr} {o : Obj} {es : Array DictEntry} {ep : Nat} {kvs : List (Key × V)} (hod : o.data = .dict es ep) (hsz : es.size = kvs.length) (hne : e ≠ it) (hed : e ≠ d) (hid : d ≠ it) :
    Turn P w K (.Tuple elts kk tpos) (Itek d o kvs) [e, it] e (fun i h => (∃ old, IsEnum h e it ((i : Nat) : Int) old) ∧ h.get? it = some (keyOb d i es.size ep) ∧ i ≤ es.size) where
  mem := by simp
  obj := fun i h st b hb => by
    obtain ⟨⟨old, he⟩, hi, _⟩ := st
    rcases List.mem_cons.mp hb with rfl | hb
    · exact ⟨_, he, fun v q => nomatch q⟩
    · rw [List.mem_singleton.mp hb]
      exact ⟨_, hi, fun v q => nomatch q⟩
  keep := fun i h h' st k => let ⟨⟨old, he⟩, hi, hl⟩ := st; ⟨⟨old, k e (by simp) _ he⟩, k it (by simp) _ hi, hl⟩
  item := by
    intro X hP hw hK hc i pins s σ H E I hf st hg
    subst hP hw hK
    obtain ⟨⟨old, he⟩, hit, hle⟩ := st
    obtain ⟨hd, hi⟩ := hg
    obtain ⟨hs, hgd, hx, es', ep', vs, hdt, hsz', kv, hm⟩ := I.frzK hd
    obtain ⟨rfl, rfl⟩ := dict_ep hod hdt
    obtain ⟨⟨k, v⟩, hkv⟩ : ∃ p, kvs[i]? = some p := ⟨kvs[i], List.getElem?_eq_getElem hi⟩
    obtain ⟨u, hu, ru⟩ := kv_get kv hkv
    have hel : e < s.heap.objs.size := Heap.lt_size he
    have hil : it < s.heap.objs.size := Heap.lt_size hit
    refine wpAny_pyNext_enum_itemD (draws_keys (A := X.A.in1) (I.ok.hd hc) hid hod) he ⟨hit, hgd⟩ (by omega) hne (by simp [hne, hed]) fun x h' tk hP ho hst hT hz hk => ?_
    obtain ⟨en, hen, rfl⟩ := hP
    have hkey : keyIs k en.key = true := by
      obtain ⟨od2, es2, hod2, _, hdd2, _, hp2, _⟩ := id hm
      rw [hgd] at hod2
      cases hod2
      obtain ⟨rfl, _⟩ := dict_ep hod hdd2
      exact (hp2.get? (e := en) (by rw [← Array.getElem?_toList] at hen; exact hen) hu).1
    refine ⟨_, rfl, wpAny_letOwnedTupleGo_enum (s := { s with heap := h', toks := tk + 1 }) ho fun h'' he' sb => ?_⟩
    have hT2 : h''.get? s.heap.objs.size = some { cls := .type "tuple", data := .seq #[.int i tk, en.key] } := (sb.2 _ (Nat.ne_of_gt hel)).trans hT
    have new : ObjOk X.prog X.w (upd H s.heap.objs.size (.tup [.int (i : Nat), kV k])) h'' s.heap.objs.size (.tup [.int (i : Nat), kV k]) :=
      ⟨by show 2 ≤ sizeLine; decide, [.int i tk, en.key], .cons ⟨_, rfl⟩ (.cons (relV_key hkey) .nil), ⟨_, hT2, rfl, _, rfl⟩⟩
    have I1 : Inv X pins σ (upd H s.heap.objs.size (.tup [.int (i : Nat), kV k])) { s with heap := h'', toks := tk + 1 } :=
      I.turnedNew (ch := [e, it]) (fun b ob hb q => (sb.2 b (fun z => hb (by simp [z]))).trans (hk b ob (fun z => hb (by simp [z])) (fun z => hb (by simp [z])) q)) hf (Nat.le_refl _) new
    refine ⟨.ref s.heap.objs.size, _, I1, rfl, ⟨_, k, v, hkv, rfl, I.hok.fresh (Nat.le_refl _), rfl⟩, ⟨⟨en.key, ?_⟩, (sb.2 it (Ne.symm hne)).trans hst.1, by omega⟩, fun b hb => ?_⟩
    · rw [show ((i + 1 : Nat) : Int) = (i : Int) + 1 by omega]
      exact he'
    · have hb' : b < s.heap.objs.size := by
        rcases List.mem_cons.mp hb with rfl | hb
        · exact hel
        · rw [List.mem_singleton.mp hb]
          exact hil
      rw [upd_ne (Nat.ne_of_lt hb')]
      exact (hf b hb).1
  done := by
    intro X hP hw hK hc i pins s σ H E I hf st hg
    subst hP hw hK
    obtain ⟨⟨old, he⟩, hit, hle⟩ := st
    obtain ⟨hd, hi⟩ := hg
    obtain ⟨hs, hgd, hx, es', ep', vs, hdt, hsz', kv, hm⟩ := I.frzK hd
    obtain ⟨f0, f1, f2, f3, f4, f5⟩ := hf it (by simp)
    obtain ⟨rfl, rfl⟩ := dict_ep hod hdt
    have hin : i = es'.size := by omega
    rw [hin] at hit
    exact wpAny_pyNext_enum_endD (draws_keys (A := X.A.in1) (I.ok.hd hc) hid hod) he ⟨hit, hgd⟩ fun h' eb => ⟨rfl, I.turned (t' := s.toks) (fun b ob hb z => eb b ob hb z) f0 f1 f3 f4 f5⟩
  self := fun A i s Q E st h => let ⟨⟨_, he⟩, _⟩ := st; wpAny_pyIter_enum he h
def iEnumD (ta : TA) : TI := fun σ H R => ta σ H fun vs H1 => ∃ d kvs, vs = [.ref d] ∧ H1 d = some (.dK kvs) ∧ ∀ o, R (Itek d o kvs) (upd H1 d (.frz o (.dK kvs)))
theorem pi_enumD {X : Cx} {e : Expr} {ta : TA} {p pos tpos : Pos} {elts : List Expr} {kk : Nat} (hg : Gl X "enumerate") (hm : X.mg "enumerate" = none) (ha : PA X [e] ta) (hs : starEach [e] X.env = [(false, eval e X.env)] := by rfl) :
    PI X (.Tuple elts kk tpos) (.Call (.Name "enumerate" p) [e] [] pos) (iEnumD ta) := by
  refine ⟨fun pins s σ H R I h => ?_⟩
  refine Call_ (ld_blt I hg hm boot_enumerate (PyProof.Rows.callWith_type1 (thn (ha.run pos pins s σ H _ I h) fun us s1 ⟨vs, H1, I1, r1, q1⟩ => ?_) hs rfl))
  obtain ⟨d, kvs, ex, hd, q⟩ := q1
  subst ex
  cases r1 with
  | cons r rr =>
    cases rr
    cases r
    obtain ⟨o, I2⟩ := I1.lock hd True.intro
    have hd2 : upd H1 d (.frz o (.dK kvs)) d = some (.frz o (.dK kvs)) := upd_same
    obtain ⟨hsm, hgd, hx, es, ep, ws, hdt, hsz, kv, hm'⟩ := I2.frzK hd2
    have hlt : d < s1.heap.objs.size := Heap.lt_size hgd
    refine call_enum1 (begins_dict hsm hx hdt) hgd fun h' he hit hk => wpAny_pyIter_enum he ?_
    have I3 : Inv X pins σ (upd H1 d (.frz o (.dK kvs))) { s1 with heap := h' } := I2.kept (t' := s1.toks) hk
    have T := turn_enumD (P := X.prog) (w := X.w) (K := X.K) (elts := elts) (kk := kk) (tpos := tpos) hdt hsz (Nat.succ_ne_self s1.heap.objs.size) (Nat.ne_of_gt (Nat.lt_succ_of_lt hlt)) (Nat.ne_of_lt hlt)
    refine ⟨s1.heap.objs.size + 1, [s1.heap.objs.size + 1, s1.heap.objs.size], _, _, _, rfl, I3, T, ⟨⟨.none, he⟩, hit, Nat.zero_le _⟩, fun b hb => ?_, q o⟩
    have hle : s1.heap.objs.size ≤ b := by
      rcases List.mem_cons.mp hb with z | z
      · rw [z]
        exact Nat.le_succ _
      · rw [List.mem_singleton.mp z]
        exact Nat.le_refl _
    exact I2.fpOk hle (I2.hok.fresh hle)
end Sf
namespace Sf
open PySem PySem.Spec PyProof.Rows L2 TL
set_option maxHeartbeats 400000
/-! ### list(d.values()) -/
def vwO (p d : Addr) : HO := .ext fun h => h.get? p = some { cls := .type "dict_values", data := .fields #[.ref d] }
theorem vwO_ok {P : Program} {w : World} {H : Hp} {h : Heap} {p d : Addr} (e : h.get? p = some { cls := .type "dict_values", data := .fields #[.ref d] }) : ObjOk P w H h p (vwO p d) := ⟨e, ⟨_, e⟩, fun h1 h2 q k => k _ q⟩
def tDvs (td : TE) : TE := fun σ H Q => td σ H fun x H1 => ∃ d kvs, x = .ref d ∧ H1 d = some (.dK kvs) ∧ ∀ p, H1 p = none → Q (.ref p) (upd H1 p (vwO p d))
def kDvs (Q : VK) : VK := fun x H1 => ∃ d kvs, x = .ref d ∧ H1 d = some (.dK kvs) ∧ ∀ p, H1 p = none → Q (.ref p) (upd H1 p (vwO p d))
theorem w_dvs {td : TE} {σ : L2.St} {H : Hp} {Q : VK} (q : td σ H (kDvs Q)) : tDvs td σ H Q := q
def rLVals : List V → Hp → VK → Prop := fun xs H Q => ∃ p d kvs, xs = [.ref p] ∧ H p = some (vwO p d) ∧ H d = some (.dK kvs) ∧ ∀ r, H r = none → Q (.ref r) (upd H r (.lst (kvs.map (·.2))))
section
variable {X : Cx} {e : Expr} {td : TE} {apos cpos : Pos}
theorem pe_dvs (he : PE X e td) (hbase : attributeBase e "values" X.env (eval e X.env) = eval e X.env := by rfl) (hline : (apos.endLine == cpos.line) = true := by rfl) : PE X (.Call (.Attribute e "values" apos) [] [] cpos) (tDvs td) := by
  refine ⟨fun pins s σ H Q I h => ?_⟩
  refine wpAny_Call_method (T := "dict") (id := "dict.values") hbase rfl hline F.plainAttrs_dict F.slot_dict_values F.type_dict_values (thn (he.run pins s σ H _ I h) fun u s1 ⟨x, H1, I1, rx, d, kvs, ex, hd, q⟩ => ?_)
  subst ex
  obtain rfl : u = Value.ref d := rx
  obtain ⟨_, hs, vs, rel, hm⟩ := dk_of I1.hok hd
  refine ⟨hm.typeIs, hm.mapOf.noDict, ?_⟩
  have fin : EP X pins σ Q (.ref s1.heap.objs.size) { s1 with heap := s1.heap.push { cls := .type "dict_values", data := .fields #[.ref d] } } :=
    ⟨.ref s1.heap.objs.size, _, I1.laid (t' := s1.toks) (fun b o z => Heap.get?_push_of_some _ z) (Nat.le_refl _) (vwO_ok (d := d) (Heap.get?_push_size _ rfl)), rfl, q _ (I1.hok.fresh (Nat.le_refl _))⟩
  show wpAny _ _ (callWith cpos (.builtin "dict.values") [.ref d] [] []) _ X.xe s1
  exact method_meetsIn F.slot_dict_values F.entry_dict_values rfl (PySem.evalArgs_none ⟨rfl, hm.typeIs, F.args_dict_values_1 _, _, meets_dict_values (mixKind X.prog X.w) d hs, ⟨vs, hm⟩, fin⟩)
theorem call_lvals (hc : X.calm = true) : CallR X (.type "list") rLVals := by
  intro pins s σ H xs us Q I r h
  obtain ⟨p, d, kvs, ex, hp, hd, q⟩ := h
  subst ex
  obtain ⟨u, eu, rx⟩ := vals1 r
  subst eu
  obtain rfl : u = Value.ref p := rx
  have hv : s.heap.get? p = some { cls := .type "dict_values", data := .fields #[.ref d] } := (show ObjOk X.prog X.w H s.heap p (vwO p d) from I.hok p _ hp).1
  obtain ⟨z, lo, vs, rk, hm⟩ := dk_of I.hok hd
  obtain ⟨ep, hat⟩ := hm.dictAt
  have hl : kvs.length = vs.length := Paired.length rk
  refine PySem.W.kdl_call (PySem.W.kdl_values (knd := mixKind X.prog X.w) (r := p) (kvs := vs) (ep := ep)) (I.ok.hd hc) ⟨⟨_, hv, rfl, rfl⟩, hat⟩ (by rw [← hl]; exact z) fun h' tk acc' c' hkeep hS hacc => ?_
  refine ⟨.ref s.heap.objs.size, upd H s.heap.objs.size (.lst (kvs.map (·.2))), I.laid hkeep (Nat.le_refl _) (show ObjOk X.prog X.w _ _ _ (.lst (kvs.map (·.2))) from ⟨?_, acc'.toList, c', ?_, ?_⟩), rfl, q _ (I.hok.fresh (Nat.le_refl _))⟩
  · rw [List.length_map]
    exact z
  · have el : acc'.toList.length = acc'.size := by simp
    refine vals_of_at (by rw [List.length_map, el, hacc.1, hl]) fun j x w h1 h2 => ?_
    obtain ⟨k, hk⟩ := hacc.2 j w (by rw [← Array.getElem?_toList]; exact h2)
    rw [List.getElem?_map] at h1
    obtain ⟨⟨k', x'⟩, h3, rfl⟩ := Option.map_eq_some_iff.mp h1
    obtain ⟨u, hu, ru⟩ := kv_get rk h3
    rw [hk] at hu
    cases hu
    exact ru
  · rw [Array.toArray_toList]
    exact hS
end
end Sf
set_option hygiene false
/-! heap look-ups: hp; unlike addresses: ne; steps: st, go -/
local macro_rules | `(tactic| walk_at "hp") => `(tactic| first
  | assumption
  | (refine Sf.Nw.at (by assumption) ?_; walk_at "hp")
  | (refine L2.Same.at (by assumption) ?_; walk_at "hp")
  | (refine Sf.Of.at (by assumption) ?_ ?_; (case refine_1 => walk_at "ne"); (case refine_2 => walk_at "hp"))
  | (refine Sf.Fx.at (by assumption) ?_ ?_; (case refine_1 => walk_at "ne"); (case refine_2 => walk_at "hp")))
local macro_rules | `(tactic| walk_at "ne") => `(tactic| first
  | assumption
  | exact Ne.symm (by assumption)
  | exact Sf.Nw.ne (by assumption) (by walk_at "hp")
  | exact (Sf.Nw.ne (by assumption) (by walk_at "hp")).symm)
local macro_rules | `(tactic| walk_at "sm") => `(tactic| first
  | assumption
  | exact L2.Same.refl _
  | (refine L2.Same.nw ?_ (by assumption); walk_at "sm")
  | (refine L2.Same.trans ?_ (by assumption); walk_at "sm"))
local macro_rules | `(tactic| walk_at "bg") => `(tactic| first
  | assumption
  | (refine Sf.Bag.nw ?_ (by assumption); walk_at "bg")
  | (refine Sf.Bag.same (by assumption) ?_; walk_at "bg"))
local macro_rules | `(tactic| walk_at "fx") => `(tactic| first
  | assumption
  | exact Sf.Fx.refl
  | (refine Sf.Fx.nw ?_ (by assumption); walk_at "fx")
  | (refine Sf.Fx.same ?_ (by assumption); walk_at "fx")
  | (refine Sf.Fx.trans ?_ (by assumption); walk_at "fx"))
local macro_rules | `(tactic| walk_at "sz") => `(tactic| first
  | decide
  | (simp only [List.length_cons, List.length_nil, Nat.zero_add]; decide))
local macro_rules | `(tactic| walk_at "s0") => `(tactic| first
  | with_reducible refine Sf.w_var rfl ?_
  | with_reducible refine Sf.w_c ?_
  | with_reducible refine Sf.w_cons ?_
  | with_reducible refine Sf.w_nil ?_
  | with_reducible refine Sf.w_op ?_
  | with_reducible refine Sf.w_asg ?_
  | with_reducible refine Sf.w_gn ?_
  | with_reducible refine Sf.w_call ?_
  | with_reducible refine Sf.w_cb ?_
  | with_reducible refine Sf.w_if ?_
  | with_reducible refine Sf.w_test ?_
  | with_reducible refine Sf.w_tB ?_
  | with_reducible refine Sf.w_kB ?_
  | with_reducible refine Sf.w_i0 ?_
  | with_reducible refine Sf.w_eqI ?_
  | with_reducible refine Sf.w_neI ?_
  | with_reducible refine Sf.w_eqS ?_
  | with_reducible refine Sf.w_neS ?_
  | with_reducible refine Sf.w_eqB ?_
  | with_reducible refine Sf.w_neB ?_
  | with_reducible refine Sf.w_inSg ?_
  | with_reducible refine Sf.w_notInSg ?_
  | with_reducible refine Sf.w_isNI ?_
  | with_reducible refine Sf.w_isNN ?_
  | with_reducible refine Sf.w_isN ?_
  | with_reducible refine Sf.w_notNI ?_
  | with_reducible refine Sf.w_notNN ?_
  | with_reducible refine Sf.w_notN ?_
  | with_reducible refine Sf.w_un ?_
  | with_reducible refine Sf.w_u ?_
  | with_reducible refine Sf.w_sl ?_
  | with_reducible refine Sf.w_nopart ?_
  | with_reducible refine Sf.w_part ?_
  | with_reducible refine Sf.w_kpart ?_
  | with_reducible refine Sf.w_and ?_
  | with_reducible refine Sf.w_or ?_
  | with_reducible refine Sf.w_not ?_
  | with_reducible refine Sf.w_kNotT ?_
  | with_reducible refine Sf.w_kNotF ?_
  | with_reducible refine Sf.w_kNotN ?_
  | with_reducible refine Sf.w_kNot ?_
  | with_reducible refine Sf.w_andT ?_
  | with_reducible refine Sf.w_andF ?_
  | with_reducible refine Sf.w_orT ?_
  | with_reducible refine Sf.w_orF ?_
  | with_reducible refine Sf.w_andV ?_
  | with_reducible refine Sf.w_andVT ?_
  | with_reducible refine Sf.w_andVF ?_
  | with_reducible refine Sf.w_orV ?_
  | with_reducible refine Sf.w_notV ?_
  | with_reducible refine Sf.w_kNotVT ?_
  | with_reducible refine Sf.w_kNotVF ?_
  | with_reducible refine Sf.w_kNotV ?_
  | with_reducible refine Sf.w_ifE ?_
  | with_reducible refine Sf.w_ifET ?_
  | with_reducible refine Sf.w_ifEF ?_
  | with_reducible refine Sf.w_ifT ?_
  | with_reducible refine Sf.w_ifF ?_
  | with_reducible refine Sf.w_chain ?_
  | with_reducible refine Sf.w_lst ?_
  | with_reducible refine Sf.w_tup ?_
  | with_reducible refine Sf.w_drop ?_
  | with_reducible refine Sf.w_ret ?_
  | with_reducible refine Sf.w_retN ?_
  | with_reducible refine Sf.w_next ?_
  | with_reducible refine Sf.w_break ?_
  | with_reducible refine Sf.w_cont ?_
  | with_reducible refine Sf.w_meth ?_
  | with_reducible refine Sf.w_make ?_
  | with_reducible refine Sf.w_fld ?_
  | with_reducible refine Sf.w_sfld ?_
  | with_reducible refine Sf.w_bm ?_
  | with_reducible refine Sf.w_bm0 ?_
  | ((with_reducible refine' Sf.w_kbmL ?hp_ ?_); (case hp_ => walk_at "hp"))
  | with_reducible refine Sf.w_m0 ?_
  | with_reducible refine Sf.w_kM0 ?_
  | with_reducible refine Sf.w_m1 ?_
  | with_reducible refine Sf.w_kM1 ?_
  | with_reducible refine Sf.w_par ?_
  | with_reducible refine Sf.w_kPar ?_
  | with_reducible refine Sf.w_gcons ?_
  | with_reducible refine Sf.w_gnil ?_
  | with_reducible refine Sf.w_gsub ?_
  | with_reducible refine Sf.w_for ?_
  | with_reducible refine Sf.w_rng1 ?_
  | with_reducible refine Sf.w_ilist ?_
  | with_reducible refine Sf.w_itup ?_
  | with_reducible refine Sf.w_istr ?_
  | with_reducible refine Sf.w_kStr ?_
  | with_reducible refine Sf.w_ienum ?_
  | with_reducible refine Sf.w_lc ?_
  | with_reducible refine Sf.w_yes ?_
  | with_reducible refine Sf.w_tstT ?_
  | with_reducible refine Sf.w_tstF ?_
  | with_reducible refine Sf.w_each rfl ?_
  | with_reducible refine Sf.w_dget ?_
  | with_reducible refine Sf.w_din ?_
  | with_reducible refine Sf.w_dnotin ?_
  | ((with_reducible refine' Sf.w_kDInI ?hp_ ?_); (case hp_ => walk_at "hp"))
  | ((with_reducible refine' Sf.w_kDInS ?hp_ ?_); (case hp_ => walk_at "hp"))
  | ((with_reducible refine' Sf.w_kDNotInI ?hp_ ?_); (case hp_ => walk_at "hp"))
  | ((with_reducible refine' Sf.w_kDNotInS ?hp_ ?_); (case hp_ => walk_at "hp"))
  | with_reducible refine Sf.w_dget1 ?_
  | ((with_reducible refine' Sf.w_kDGet1 ?hp_ ?_); (case hp_ => walk_at "hp"))
  | ((with_reducible refine' Sf.w_kDGet1I ?hp_ ?_); (case hp_ => walk_at "hp"))
  | ((with_reducible refine' Sf.w_kDGet1S ?hp_ ?_); (case hp_ => walk_at "hp"))
  | with_reducible refine Sf.w_sdput ?_
  | with_reducible refine Sf.w_dc ?_
  | with_reducible refine Sf.w_tstDT ?_
  | with_reducible refine Sf.w_eachD rfl ?_
  | with_reducible refine Sf.w_lstRg ?_
  | with_reducible refine Sf.w_min2 ?_
  | with_reducible refine Sf.w_max2 ?_
  | with_reducible refine Sf.w_starts ?_
  | with_reducible refine Sf.w_ends ?_
  | with_reducible refine Sf.w_rg1 ?_
  | with_reducible refine Sf.w_kRg1 ?_
  | with_reducible refine Sf.w_aug rfl ?_
  | with_reducible refine Sf.w_ipI ?_
  | with_reducible refine Sf.w_isi_int_int ?_
  | with_reducible refine Sf.w_isi_int_bool ?_
  | with_reducible refine Sf.w_isi_int_str ?_
  | with_reducible refine Sf.w_isi_str_int ?_
  | with_reducible refine Sf.w_isi_str_bool ?_
  | with_reducible refine Sf.w_isi_str_str ?_
  | with_reducible refine Sf.w_isi_bool_int ?_
  | with_reducible refine Sf.w_isi_bool_bool ?_
  | with_reducible refine Sf.w_isi_bool_str ?_
  | with_reducible refine Sf.w_isi_NoneType_int ?_
  | with_reducible refine Sf.w_isi_NoneType_str ?_
  | with_reducible refine Sf.w_isi_NoneType_bool ?_
  | ((with_reducible refine' Sf.w_lenL ?hp_ ?_); (case hp_ => walk_at "hp"))
  | ((with_reducible refine' Sf.w_lenT ?hp_ ?_); (case hp_ => walk_at "hp"))
  | ((with_reducible refine' Sf.w_lenD ?hp_ ?_); (case hp_ => walk_at "hp"))
  | ((with_reducible refine' Sf.w_kList ?hp_ ?_); (case hp_ => walk_at "hp"))
  | ((with_reducible refine' Sf.w_kTupI ?hp_ ?_); (case hp_ => walk_at "hp"))
  | ((with_reducible refine' Sf.w_kEnum ?hp_ ?_); (case hp_ => walk_at "hp"))
  | ((with_reducible refine' Sf.w_ixT ?hp_ ?rf_ ?_); (case hp_ => walk_at "hp"); (case rf_ => exact rfl))
  | ((with_reducible refine' Sf.w_ixL ?hp_ ?rf_ ?_); (case hp_ => walk_at "hp"); (case rf_ => exact rfl))
  | ((with_reducible refine' Sf.w_gtup ?hp_ ?rf_ ?_); (case hp_ => walk_at "hp"); (case rf_ => exact rfl)))
local macro_rules | `(tactic| walk_at "gs") => `(tactic| repeat walk_at "s0")
local macro_rules | `(tactic| walk_at "go") => `(tactic| repeat (first | walk_at "s0" | with_reducible refine Sf.w_seq ?_))
namespace Sf
open PySem PySem.Spec PyProof.Rows L2 TL
section
variable {P : Program} {w : World} {K : PySem.W.Frag} {mg : Str → Option Value} {base : Heap}
/-! ### is_upto -/
def upB : V → Int → Bool
  | .int i, m => decide (0 ≤ i) && decide (i ≤ m)
  | _, _ => false
def flat3 : V → Prop
  | .bl _ => True
  | .int _ => True
  | .str _ => True
  | _ => False
def spUp : Sp := fun vs H Q _ => ∃ (v : V) (m : Int), vs = [v, .int m] ∧ flat3 v ∧ Q (.bl (upB v m)) H
abbrev HasUp (P : Program) (w : World) (K : PySem.W.Frag) (mg : Str → Option Value) (base : Heap) : Prop := Has P w K mg base 1 "is_upto" ["thing", "most"] spUp
theorem sc_up : FnScope ["thing", "most"] ["thing", "most"] (defScope s_is_upto) := ⟨rfl, rfl, rfl, by decide +kernel, rfl, by decide +kernel, by decide +kernel⟩
theorem has_up (F : FnAt K mg "is_upto" s_is_upto ["thing", "most"]) (B : Blt mg) : HasUp P w K mg base := F.has fun F => by
  refine F.ok sc_up (fun vs H Q E h => ?_) (fun cdv A outer s H vs Q E hr h => ?_)
  · obtain ⟨v, m, rfl, _⟩ := h
    rfl
  · obtain ⟨v, m, rfl, hv, q⟩ := h
    refine ⟨_, (pss_one (ps_ret (pe_and (pe_callB call_isi (by rfl) B.isinstance (by decide +kernel) (pa_cons (pv 0) (pa_cons (pe_bltn (v := .ty "int") (by rfl) B.int (by decide +kernel) rfl) pa_nil))) (pe_and (pe_not (pe_callB call_isi (by rfl) B.isinstance (by decide +kernel) (pa_cons (pv 0) (pa_cons (pe_bltn (v := .ty "bool") (by rfl) B.bool (by decide +kernel) rfl) pa_nil)))) (pe_one (pe_chain op_le op_le pe_int (pv 0) (pv 1))))))), ?_⟩
    cases v with
    | int i =>
      walk_at "go"
      refine w_chain2 (fun h0 => ?_) (fun h0 => ?_)
      · walk_at "go"
        rw [upB, decide_eq_true h0, Bool.true_and] at q
        exact q
      · walk_at "go"
        rw [upB, decide_eq_false h0, Bool.false_and] at q
        exact q
    | bl b =>
      walk_at "go"
      exact q
    | str x =>
      walk_at "go"
      exact q
    | non => exact hv.elim
    | byt b => exact hv.elim
    | flt b => exact hv.elim
    | ref b => exact hv.elim
    | ty b => exact hv.elim
end
end Sf
namespace Sf
open PySem PySem.Spec PyProof.Rows L2 TL
/-! ### worlds in the heap -/
def wf (pl ld : Addr) : List (Str × V) := putF "leads" (.ref ld) (putF "places" (.ref pl) [])
theorem fpl_ne : ¬ (("places" : Str) = "leads") := by decide +kernel
theorem wf_places (pl ld : Addr) : (wf pl ld).lookup ("places" : Str) = some (.ref pl) := by
  unfold wf
  rw [lookup_putF, if_neg fpl_ne, lookup_putF, if_pos rfl]
theorem wf_leads (pl ld : Addr) : (wf pl ld).lookup ("leads" : Str) = some (.ref ld) := by
  unfold wf
  rw [lookup_putF, if_pos rfl]
theorem wf_no (pl ld : Addr) {m : Str} (h1 : ¬ m = "leads") (h2 : ¬ m = "places") : (wf pl ld).lookup m = none := by
  unfold wf
  rw [lookup_putF, if_neg h1, lookup_putF, if_neg h2]
  all_goals rfl
/-- moves in the heap -/
def MvAt (H : Hp) (v : V) (m : Mv) : Prop := ∃ t, v = .ref t ∧ H t = some (.tup [.str (one m.1), .int m.2.1, .int m.2.2])
abbrev MvsAt (H : Hp) (vs : List V) (ms : List Mv) : Prop := Paired (MvAt H) vs ms
/-- tuples stand -/
def Tps (H H' : Hp) : Prop := ∀ a xs, H a = some (.tup xs) → H' a = some (.tup xs)
theorem Tps.of {H H' : Hp} (s : Same H H') : Tps H H' := fun a xs h => s _ _ h
theorem Tps.refl {H : Hp} : Tps H H := fun _ _ h => h
theorem Tps.trans {H H1 H2 : Hp} (a : Tps H H1) (b : Tps H1 H2) : Tps H H2 := fun c xs h => b c xs (a c xs h)
theorem Tps.off {H H1 H2 : Hp} {p : Addr} {ys : List V} (a : Tps H H1) (h1 : H1 p = some (.lst ys)) (b : Of p H1 H2) : Tps H H2 := fun c xs h => b.at (ne_of (a _ _ h) h1 (by intro z; cases z)) (a _ _ h)
theorem Tps.offD {H H1 H2 : Hp} {p : Addr} {ys : List (Key × V)} (a : Tps H H1) (h1 : H1 p = some (.dK ys)) (b : Of p H1 H2) : Tps H H2 := fun c xs h => b.at (ne_of (a _ _ h) h1 (by intro z; cases z)) (a _ _ h)
theorem Tps.fx {H H1 : Hp} {b l : Addr} (h : Bag H b l) (f : Fx b H H1) : Tps H H1 := fun c xs e => f _ _ e (by
  obtain ⟨ns, k, z, r, hb⟩ := h
  exact ne_of e hb.hb (by intro q; cases q))
theorem MvsAt.tps {H H' : Hp} (s : Tps H H') {vs : List V} {ms : List Mv} (h : MvsAt H vs ms) : MvsAt H' vs ms := Paired.mapP h fun v m ⟨t, e, ht⟩ => ⟨t, e, s _ _ ht⟩
theorem paired_get {α β : Type} {R : α → β → Prop} : ∀ {as : List α} {bs : List β} {i : Nat} {a : α}, Paired R as bs → as[i]? = some a → ∃ b, bs[i]? = some b ∧ R a b
  | _, _, _, _, .nil, e => by simp at e
  | _, _, 0, _, .cons r _, e => by simp at e; subst e; exact ⟨_, rfl, r⟩
  | _, _, i + 1, x, .cons _ t, e => by
    obtain ⟨u, h1, h2⟩ := paired_get (i := i) (a := x) t (by simpa using e)
    exact ⟨u, by simpa using h1, h2⟩
def leV (d : Nat → Addr) (l : List Nat) : List (Key × V) := l.map fun c => ((Sum.inr (one c) : Key), V.ref (d c))
/-- leads in the heap; those of N are not known ahead -/
structure LdAt (H : Hp) (ld : Addr) (d : Nat → Addr) (L : Nat → List (Int × Int)) : Prop where
  hd : H ld = some (.dK (leV d sgs))
  hc : ∀ c ∈ sgs, H (d c) = some (.dK (kvI (L c)))
theorem LdAt.same {H H' : Hp} {ld : Addr} {d : Nat → Addr} {L : Nat → List (Int × Int)} (h : LdAt H ld d L) (s : Same H H') : LdAt H' ld d L := ⟨s _ _ h.hd, fun c hc => s _ _ (h.hc c hc)⟩
/-- a world -/
def WAt (C : Addr) (H : Hp) (p : Addr) (n : Int) (L : Nat → List (Int × Int)) : Prop := ∃ (dx pl ld : Addr) (d : Nat → Addr), H p = some (.ins C dx (wf pl ld)) ∧ H pl = some (.lst (rgV 0 n)) ∧ LdAt H ld d L
theorem WAt.same {C : Addr} {H H' : Hp} {p : Addr} {n : Int} {L : Nat → List (Int × Int)} (s : Same H H') : WAt C H p n L → WAt C H' p n L
  | ⟨dx, pl, ld, d, h1, h2, h3⟩ => ⟨dx, pl, ld, d, s _ _ h1, s _ _ h2, h3.same s⟩
structure WC (K : PySem.W.Frag) (mg : Str → Option Value) (C : Addr) : Prop where
  cl : Cls K C
  nP : PySem.W.findIn K (.ref C) "places" = some none
  nL : PySem.W.findIn K (.ref C) "leads" = some none
  mgC : mg "World" = some (.ref C)
  ha : PySem.W.findIn K (.ref C) "__class__" = some (some (.builtin "object.__class__"))
  hn : PySem.W.specialIn K (.builtin "object.__class__") "__get__" = some (some (.builtin "getset_descriptor.__get__"))
  htk : PySem.W.takesIn K (.builtin "object.__class__") = some true
  hm : PySem.W.mroIn K C (.type "object") = some true
  ne : PySem.W.findIn K (.ref C) "__ne__" = some (some (.builtin "object.__ne__"))
section
variable {P : Program} {w : World} {K : PySem.W.Frag} {mg : Str → Option Value} {base : Heap} {C : Addr}
/-! ### is_move (a move that is one) -/
def spIm : Sp := fun vs H Q _ => ∃ (t : Addr) (m : Mv) (n : Int), vs = [.ref t, .int n] ∧ H t = some (.tup [.str (one m.1), .int m.2.1, .int m.2.2]) ∧ 97 ≤ m.1 ∧ m.1 ≤ 104 ∧ 0 ≤ m.2.1 ∧ m.2.1 < n ∧ 0 ≤ m.2.2 ∧ m.2.2 < n ∧ Q (.bl true) H
abbrev HasIm (P : Program) (w : World) (K : PySem.W.Frag) (mg : Str → Option Value) (base : Heap) : Prop := Has P w K mg base 2 "is_move" ["move", "many"] spIm
theorem sc_im : FnScope ["move", "many"] ["move", "many"] (defScope s_is_move) := ⟨rfl, rfl, rfl, by decide +kernel, rfl, by decide +kernel, by decide +kernel⟩
theorem upB_true {i m : Int} (h0 : 0 ≤ i) (h1 : i ≤ m) : upB (.int i) m = true := by
  show (decide (0 ≤ i) && decide (i ≤ m)) = true
  rw [decide_eq_true h0, decide_eq_true h1]
  rfl
theorem has_im (F : FnAt K mg "is_move" s_is_move ["move", "many"]) (B : Blt mg) (h_Up : HasUp P w K mg base) {t1 : Tok} (C_LETTERS : mg "LETTERS" = some (.str (Str.ofString "abcdefgh") t1)) : HasIm P w K mg base := F.has fun F => by
  obtain ⟨f_Up, fd_Up, g_Up, k_Up, b_Up, G_Up⟩ := h_Up
  refine F.ok sc_im (fun vs H Q E h => ?_) (fun cdv A outer s H vs Q E hr h => ?_)
  · obtain ⟨t, m, n, rfl, _⟩ := h
    rfl
  · obtain ⟨t, m, n, rfl, ht, a1, a2, a3, a4, a5, a6, q⟩ := h
    refine ⟨_, (pss_cons (ps_if (PW.pt (pw_or (pt_cmpR op_ne (pe_callB call_lenQ (by rfl) B.len PySem.boot_len (pa_cons (pv 0) pa_nil)) pe_int (nomark _)) (pw_or (pt_not (pt_val (pe_call G_Up (hr.mono (by decide)) (by rfl) g_Up k_Up b_Up .nil pass0 (pa_cons (pe_ix ix_tup (pv 0) pe_int (fun _ _ => rfl)) (pa_cons (pe_op op_sub (pv 1) pe_int) pa_nil))))) (pw_or1 (pt_not (pt_val (pe_call G_Up (hr.mono (by decide)) (by rfl) g_Up k_Up b_Up .nil pass0 (pa_cons (pe_ix ix_tup (pv 0) pe_int (fun _ _ => rfl)) (pa_cons (pe_op op_sub (pv 1) pe_int) pa_nil))))))))) (pss_one (ps_ret pe_bl)) pss_nil) (pss_one (ps_ret (pe_and (pe_callB call_isi (by rfl) B.isinstance (by decide +kernel) (pa_cons (pe_ix ix_tup (pv 0) pe_int (fun _ _ => rfl)) (pa_cons (pe_bltn (v := .ty "str") (by rfl) B.str (by decide +kernel) rfl) pa_nil))) (pe_and (pe_cmpR op_eq (pe_callB call_lenS (by rfl) B.len PySem.boot_len (pa_cons (pe_ix ix_tup (pv 0) pe_int (fun _ _ => rfl)) pa_nil)) pe_int (nomark _)) (pe_one (pe_cmpR op_inSg (pe_ix ix_tup (pv 0) pe_int (fun _ _ => rfl)) (pe_gS (by rfl) C_LETTERS) rfl))))))), ?_⟩
    walk_at "go"
    refine w_orN2 (fun z => absurd rfl z) fun _ => ?_
    walk_at "go"
    refine ⟨_, _, rfl, trivial, ?_⟩
    rw [upB_true a3 (by omega)]
    walk_at "go"
    refine ⟨_, _, rfl, trivial, ?_⟩
    rw [upB_true a5 (by omega)]
    walk_at "go"
    refine w_lenS (by rw [len_one]; decide) ?_
    walk_at "go"
    refine w_andV2 (fun _ => ?_) (fun z => absurd rfl z)
    walk_at "go"
    rw [decide_eq_true (in_small.mpr ⟨a1, a2⟩)]
    exact q
end
end Sf
namespace Sf
open PySem PySem.Spec PyProof.Rows L2 TL
section
variable {P : Program} {w : World} {K : PySem.W.Frag} {mg : Str → Option Value} {base : Heap} {C : Addr}
/-! ### leads_by -/
def spLb : Sp := fun vs H Q _ => ∃ (n : Int) (a : Addr) (us : List V) (ms : List Mv), vs = [.int n, .ref a] ∧ H a = some (.lst us) ∧ MvsAt H us ms ∧ WOk n ms ∧ ms.length ≤ 100000 ∧
  ∀ (ld : Addr) (d : Nat → Addr) (H' : Hp), H ld = none → (∀ c ∈ sgs, H (d c) = none) → Same H H' → LdAt H' ld d (LM ms) → Q (.ref ld) H'
abbrev HasLb (P : Program) (w : World) (K : PySem.W.Frag) (mg : Str → Option Value) (base : Heap) : Prop := Has P w K mg base 3 "leads_by" ["many", "moves"] spLb
theorem sc_lb : FnScope ["many", "moves", "sign", "leads", "move", "letter", "start", "end"] ["many", "moves"] (defScope s_leads_by) := ⟨rfl, rfl, rfl, by decide +kernel, rfl, by decide +kernel, by decide +kernel⟩
/-- what stands while leads are laid -/
structure LdIn (H0 H : Hp) (ld : Addr) (d : Nat → Addr) (S : List Nat) (L : Nat → List (Int × Int)) : Prop where
  hd : H ld = some (.dK (leV d S))
  hc : ∀ c ∈ S, H (d c) = some (.dK (kvI (L c)))
  sm : Same H0 H
  nl : H0 ld = none
  nd : ∀ c ∈ S, H0 (d c) = none
  ne : ∀ c ∈ S, d c ≠ ld
  inj : ∀ c ∈ S, ∀ e ∈ S, d c = d e → c = e
theorem kvI_put {l : List (Int × Int)} {x y : Int} (h : lk l x = none) : putK (kvI l) (Sum.inl x) (.int y) = kvI (l ++ [(x, y)]) := by
  rw [putK_new _ (by rw [val_kvI, h]; rfl)]
  unfold kvI
  rw [List.map_append]
  rfl
theorem LdIn.put {H0 H H1 : Hp} {ld : Addr} {d : Nat → Addr} {L : Nat → List (Int × Int)} {c : Nat} {x y : Int} (h : LdIn H0 H ld d sgs L) (hc : c ∈ sgs) (hx : lk (L c) x = none)
    (h1 : H1 (d c) = some (.dK (putK (kvI (L c)) (Sum.inl x) (.int y)))) (o : Of (d c) H H1) : LdIn H0 H1 ld d sgs (fun e => if e = c then L c ++ [(x, y)] else L e) := by
  refine ⟨o.at (h.ne c hc).symm h.hd, fun e he => ?_, h.sm.off o (h.nd c hc), h.nl, h.nd, h.ne, h.inj⟩
  by_cases z : e = c
  · subst z
    rw [if_pos rfl, h1, kvI_put hx]
  · rw [if_neg z]
    exact o.at (fun q => z (h.inj e he c hc q)) (h.hc e he)
theorem LdIn.cong {H0 H : Hp} {ld : Addr} {d : Nat → Addr} {S : List Nat} {L L' : Nat → List (Int × Int)} (h : LdIn H0 H ld d S L) (e : ∀ c ∈ S, L c = L' c) : LdIn H0 H ld d S L' := ⟨h.hd, fun c hc => by rw [← e c hc]; exact h.hc c hc, h.sm, h.nl, h.nd, h.ne, h.inj⟩
theorem up_one {c : Nat} (h : 97 ≤ c ∧ c ≤ 104) : Txt.upper (one c) = one (c - 32) := upper_one h
theorem small_sgs {c : Nat} (h : 97 ≤ c ∧ c ≤ 104) : c ∈ sgs := sgs_iff.mpr (sgn_iff.mpr (.inl h))
theorem great_sgs {c : Nat} (h : 97 ≤ c ∧ c ≤ 104) : c - 32 ∈ sgs := sgs_iff.mpr (sgn_iff.mpr (.inr (by omega)))
theorem has_lb (F : FnAt K mg "leads_by" s_leads_by ["many", "moves"]) (B : Blt mg) (h_Im : HasIm P w K mg base) {t1 : Tok} (C_SIGNS : mg "SIGNS" = some (.str (Str.ofString "aAbBcCdDeEfFgGhH") t1)) : HasLb P w K mg base := F.has fun F => by
  obtain ⟨f_Im, fd_Im, g_Im, k_Im, b_Im, G_Im⟩ := h_Im
  refine F.ok sc_lb (fun vs H Q E h => ?_) (fun cdv A outer s H vs Q E hr h => ?_)
  · obtain ⟨n, a, us, ms, rfl, _⟩ := h
    rfl
  · obtain ⟨n, a, us, ms, rfl, ha, hm, ok, hlen, q⟩ := h
    refine ⟨_, (pss_cons (ps_setDc (i := 3) (own := [("sign", 2)]) (g := gName 2) (tt := tYes) (by rfl) sc_lb.nd rfl rfl (swD_true rfl rfl rfl (by decide +kernel)) (pi_str (pe_gS (by rfl) C_SIGNS)) (blkOk_by (own := [("sign", 2)]) (N := ["many", "moves", "sign", "leads", "move", "letter", "start", "end"]) (sc := defScope s_leads_by) (by decide +kernel)) (fun _ _ _ _ _ => pg_name (i := 2) sc_lb.nd rfl (.inl rfl)) (fun _ _ _ _ _ => pts_nil) (fun _ _ _ _ _ => (pv 2)) (fun _ _ _ _ _ => pe_dnewK)) (pss_cons (ps_for PassesOwn.never rfl (pi_list (pv 1)) (pg_name (i := 4) sc_lb.nd rfl (.inl rfl)) (pss_cons (ps_if (pt_not (pt_val (pe_call G_Im (hr.mono (by decide)) (by rfl) g_Im k_Im b_Im .nil pass0 (pa_cons (pv 4) (pa_cons (pv 0) pa_nil))))) (pss_one (ps_never)) pss_nil) (pss_cons (ps_asg (pv 4) (pg_tup rfl (pgs_cons (pg_name (i := 5) sc_lb.nd rfl (.inl rfl)) (pgs_cons (pg_name (i := 6) sc_lb.nd rfl (.inl rfl)) (pgs_cons (pg_name (i := 7) sc_lb.nd rfl (.inl rfl)) pgs_nil))))) (pss_cons (ps_if (PW.pt (pw_or (pt_cmp (pc_din (hu_of hr) (pv 6) (pe_dget (hu_of hr) (pv 3) (pv 5) (fun _ _ => rfl)))) (pw_or1 (pt_cmp (pc_din (hu_of hr) (pv 7) (pe_dget (hu_of hr) (pv 3) (pe_m0 PySem.F.slot_str_upper PySem.F.type_str_upper mt_upN (pv 5)) (fun _ _ => rfl))))))) (pss_one (ps_never)) pss_nil) (pss_cons (ps_dput (hu_of hr) (pe_dget (hu_of hr) (pv 3) (pv 5) (fun _ _ => rfl)) (pv 6) (pv 7) rfl) (pss_one (ps_dput (hu_of hr) (pe_dget (hu_of hr) (pv 3) (pe_m0 PySem.F.slot_str_upper PySem.F.type_str_upper mt_upN (pv 5)) (fun _ _ => rfl)) (pv 7) (pv 6) rfl))))))) (pss_one (ps_ret (pv 3))))), ?_⟩
    walk_at "go"
    refine w_dcS (fun p i H1 => ∃ d, LdIn H H1 p d (sgs.take i) fun _ => []) (fun p H1 hp nw => ⟨fun _ => 0, hp, fun c hc => absurd hc (by simp), nw.same, nw.nn, fun c hc => absurd hc (by simp), fun c hc => absurd hc (by simp), fun c hc => absurd hc (by simp)⟩) ?_ ?_
    · rintro p i c H1 hc ⟨d, hI⟩
      have hc' : sgs[i]? = some c := by rw [← hc]; exact congrArg (·[i]?) tl_signs.symm
      have hnd : c ∉ sgs.take i := fun z => by
        have := take_snoc hc' ▸ (sgs_nd.sublist (List.take_sublist (i + 1) sgs))
        rw [List.nodup_append] at this
        exact this.2.2 c z c (List.mem_singleton.mpr rfl) rfl
      walk_at "go"
      refine w_dnewK (fun q H2 hq nq => ?_)
      refine w_kItDS (nq.at hI.hd) (by rw [leV, List.length_map, List.length_take]; exact Nat.lt_of_le_of_lt (Nat.min_le_right _ _) (by decide)) (fun H3 h3 o3 => ?_)
      have hin : ∀ e ∈ sgs.take (i + 1), e = c ∨ (e ≠ c ∧ e ∈ sgs.take i) := fun e he => by
        by_cases z : e = c
        · exact .inl z
        · rw [take_snoc hc', List.mem_append] at he
          exact .inr ⟨z, he.resolve_right fun y => z (List.mem_singleton.mp y)⟩
      refine ⟨fun e => if e = c then q else d e, ?_, fun e he => ?_, (hI.sm.nw nq).off o3 hI.nl, hI.nl, fun e he => ?_, fun e he => ?_, fun e he f hf z => ?_⟩
      · unfold leV at h3 ⊢
        rw [h3, putK_new _ (val_sgs_none hnd), take_snoc hc', List.map_append]
        refine congrArg some (congrArg HO.dK ?_)
        refine congr (congrArg _ (List.map_congr_left fun e he => ?_)) ?_
        · show _ = (Sum.inr (one e), V.ref (if e = c then q else d e))
          rw [if_neg (show ¬ e = c from fun z => hnd (z ▸ he))]
        · show _ = [((Sum.inr (one c) : Key), V.ref (if c = c then q else d c))]
          rw [if_pos rfl]
      · rcases hin e he with rfl | ⟨z, hz⟩
        · rw [if_pos rfl]
          exact o3.at (Nw.ne nq hI.hd).symm hq
        · rw [if_neg z]
          exact o3.at (hI.ne e hz) (nq.at (hI.hc e hz))
      · rcases hin e he with rfl | ⟨z, hz⟩
        · rw [if_pos rfl]
          exact hI.sm.free nq.nn
        · rw [if_neg z]
          exact hI.nd e hz
      · rcases hin e he with rfl | ⟨z, hz⟩
        · rw [if_pos rfl]
          exact (Nw.ne nq hI.hd).symm
        · rw [if_neg z]
          exact hI.ne e hz
      · rcases hin e he with rfl | ⟨ze, hze⟩
        · rcases hin f hf with rfl | ⟨zf, hzf⟩
          · rfl
          · rw [if_pos rfl, if_neg zf] at z
            exact absurd z.symm (Nw.ne nq (hI.hc f hzf))
        · rcases hin f hf with rfl | ⟨zf, hzf⟩
          · rw [if_neg ze, if_pos rfl] at z
            exact absurd z (Nw.ne nq (hI.hc e hze))
          · rw [if_neg ze, if_neg zf] at z
            exact hI.inj e hze f hzf z
    · rintro ld H1 ⟨d, hI⟩
      have hI : LdIn H H1 ld d sgs fun _ => [] := by
        have e : sgs.take (tl (Str.ofString "aAbBcCdDeEfFgGhH")).length = sgs := by
          rw [show tl (Str.ofString "aAbBcCdDeEfFgGhH") = sgs from tl_signs]
          exact List.take_length
        rw [e] at hI
        exact hI
      have ha1 := hI.sm _ _ ha
      walk_at "go"
      refine w_list (xs := us) (fun i σ H2 => ∃ (y2 y4 y5 y6 y7 : Option V), σ = [some (.int n), some (.ref a), y2, some (.ref ld), y4, y5, y6, y7] ∧ LdIn H H2 ld d sgs (LM (ms.take i)))
        ⟨none, none, none, none, none, rfl, hI.cong fun c _ => by rw [List.take_zero]; rfl⟩ (fun i σ H2 _ ⟨_, _, _, _, _, _, h⟩ => h.sm _ _ ha) ?_ ?_
      · rintro i v σ H2 hv ⟨y2, y4, y5, y6, y7, rfl, hJ⟩
        obtain ⟨m, hmi, t, rfl, ht⟩ := paired_get hm hv
        have ht2 := hJ.sm _ _ ht
        have hok : WOk n (ms.take i ++ [m]) := by rw [← take_snoc hmi]; exact ok.take _
        have hr' := hok.rg m (List.mem_append_right _ (List.mem_singleton.mpr rfl))
        have hsm := small_sgs ⟨hr'.1, hr'.2.1⟩
        have hgr := great_sgs ⟨hr'.1, hr'.2.1⟩
        have e1 := new_start hok
        have e2 := new_end hok
        have hne : m.1 - 32 ≠ m.1 := by omega
        have len0 : ∀ c, (kvI (LM (ms.take i) c)).length < sizeLine := fun c => by
          rw [kvI_len]
          exact lineLt_of (Nat.le_trans (LM_len _ _) (Nat.le_trans (by rw [List.length_take]; exact Nat.min_le_right _ _) hlen))
        walk_at "go"
        refine ⟨t, m, n, rfl, ht2, hr'.1, hr'.2.1, hr'.2.2.1, hr'.2.2.2.1, hr'.2.2.2.2.1, hr'.2.2.2.2.2, ?_⟩
        walk_at "go"
        refine w_kDGetS hJ.hd (val_sgs hsm) ?_
        have hd1 := hJ.hc _ hsm
        have hd2 := hJ.hc _ hgr
        walk_at "go"
        rw [val_kvI, e1]
        refine w_orF ?_
        walk_at "go"
        refine w_up1 ⟨hr'.1, hr'.2.1⟩ ?_
        refine w_kDGetS hJ.hd (val_sgs hgr) ?_
        walk_at "go"
        rw [val_kvI, e2]
        refine w_ifF ?_
        walk_at "go"
        refine w_kDGetS hJ.hd (val_sgs hsm) ?_
        walk_at "go"
        refine w_kDPutI hd1 (len0 _) (fun H3 h3 o3 => ?_)
        have hJ3 := hJ.put hsm e1 h3 o3
        walk_at "go"
        refine w_up1 ⟨hr'.1, hr'.2.1⟩ ?_
        refine w_kDGetS hJ3.hd (val_sgs hgr) ?_
        walk_at "go"
        have hd3 := hJ3.hc _ hgr
        rw [if_neg hne] at hd3
        refine w_kDPutI hd3 (len0 _) (fun H4 h4 o4 => ?_)
        have hJ4 := hJ3.put hgr (by rw [if_neg hne]; exact e2) (by rw [if_neg hne]; exact h4) o4
        walk_at "go"
        refine ⟨_, _, _, _, _, rfl, hJ4.cong fun c _ => ?_⟩
        rw [take_snoc hmi, LM_snoc]
        by_cases z1 : c = m.1 - 32
        · subst z1
          rw [if_pos rfl, if_neg hne, mvOn_great hr'.1]
          rfl
        · rw [if_neg z1]
          by_cases z2 : c = m.1
          · subst z2
            rw [if_pos rfl, mvOn_self]
            rfl
          · rw [if_neg z2, mvOn_other z2 z1 hr'.1, Option.toList, List.append_nil]
      · rintro σ H2 ⟨y2, y4, y5, y6, y7, rfl, hJ⟩
        walk_at "go"
        refine q ld d H2 hJ.nl hJ.nd hJ.sm ⟨hJ.hd, fun c hc => ?_⟩
        have e : ms.take us.length = ms := by rw [Paired.length hm, List.take_length]
        have := hJ.hc c hc
        rw [e] at this
        exact this
end
end Sf
namespace Sf
open PySem PySem.Spec PyProof.Rows L2 TL
section
variable {P : Program} {w : World} {K : PySem.W.Frag} {mg : Str → Option Value} {base : Heap} {C : Addr}
/-! ### World.__init__ -/
def spWI (C : Addr) : Sp := fun vs H Q _ => ∃ (p dx a : Addr) (n : Int) (us : List V) (ms : List Mv), vs = [.ref p, .int n, .ref a] ∧ H p = some (.ins C dx []) ∧ H a = some (.lst us) ∧ MvsAt H us ms ∧ WOk n ms ∧ ms.length ≤ 100000 ∧ 1 ≤ n ∧ n ≤ 1000 ∧
  ∀ H' G : Hp, WAt C G p n (LM ms) → Same G H' → (∀ b o, G b = some o → b = p ∨ H b = none) → (∀ b o, H b = some o → b ≠ p → H' b = some o) → Q .non H'
theorem sc_wi : FnScope ["self", "many", "moves"] ["self", "many", "moves"] (defScope s_World___init__) := ⟨rfl, rfl, rfl, by decide +kernel, rfl, by decide +kernel, by decide +kernel⟩
theorem has_wi (F : MAt K C "__init__" "World.__init__" s_World___init__ ["self", "many", "moves"]) (B : Blt mg) (T : WC K mg C) (h_Up : HasUp P w K mg base) (h_Lb : HasLb P w K mg base) {t1 : Tok} (C_MOST_PLACES : mg "MOST_PLACES" = some (.int 1000 t1)) : HasM P w K mg base C 4 "__init__" ["self", "many", "moves"] (spWI C) := F.has fun F => by
  obtain ⟨f_Up, fd_Up, g_Up, k_Up, b_Up, G_Up⟩ := h_Up
  obtain ⟨f_Lb, fd_Lb, g_Lb, k_Lb, b_Lb, G_Lb⟩ := h_Lb
  refine F.ok sc_wi (fun vs H Q E h => ?_) (fun cdv A outer s H vs Q E hr h => ?_)
  · obtain ⟨p, dx, a, n, us, ms, rfl, _⟩ := h
    rfl
  · obtain ⟨p, dx, a, n, us, ms, rfl, hp, ha, hm, ok, hlen, n1, n2, q⟩ := h
    refine ⟨_, (pss_cons (ps_if (PW.pt (pw_or (pt_not (pt_val (pe_call G_Up (hr.mono (by decide)) (by rfl) g_Up k_Up b_Up .nil pass0 (pa_cons (pv 1) (pa_cons (pe_gI (by rfl) C_MOST_PLACES) pa_nil))))) (pw_or1 (pt_cmpR op_eq (pv 1) pe_int (nomark _))))) (pss_one (ps_never)) pss_nil) (pss_cons (ps_fld (pv 0) (pe_listRg rfl (by rfl) B.list (prg_1 (by rfl) B.range (pv 1))) rfl) (pss_one (ps_fld (pv 0) (pe_call G_Lb (hr.mono (by decide)) (by rfl) g_Lb k_Lb b_Lb .nil pass0 (pa_cons (pv 1) (pa_cons (pv 2) pa_nil))) rfl)))), ?_⟩
    walk_at "go"
    refine ⟨_, _, rfl, trivial, ?_⟩
    rw [upB_true (by omega) n2]
    walk_at "go"
    refine w_if2 (fun z => absurd z (by omega)) fun _ => ?_
    walk_at "go"
    refine w_kRgL (.of_le (by decide) (by omega) (by decide) (by omega)) (fun pl H1 hpl npl => ?_)
    walk_at "go"
    refine w_kSFld (npl.at hp) T.cl T.nP (by decide) (fun H2 hp2 o2 => ?_)
    have nep : a ≠ p := ne_of ha hp (by intro z; cases z)
    have hpl2 : H2 pl = some (.lst (rgV 0 n)) := o2.at (Nw.ne npl hp).symm hpl
    have t2 : Tps H H2 := fun b xs h => o2.at (ne_of h hp (by intro z; cases z)) (npl.at h)
    walk_at "go"
    refine ⟨n, a, us, ms, rfl, o2.at nep (npl.at ha), hm.tps t2, ok, hlen, fun ld d H3 nld nd s3 hL => ?_⟩
    walk_at "go"
    refine w_kSFld (s3.at hp2) T.cl T.nL (by rw [show (putF "places" (V.ref pl) [] : List (Str × V)).length = 1 from rfl]; decide) (fun H4 hp4 o4 => ?_)
    walk_at "go"
    have hpl3 := s3.at hpl2
    have npp : pl ≠ p := (Nw.ne npl hp).symm
    have nlp : ld ≠ p := fun z => by rw [z, hp2] at nld; cases nld
    have ndp : ∀ c ∈ sgs, d c ≠ p := fun c hc z => by have := nd c hc; rw [z, hp2] at this; cases this
    have hnone : ∀ b, b ≠ p → H2 b = none → H b = none := fun b hb h => by
      cases e : H b with
      | none => rfl
      | some o => rw [o2.at hb (npl.at e)] at h; cases h
    refine q H4 (fun b => if b = p ∨ b = pl ∨ b = ld ∨ ∃ c ∈ sgs, b = d c then H4 b else none) ⟨dx, pl, ld, d, ?_, ?_, ?_, fun c hc => ?_⟩ (fun b o e => ?_) (fun b o e => ?_) (fun b o e hb => ?_)
    · show (if _ then _ else _) = _
      rw [if_pos (.inl rfl)]
      exact hp4
    · show (if _ then _ else _) = _
      rw [if_pos (.inr (.inl rfl))]
      exact o4.at npp hpl3
    · show (if _ then _ else _) = _
      rw [if_pos (.inr (.inr (.inl rfl)))]
      exact o4.at nlp hL.hd
    · show (if _ then _ else _) = _
      rw [if_pos (.inr (.inr (.inr ⟨c, hc, rfl⟩)))]
      exact o4.at (ndp c hc) (hL.hc c hc)
    · have e : (if _ then _ else _) = _ := e
      split at e
      · exact e
      · cases e
    · have e : (if _ then _ else _) = _ := e
      split at e
      · rename_i h
        rcases h with h | h | h | ⟨c, hc, h⟩
        · exact .inl h
        · exact .inr (by rw [h]; exact npl.nn)
        · exact .inr (hnone b (by rw [h]; exact nlp) (by rw [h]; exact nld))
        · exact .inr (hnone b (by rw [h]; exact ndp c hc) (by rw [h]; exact nd c hc))
      · cases e
    · exact o4.at hb (s3.at (o2.at hb (npl.at e)))
/-- a new world: what stands of it, and what stood -/
theorem w_world {H : Hp} {Q : VK} {a : Addr} {n : Int} {us : List V} {ms : List Mv} {E : XK} (ha : H a = some (.lst us)) (hm : MvsAt H us ms) (ok : WOk n ms) (hlen : ms.length ≤ 100000) (n1 : 1 ≤ n) (n2 : n ≤ 1000)
    (k : ∀ (p : Addr) (H' G : Hp), WAt C G p n (LM ms) → Same G H' → (∀ b o, G b = some o → H b = none) → Same H H' → Q (.ref p) H') : kMake C (spWI C) [] E Q [.int n, .ref a] H := fun x dx nx ndx hne => by
  have sm : Same H (upd (upd H dx (.own x)) x (.ins C dx [])) := (same_upd ndx).trans (same_upd (by rw [upd_ne hne.symm]; exact nx))
  refine ⟨x, dx, a, n, us, ms, rfl, upd_same, sm.at ha, hm.tps (.of sm), ok, hlen, n1, n2, fun H' G hW sG hG hf => ⟨rfl, k x H' G hW sG (fun b o e => ?_) fun b o e => hf b o (sm _ _ e) (ne_of_none e nx)⟩⟩
  rcases hG b o e with h | h
  · rw [h]
    exact nx
  · exact sm.free h
end
end Sf
namespace Sf
open PySem PySem.Spec PyProof.Rows L2 TL
section
variable {P : Program} {w : World} {K : PySem.W.Frag} {mg : Str → Option Value} {base : Heap} {C : Addr}
/-! ### World.led -/
def spLed (C : Addr) : Sp := fun vs H Q _ => ∃ (p : Addr) (n x : Int) (L : Nat → List (Int × Int)) (z : Str), vs = [.ref p, .str z, .int x] ∧ WAt C H p n L ∧ Wd z ∧ Q (oV (ledM (stp L) (tl z) x)) H
theorem sc_led : FnScope ["self", "word", "place", "here", "sign"] ["self", "word", "place"] (defScope s_World_led) := ⟨rfl, rfl, rfl, by decide +kernel, rfl, by decide +kernel, by decide +kernel⟩
theorem has_led (F : MAt K C "led" "World.led" s_World_led ["self", "word", "place"]) (T : WC K mg C) : HasM P w K mg base C 1 "led" ["self", "word", "place"] (spLed C) := F.has fun F => by
  refine F.ok sc_led (fun vs H Q E h => ?_) (fun cdv A outer s H vs Q E hr h => ?_)
  · obtain ⟨p, n, x, L, z, rfl, _⟩ := h
    rfl
  · obtain ⟨p, n, x, L, z, rfl, ⟨dx, pl, ld, d, hp, hpl, hL⟩, hz, q⟩ := h
    refine ⟨_, (pss_cons (ps_set (i := 3) sc_led.nd rfl (.inl rfl) (pv 2)) (pss_cons (ps_for PassesOwn.never rfl (pi_str (pv 1)) (pg_name (i := 4) sc_led.nd rfl (.inl rfl)) (pss_cons (ps_set (i := 3) sc_led.nd rfl (.inl rfl) (pe_dget1 (hu_of hr) (pe_dget (hu_of hr) (pe_fld (pv 0) rfl) (pv 4) (fun _ _ => rfl)) (pv 3) ⟨rfl, rfl, rfl, rfl⟩)) (pss_one (ps_if (pt_cmpR op_isNn (pv 3) pe_non (nomark _)) (pss_one (ps_ret pe_non)) pss_nil)))) (pss_one (ps_ret (pv 3))))), ?_⟩
    have hld := hL.hd
    walk_at "go"
    refine w_str (fun i σ H2 => ∃ (y4 : Option V) (y : Int), σ = [some (.ref p), some (.str z), some (.int x), some (.int y), y4] ∧ H2 = H ∧ ledM (stp L) ((tl z).take i) x = some y) ⟨none, x, rfl, rfl, rfl⟩ ?_ ?_
    · rintro i c σ H2 hc ⟨y4, y, rfl, rfl, e⟩
      have hs : c ∈ sgs := sgs_iff.mpr (hz c (List.mem_of_getElem? hc))
      have hdc := hL.hc c hs
      have e1 := ledM_snoc (st := stp L) (x := x) hc
      rw [e] at e1
      walk_at "go"
      refine w_kFld hp T.cl T.nL (wf_leads _ _) ?_
      walk_at "go"
      refine w_kDGetS hld (val_sgs hs) ?_
      walk_at "go"
      rw [getD_kvI]
      cases e2 : lk (L c) y with
      | none =>
        walk_at "go"
        have e3 : ledM (stp L) ((tl z).take (i + 1)) x = none := by rw [e1]; exact e2
        rw [ledM_none e3] at q
        exact q
      | some y' =>
        walk_at "go"
        exact ⟨_, y', rfl, rfl, by rw [e1]; exact e2⟩
    · rintro σ H2 ⟨y4, y, rfl, rfl, e⟩
      walk_at "go"
      rw [List.take_length] at e
      rw [e] at q
      exact q
def plc (n : Int) : List Int := (List.range n.toNat).map fun i => ((i : Nat) : Int)
theorem rgV_plc (n : Int) : rgV 0 n = (plc n).map V.int := by
  unfold rgV plc
  rw [List.map_map, Int.sub_zero]
  exact List.map_congr_left fun i _ => by show V.int (0 + (i : Int)) = V.int (i : Int); rw [Int.zero_add]
theorem oV_inj {a b : Option Int} (h : oV a = oV b) : a = b := by
  cases a <;> cases b <;> first | rfl | cases h | skip
  rfl
theorem scal_oV (a b : Option Int) : scal (oV a) (oV b) = true := by
  cases a <;> cases b <;> rfl
end
end Sf
namespace Sf
open PySem PySem.Spec PyProof.Rows L2 TL
section
variable {P : Program} {w : World} {K : PySem.W.Frag} {mg : Str → Option Value} {base : Heap} {C : Addr}
/-! ### _law_world: some world -/
def spLw : Sp := fun vs H Q _ => ∃ (b l : Addr) (u : Int) (z : Str), vs = [.ref b, .int u, .str z] ∧ Bag H b l ∧ 1 ≤ u ∧ u ≤ 1000 ∧ (∀ c ∈ tl z, 97 ≤ c ∧ c ≤ 104) ∧ (tl z).Nodup ∧ (tl z).length ≤ 8 ∧
  ∀ (t f : Addr) (n : Int) (us : List V) (ms : List Mv) (H' : Hp), H' t = some (.tup [.int n, .ref f]) → H' f = some (.lst us) → MvsAt H' us ms → WOk n ms → 1 ≤ n → n ≤ u → ms.length ≤ 8000 → (∀ m ∈ ms, m.1 ∈ tl z) → Bag H' b l → Fx b H H' → H f = none → f ≠ b → f ≠ l → Q (.ref t) H'
abbrev HasLw (P : Program) (w : World) (K : PySem.W.Frag) (mg : Str → Option Value) (base : Heap) : Prop := Has P w K mg base 2 "_law_world" ["_law_bag", "_law_upto", "_law_letters"] spLw
theorem sc_lw : FnScope ["_law_bag", "_law_upto", "_law_letters", "_law_many", "_law_found", "_law_letter", "_law_starts", "_law_ends", "_law_turn", "_law_start"] ["_law_bag", "_law_upto", "_law_letters"] (defScope s__law_world) := ⟨rfl, rfl, rfl, by decide +kernel, rfl, by decide +kernel, by decide +kernel⟩
theorem plc_mem {n x : Int} : x ∈ plc n ↔ 0 ≤ x ∧ x < n := by
  unfold plc
  rw [List.mem_map]
  constructor
  · rintro ⟨i, hi, rfl⟩
    have := List.mem_range.mp hi
    omega
  · rintro ⟨h0, h1⟩
    exact ⟨x.toNat, List.mem_range.mpr (by omega), by omega⟩
theorem plc_nodup (n : Int) : (plc n).Nodup := by
  unfold plc
  refine List.Pairwise.map _ (fun a b h => ?_) List.nodup_range
  omega
theorem plc_len {n : Int} : (plc n).length = n.toNat := by
  unfold plc
  rw [List.length_map, List.length_range]
theorem plc_at {n : Int} {j : Nat} (h : j < n.toNat) : (plc n)[j]? = some (0 + (j : Int)) := by
  unfold plc
  rw [List.getElem?_map, List.getElem?_range h, Int.zero_add]
  rfl
theorem abc_mem {d : Int} : ∀ c ∈ tl (cutS (Str.ofString "abc") none (some d)), 97 ≤ c ∧ c ≤ 104 := fun c hc => by
  rw [tl_cut] at hc
  have := List.mem_of_mem_drop (List.mem_of_mem_take hc)
  rw [show tl (Str.ofString "abc") = [97, 98, 99] by decide +kernel] at this
  simp only [List.mem_cons, List.not_mem_nil, or_false] at this
  omega
theorem abc_nd {d : Int} : (tl (cutS (Str.ofString "abc") none (some d))).Nodup := by
  rw [tl_cut]
  refine List.Nodup.sublist ((List.take_sublist _ _).trans (List.drop_sublist _ _)) ?_
  rw [show tl (Str.ofString "abc") = [97, 98, 99] by decide +kernel]
  decide
theorem abc_len {d : Int} : (tl (cutS (Str.ofString "abc") none (some d))).length ≤ 8 := by
  rw [tl_cut, List.length_take, List.length_drop, show tl (Str.ofString "abc") = [97, 98, 99] by decide +kernel]
  exact Nat.le_trans (Nat.min_le_right _ _) (Nat.le_trans (Nat.sub_le _ _) (by decide))
/-- what is left to draw from -/
structure Left (n : Int) (S : List Int) (j : Nat) : Prop where
  nd : S.Nodup
  rg : ∀ x ∈ S, 0 ≤ x ∧ x < n
  ln : S.length + j = n.toNat
theorem Left.pop {n x : Int} {S R : List Int} {j : Nat} (h : Left n S j) (p : S.Perm (x :: R)) : Left n R (j + 1) ∧ x ∉ R ∧ x ∈ S ∧ (∀ y ∈ R, y ∈ S) := by
  have nd := p.nodup_iff.mp h.nd
  rw [List.nodup_cons] at nd
  have hl := p.length_eq
  rw [List.length_cons] at hl
  have := h.ln
  exact ⟨⟨nd.2, fun y hy => h.rg y (p.mem_iff.mpr (List.mem_cons_of_mem _ hy)), by omega⟩, nd.1, p.mem_iff.mpr List.mem_cons_self, fun y hy => p.mem_iff.mpr (List.mem_cons_of_mem _ hy)⟩
theorem WOk.snoc {n : Int} {ms : List Mv} {m : Mv} (h : WOk n ms) (hr : 97 ≤ m.1 ∧ m.1 ≤ 104 ∧ 0 ≤ m.2.1 ∧ m.2.1 < n ∧ 0 ≤ m.2.2 ∧ m.2.2 < n) (hp : ∀ k ∈ ms, k.1 = m.1 → k.2.1 ≠ m.2.1 ∧ k.2.2 ≠ m.2.2) : WOk n (ms ++ [m]) := by
  refine ⟨fun k hk => ?_, List.pairwise_append.mpr ⟨h.pw, List.pairwise_singleton _ _, fun k hk m' hm' => ?_⟩⟩
  · rcases List.mem_append.mp hk with hk | hk
    · exact h.rg k hk
    · rw [List.mem_singleton.mp hk]
      exact hr
  · rw [List.mem_singleton.mp hm']
    exact hp k hk
theorem paired_snoc {α β : Type} {R : α → β → Prop} {a : α} {b : β} (h : R a b) : ∀ {as : List α} {bs : List β}, Paired R as bs → Paired R (as ++ [a]) (bs ++ [b])
  | _, _, .nil => .cons h .nil
  | _, _, .cons r t => .cons r (paired_snoc h t)
theorem has_lw (F : FnAt K mg "_law_world" s__law_world ["_law_bag", "_law_upto", "_law_letters"]) (B : Blt mg) (h_Pu : HasPull P w K mg base) : HasLw P w K mg base := F.has fun F => by
  obtain ⟨f_Pu, fd_Pu, g_Pu, k_Pu, b_Pu, G_Pu⟩ := h_Pu
  refine F.ok sc_lw (fun vs H Q E h => ?_) (fun cdv A outer s H vs Q E hr h => ?_)
  · obtain ⟨b, l, u, z, rfl, _⟩ := h
    rfl
  · obtain ⟨b, l, u, z, rfl, hB, u0, u1, hz, hnd, hz8, q⟩ := h
    refine ⟨_, (pss_cons (ps_set (i := 3) sc_lw.nd rfl (.inl rfl) (pe_op op_add pe_int (pe_call G_Pu (hr.mono (by decide)) (by rfl) g_Pu k_Pu b_Pu .nil pass0 (pa_cons (pv 0) (pa_cons (pv 1) pa_nil))))) (pss_cons (ps_set (i := 4) sc_lw.nd rfl (.inl rfl) (pe_lst pa_nil)) (pss_cons (ps_for PassesOwn.never rfl (pi_str (pv 2)) (pg_name (i := 5) sc_lw.nd rfl (.inl rfl)) (pss_cons (ps_set (i := 6) sc_lw.nd rfl (.inl rfl) (pe_listRg rfl (by rfl) B.list (prg_1 (by rfl) B.range (pv 3)))) (pss_cons (ps_set (i := 7) sc_lw.nd rfl (.inl rfl) (pe_listRg rfl (by rfl) B.list (prg_1 (by rfl) B.range (pv 3)))) (pss_one (ps_for PassesOwn.never rfl (pi_range1 rfl B.range (pa_cons (pe_call G_Pu (hr.mono (by decide)) (by rfl) g_Pu k_Pu b_Pu .nil pass0 (pa_cons (pv 0) (pa_cons (pe_op op_add (pv 3) pe_int) pa_nil))) pa_nil)) (pg_name (i := 8) sc_lw.nd rfl (.inl rfl)) (pss_cons (ps_set (i := 9) sc_lw.nd rfl (.inl rfl) (pe_bm PySem.F.plainAttrs_list PySem.F.slot_list_pop PySem.F.type_list_pop mt_popAt (pv 6) (pa_cons (pe_call G_Pu (hr.mono (by decide)) (by rfl) g_Pu k_Pu b_Pu .nil pass0 (pa_cons (pv 0) (pa_cons (pe_callB call_lenQ (by rfl) B.len PySem.boot_len (pa_cons (pv 6) pa_nil)) pa_nil))) pa_nil))) (pss_one (ps_expr (pe_bm PySem.F.plainAttrs_list PySem.F.slot_list_append PySem.F.type_list_append mt_append (pv 4) (pa_cons (pe_tup (pa_cons (pv 5) (pa_cons (pv 9) (pa_cons (pe_bm PySem.F.plainAttrs_list PySem.F.slot_list_pop PySem.F.type_list_pop mt_popAt (pv 7) (pa_cons (pe_call G_Pu (hr.mono (by decide)) (by rfl) g_Pu k_Pu b_Pu .nil pass0 (pa_cons (pv 0) (pa_cons (pe_callB call_lenQ (by rfl) B.len PySem.boot_len (pa_cons (pv 7) pa_nil)) pa_nil))) pa_nil)) pa_nil)))) pa_nil)))))))))) (pss_one (ps_ret (pe_tup (pa_cons (pv 3) (pa_cons (pv 4) pa_nil)))))))), ?_⟩
    walk_at "go"
    refine ⟨b, l, u, rfl, hB, by omega, by omega, fun d H1 d0 d1 B1 f1 => ?_⟩
    walk_at "go"
    refine w_newL (by decide) (fun f H2 hf nf => ?_)
    have B2 := B1.nw nf
    have nfb := B1.ne nf.nn
    have nfl := B1.neL nf.nn
    have nfH : H f = none := by
      cases e : H f with
      | none => rfl
      | some o => have := nf.nn; rw [f1 _ _ e nfb] at this; cases this
    obtain ⟨n, en⟩ : ∃ n, n = 1 + d := ⟨_, rfl⟩
    rw [← en]
    walk_at "go"
    refine w_str (fun i σ H3 => ∃ (y5 y6 y7 y8 y9 : Option V) (us : List V) (ms : List Mv), σ = [some (.ref b), some (.int u), some (.str z), some (.int n), some (.ref f), y5, y6, y7, y8, y9] ∧ H3 f = some (.lst us) ∧ MvsAt H3 us ms ∧ WOk n ms ∧ Bag H3 b l ∧ Fx b H H3 ∧ (∀ m ∈ ms, m.1 ∈ (tl z).take i) ∧ ms.length ≤ i * n.toNat)
      ⟨none, none, none, none, none, [], [], rfl, hf, .nil, ⟨fun m hm => absurd hm (by simp), .nil⟩, B2, f1.nw nf, fun m hm => absurd hm (by simp), Nat.zero_le _⟩ ?_ ?_
    · rintro i c σ H3 hc ⟨y5, y6, y7, y8, y9, us, ms, rfl, hf3, hm3, ok3, B3, f3, hin3, hl3⟩
      have hi8 : i < 8 := Nat.lt_of_lt_of_le (List.getElem?_eq_some_iff.mp hc).1 hz8
      have hc97 := hz c (List.mem_of_getElem? hc)
      have hnotin : ∀ m ∈ ms, m.1 ≠ c := fun m hm e => by
        have h1 := hin3 m hm
        rw [e] at h1
        have h2 := take_snoc hc ▸ (hnd.sublist (List.take_sublist (i + 1) (tl z)))
        rw [List.nodup_append] at h2
        exact h2.2.2 c h1 c (List.mem_singleton.mpr rfl) rfl
      walk_at "go"
      refine w_kRgL (.of_le (by decide) (by omega) (by decide) (by omega)) (fun s1 H4 hs4 ns4 => ?_)
      walk_at "go"
      refine w_kRgL (.of_le (by decide) (by omega) (by decide) (by omega)) (fun e1 H5 he5 ne5 => ?_)
      have B4 := B3.nw ns4
      have B5 := B4.nw ne5
      have sb := B3.ne ns4.nn
      have sl := B3.neL ns4.nn
      have eb := B4.ne ne5.nn
      have el := B4.neL ne5.nn
      have sf : f ≠ s1 := ns4.ne hf3
      have ef : f ≠ e1 := ne5.ne (ns4.at hf3)
      have se : s1 ≠ e1 := ne5.ne hs4
      have sH : H s1 = none := by
        cases e : H s1 with
        | none => rfl
        | some o => have := ns4.nn; rw [f3 _ _ e sb] at this; cases this
      have eH : H e1 = none := by
        cases e : H e1 with
        | none => rfl
        | some o => have := ne5.nn; rw [ns4.at (f3 _ _ e eb)] at this; cases this
      walk_at "go"
      refine ⟨b, l, n + 1, rfl, B5, by omega, by omega, fun k H6 k0 k1 B6 f6 => ?_⟩
      walk_at "go"
      refine w_kRng1 (by omega) (by omega) ?_
      refine w_range (fun j σ H7 => ∃ (y8 y9 : Option V) (us' : List V) (ms' : List Mv) (S R : List Int), σ = [some (.ref b), some (.int u), some (.str z), some (.int n), some (.ref f), some (.str (one c)), some (.ref s1), some (.ref e1), y8, y9] ∧ H7 f = some (.lst us') ∧ MvsAt H7 us' ms' ∧ WOk n ms' ∧ Bag H7 b l ∧ Fx b H H7 ∧ (∀ m ∈ ms', m.1 ∈ (tl z).take (i + 1)) ∧ ms'.length ≤ i * n.toNat + j ∧
          H7 s1 = some (.lst (S.map V.int)) ∧ H7 e1 = some (.lst (R.map V.int)) ∧ Left n S j ∧ Left n R j ∧ ∀ m ∈ ms', m.1 = c → m.2.1 ∉ S ∧ m.2.2 ∉ R)
        ⟨_, _, us, ms, plc n, plc n, rfl, f6.at nfb (ne5.at (ns4.at hf3)), (hm3.tps (.of (ns4.same.trans ne5.same))).tps (.fx B5 f6), ok3, B6, ((f3.nw ns4).nw ne5).trans f6, fun m hm => by rw [take_snoc hc]; exact List.mem_append_left _ (hin3 m hm), hl3, by rw [← rgV_plc]; exact f6.at sb (ne5.at hs4), by rw [← rgV_plc]; exact f6.at eb he5, ⟨plc_nodup n, fun x hx => plc_mem.mp hx, plc_len⟩, ⟨plc_nodup n, fun x hx => plc_mem.mp hx, plc_len⟩, fun m hm e => absurd e (hnotin m hm)⟩ ?_ ?_
      · rintro j σ H7 hj ⟨y8, y9, us', ms', S, R, rfl, hf7, hm7, ok7, B7, f7, hin7, hl7, hs7, he7, LS, LR, hd7⟩
        have lS := LS.ln
        have lR := LR.ln
        walk_at "go"
        refine ⟨b, l, _, rfl, B7, by rw [List.length_map]; omega, by rw [List.length_map]; omega, fun d H8 d0 d1 B8 f8 => ?_⟩
        rw [List.length_map] at d1
        walk_at "go"
        refine w_popI (f8.at sb hs7) d0 d1 (by omega) (fun x S' H9 pS hs9 o9 => ?_)
        obtain ⟨LS', xS', xS, sS⟩ := LS.pop pS
        have B9 := B8.off sb sl o9
        have he9 : H9 e1 = some (.lst (R.map V.int)) := o9.at se.symm (f8.at eb he7)
        have hf9 : H9 f = some (.lst us') := o9.at sf (f8.at nfb hf7)
        have t9 : Tps H7 H9 := (Tps.fx B7 f8).off (f8.at sb hs7) o9
        walk_at "go"
        refine ⟨b, l, _, rfl, B9, by rw [List.length_map]; omega, by rw [List.length_map]; omega, fun d' H10 d0' d1' B10 f10 => ?_⟩
        rw [List.length_map] at d1'
        walk_at "go"
        refine w_popI (f10.at eb he9) d0' d1' (by omega) (fun y R' H11 pR he11 o11 => ?_)
        obtain ⟨LR', yR', yR, sR⟩ := LR.pop pR
        have B11 := B10.off eb el o11
        have hf11 : H11 f = some (.lst us') := o11.at ef (f10.at nfb hf9)
        have hs11 : H11 s1 = some (.lst (S'.map V.int)) := o11.at se (f10.at sb hs9)
        have t11 : Tps H7 H11 := t9.trans ((Tps.fx B9 f10).off (f10.at eb he9) o11)
        walk_at "go"
        refine w_newT (by walk_at "sz") (fun t H12 ht12 nt12 => ?_)
        have t12 : Tps H7 H12 := t11.trans (.of nt12.same)
        have hlu : us'.length = ms'.length := Paired.length hm7
        have hjn : i * n.toNat + j ≤ 8000 := Nat.le_trans (Nat.add_le_add (Nat.mul_le_mul (show i ≤ 7 by omega) (show n.toNat ≤ 1000 by omega)) (show j ≤ 1000 by omega)) (by decide)
        walk_at "go"
        refine w_append (nt12.at hf11) (lineLt_of (by omega)) (fun H13 hf13 o13 => ?_)
        have nft : f ≠ t := nt12.ne hf11
        walk_at "go"
        refine ⟨_, _, us' ++ [.ref t], ms' ++ [(c, x, y)], S', R', rfl, hf13, paired_snoc ⟨t, rfl, o13.at nft.symm ht12⟩ (hm7.tps (t12.off (nt12.at hf11) o13)), ok7.snoc ?_ ?_, (B11.nw nt12).off nfb nfl o13, ?_, ?_, ?_, o13.at sf.symm (nt12.at hs11), o13.at ef.symm (nt12.at he11), LS', LR', ?_⟩
        · exact ⟨hc97.1, hc97.2, (LS.rg x xS).1, (LS.rg x xS).2, (LR.rg y yR).1, (LR.rg y yR).2⟩
        · intro k hk e
          have := hd7 k hk e
          exact ⟨fun z => this.1 (z ▸ xS), fun z => this.2 (z ▸ yR)⟩
        · exact ((((f7.trans f8).off o9 sH).trans f10).off o11 eH |>.nw nt12).off o13 nfH
        · intro m hm
          rcases List.mem_append.mp hm with hm | hm
          · exact hin7 m hm
          · rw [List.mem_singleton.mp hm, take_snoc hc]
            exact List.mem_append_right _ (List.mem_singleton.mpr rfl)
        · rw [List.length_append]
          show ms'.length + 1 ≤ _
          omega
        · intro m hm e
          rcases List.mem_append.mp hm with hm | hm
          · have := hd7 m hm e
            exact ⟨fun z => this.1 (sS _ z), fun z => this.2 (sR _ z)⟩
          · rw [List.mem_singleton.mp hm]
            exact ⟨xS', yR'⟩
      · rintro σ H7 ⟨y8, y9, us', ms', S, R, rfl, hf7, hm7, ok7, B7, f7, hin7, hl7, hs7, he7, LS, LR, hd7⟩
        refine ⟨_, _, _, _, _, us', ms', rfl, hf7, hm7, ok7, B7, f7, hin7, ?_⟩
        have h1 : (i + 1) * n.toNat = i * n.toNat + n.toNat := Nat.succ_mul ..
        omega
    · rintro σ H3 ⟨y5, y6, y7, y8, y9, us, ms, rfl, hf3, hm3, ok3, B3, f3, hin3, hl3⟩
      walk_at "go"
      refine w_newT (by walk_at "sz") (fun t H4 ht4 nt4 => ?_)
      refine q t f n us ms H4 ht4 (nt4.at hf3) (hm3.tps (.of nt4.same)) ok3 (by omega) (by omega) ?_ (fun m hm => ?_) (B3.nw nt4) (f3.nw nt4) nfH nfb nfl
      · exact Nat.le_trans hl3 (Nat.le_trans (Nat.mul_le_mul hz8 (show n.toNat ≤ 1000 by omega)) (by decide))
      · exact List.mem_of_mem_take (hin3 m hm)
end
end Sf
namespace Sf
open PySem PySem.Spec PyProof.Rows L2 TL
/-! ### the law's own leading -/
def hitS (c : Nat) (x : Int) (m : Mv) : Option Int := if m.1 = c ∧ m.2.1 = x then some m.2.2 else none
def hitG (c : Nat) (x : Int) (m : Mv) : Option Int := if m.1 = c ∧ m.2.2 = x then some m.2.1 else none
theorem hitS_lk {c : Nat} {x : Int} : ∀ {ms : List Mv}, (∀ m ∈ ms, m.1 ≠ c + 32) → lk (LM ms c) x = (ms.filterMap (hitS c x)).head?
  | [], _ => rfl
  | m :: r, h => by
    have ih := hitS_lk (c := c) (x := x) fun k hk => h k (List.mem_cons_of_mem _ hk)
    have hm := h m List.mem_cons_self
    unfold LM at ih ⊢
    by_cases e : m.1 = c
    · have e1 : mvOn c m = some (m.2.1, m.2.2) := by unfold mvOn; rw [if_pos e]
      rw [List.filterMap_cons_some e1]
      by_cases e2 : m.2.1 = x
      · have e3 : hitS c x m = some m.2.2 := by unfold hitS; rw [if_pos ⟨e, e2⟩]
        rw [List.filterMap_cons_some e3]
        unfold lk
        rw [List.find?_cons, decide_eq_true e2]
        rfl
      · have e3 : hitS c x m = none := by unfold hitS; rw [if_neg (fun z => e2 z.2)]
        rw [List.filterMap_cons_none e3, ← ih]
        unfold lk
        rw [List.find?_cons, decide_eq_false e2]
    · have e1 : mvOn c m = none := by unfold mvOn; rw [if_neg e, if_neg hm]
      have e3 : hitS c x m = none := by unfold hitS; rw [if_neg (fun z => e z.1)]
      rw [List.filterMap_cons_none e1, List.filterMap_cons_none e3]
      exact ih
theorem hitG_lk {c : Nat} {x : Int} : ∀ {ms : List Mv}, (∀ m ∈ ms, m.1 ≠ c) → lk (LM ms c) x = (ms.filterMap (hitG (c + 32) x)).head?
  | [], _ => rfl
  | m :: r, h => by
    have ih := hitG_lk (c := c) (x := x) fun k hk => h k (List.mem_cons_of_mem _ hk)
    have hm := h m List.mem_cons_self
    unfold LM at ih ⊢
    by_cases e : m.1 = c + 32
    · have e1 : mvOn c m = some (m.2.2, m.2.1) := by unfold mvOn; rw [if_neg hm, if_pos e]
      rw [List.filterMap_cons_some e1]
      by_cases e2 : m.2.2 = x
      · have e3 : hitG (c + 32) x m = some m.2.1 := by unfold hitG; rw [if_pos ⟨e, e2⟩]
        rw [List.filterMap_cons_some e3]
        unfold lk
        rw [List.find?_cons, decide_eq_true e2]
        rfl
      · have e3 : hitG (c + 32) x m = none := by unfold hitG; rw [if_neg (fun z => e2 z.2)]
        rw [List.filterMap_cons_none e3, ← ih]
        unfold lk
        rw [List.find?_cons, decide_eq_false e2]
    · have e1 : mvOn c m = none := by unfold mvOn; rw [if_neg hm, if_neg e]
      have e3 : hitG (c + 32) x m = none := by unfold hitG; rw [if_neg (fun z => e z.1)]
      rw [List.filterMap_cons_none e1, List.filterMap_cons_none e3]
      exact ih
theorem fm_snoc {α β : Type} {f : α → Option β} {l : List α} {i : Nat} {x : α} (h : l[i]? = some x) : (l.take (i + 1)).filterMap f = (l.take i).filterMap f ++ (f x).toList := by
  rw [take_snoc h, List.filterMap_append, List.filterMap_cons]
  cases f x <;> rfl
section
variable {P : Program} {w : World} {K : PySem.W.Frag} {mg : Str → Option Value} {base : Heap} {C : Addr}
def spLld : Sp := fun vs H Q _ => ∃ (a : Addr) (us : List V) (ms : List Mv) (z : Str) (x : Int), vs = [.ref a, .str z, .int x] ∧ H a = some (.lst us) ∧ MvsAt H us ms ∧ (∀ m ∈ ms, 97 ≤ m.1 ∧ m.1 ≤ 104) ∧ ms.length ≤ 100000 ∧ Wd z ∧
  ∀ H', Same H H' → Q (oV (ledM (stp (LM ms)) (tl z) x)) H'
abbrev HasLld (P : Program) (w : World) (K : PySem.W.Frag) (mg : Str → Option Value) (base : Heap) : Prop := Has P w K mg base 1 "_law_led" ["_law_moves", "_law_word_here", "_law_place"] spLld
theorem sc_lld : FnScope ["_law_moves", "_law_word_here", "_law_place", "_law_sign_here", "_law_letter", "_law_start", "_law_end", "_law_ends"] ["_law_moves", "_law_word_here", "_law_place"] (defScope s__law_led) := ⟨rfl, rfl, rfl, by decide +kernel, rfl, by decide +kernel, by decide +kernel⟩
theorem has_lld (F : FnAt K mg "_law_led" s__law_led ["_law_moves", "_law_word_here", "_law_place"]) : HasLld P w K mg base := F.has fun F => by
  refine F.ok sc_lld (fun vs H Q E h => ?_) (fun cdv A outer s H vs Q E hr h => ?_)
  · obtain ⟨a, us, ms, z, x, rfl, _⟩ := h
    rfl
  · obtain ⟨a, us, ms, z, x, rfl, ha, hm, hms, hlen, hz, q⟩ := h
    refine ⟨_, (pss_cons (ps_for PassesOwn.never rfl (pi_str (pv 1)) (pg_name (i := 3) sc_lld.nd rfl (.inr rfl)) (pss_one (ps_if (PW.pt (pw_and (pt_cmpR op_notNn (pv 2) pe_non (nomark _)) (pw_and1 (pt_cmpR op_inSg (pv 3) pe_str rfl)))) (pss_cons (ps_setLc (i := 7) (own := [("_law_letter", 4), ("_law_start", 5), ("_law_end", 6)]) (g := gTup K 3 (gCons (gName 4) (gCons (gName 5) (gCons (gName 6) gNil)))) (by rfl) sc_lld.nd rfl rfl (sw_true rfl rfl rfl (by decide +kernel)) (pi_list (pv 0)) (blkOk_by (own := [("_law_letter", 4), ("_law_start", 5), ("_law_end", 6)]) (N := ["_law_moves", "_law_word_here", "_law_place", "_law_sign_here", "_law_letter", "_law_start", "_law_end", "_law_ends"]) (sc := defScope s__law_led) (by decide +kernel)) (fun _ _ _ _ _ => pg_tup rfl (pgs_cons (pg_name (i := 4) sc_lld.nd rfl (.inl rfl)) (pgs_cons (pg_name (i := 5) sc_lld.nd rfl (.inl rfl)) (pgs_cons (pg_name (i := 6) sc_lld.nd rfl (.inl rfl)) pgs_nil)))) (fun _ _ _ _ _ => pts_one (PW.pt (pw_and (pt_cmpR op_eq (pv 4) (pv 3) (nomark _)) (pw_and1 (pt_cmpR op_eq (pv 5) (pv 2) (nomark _)))))) (fun _ _ _ _ _ => (pv 6))) (pss_one (ps_set (i := 2) sc_lld.nd rfl (.inr rfl) (pe_ifExp (pt_cmpR (op_neD hr.units) (pv 7) (pe_lst pa_nil) (nomark _)) (pe_ix ix_list (pv 7) pe_int (fun _ _ => rfl)) pe_non)))) (pss_one (ps_if (pt_cmpR op_notNn (pv 2) pe_non (nomark _)) (pss_cons (ps_setLc (i := 7) (own := [("_law_letter", 4), ("_law_start", 5), ("_law_end", 6)]) (g := gTup K 3 (gCons (gName 4) (gCons (gName 5) (gCons (gName 6) gNil)))) (by rfl) sc_lld.nd rfl rfl (sw_true rfl rfl rfl (by decide +kernel)) (pi_list (pv 0)) (blkOk_by (own := [("_law_letter", 4), ("_law_start", 5), ("_law_end", 6)]) (N := ["_law_moves", "_law_word_here", "_law_place", "_law_sign_here", "_law_letter", "_law_start", "_law_end", "_law_ends"]) (sc := defScope s__law_led) (by decide +kernel)) (fun _ _ _ _ _ => pg_tup rfl (pgs_cons (pg_name (i := 4) sc_lld.nd rfl (.inl rfl)) (pgs_cons (pg_name (i := 5) sc_lld.nd rfl (.inl rfl)) (pgs_cons (pg_name (i := 6) sc_lld.nd rfl (.inl rfl)) pgs_nil)))) (fun _ _ _ _ _ => pts_one (PW.pt (pw_and (pt_cmpR op_eq (pv 4) (pe_m0 PySem.F.slot_str_lower PySem.F.type_str_lower mt_loN (pv 3)) (nomark _)) (pw_and1 (pt_cmpR op_eq (pv 6) (pv 2) (nomark _)))))) (fun _ _ _ _ _ => (pv 5))) (pss_one (ps_set (i := 2) sc_lld.nd rfl (.inr rfl) (pe_ifExp (pt_cmpR (op_neD hr.units) (pv 7) (pe_lst pa_nil) (nomark _)) (pe_ix ix_list (pv 7) pe_int (fun _ _ => rfl)) pe_non)))) pss_nil))))) (pss_one (ps_ret (pv 2)))), ?_⟩
    walk_at "go"
    refine w_str (fun i σ H2 => ∃ (y3 y4 y5 y6 y7 : Option V), σ = [some (.ref a), some (.str z), some (oV (ledM (stp (LM ms)) ((tl z).take i) x)), y3, y4, y5, y6, y7] ∧ Same H H2) ⟨none, none, none, none, none, rfl, .refl _⟩ ?_ ?_
    · rintro i c σ H2 hc ⟨y3, y4, y5, y6, y7, rfl, s2⟩
      have e1 := ledM_snoc (st := stp (LM ms)) (x := x) hc
      have ha2 := s2.at ha
      have hsg := sgn_iff.mp (hz c (List.mem_of_getElem? hc))
      have hus : us.length = ms.length := Paired.length hm
      have hlf : ∀ (f : Mv → Option Int) (j : Nat), (((ms.take j).filterMap f).map V.int).length < sizeLine := fun f j => by
        rw [List.length_map]
        exact lineLt_of (Nat.le_trans (List.length_filterMap_le ..) (Nat.le_trans (by rw [List.length_take]; exact Nat.min_le_right _ _) hlen))
      cases e2 : ledM (stp (LM ms)) ((tl z).take i) x with
      | none =>
        rw [e2] at e1
        have e1 : ledM (stp (LM ms)) ((tl z).take (i + 1)) x = none := e1
        show gName _ _ [some (V.ref a), some (V.str z), some V.non, y3, y4, y5, y6, y7] _ _
        walk_at "go"
        exact ⟨_, _, _, _, _, by rw [e1]; rfl, s2⟩
      | some y =>
        rw [e2] at e1
        have e1 : ledM (stp (LM ms)) ((tl z).take (i + 1)) x = lk (LM ms c) y := e1
        show gName _ _ [some (V.ref a), some (V.str z), some (V.int y), y3, y4, y5, y6, y7] _ _
        walk_at "go"
        refine w_if2 (fun hin => ?_) (fun hin => ?_)
        · have hs := in_small.mp hin
          rw [hitS_lk (fun m hm => by have := hms m hm; omega)] at e1
          walk_at "go"
          refine w_lcL (xs := us) (fun p j H3 => Same H2 H3 ∧ H2 p = none ∧ H3 p = some (.lst (((ms.take j).filterMap (hitS c y)).map V.int))) (fun p H3 hp np => ⟨np.same, np.nn, hp⟩) (fun p j H3 _ h => h.1.at ha2) ?_ ?_
          · rintro p j v H3 hv ⟨s3, np, hp⟩
            obtain ⟨m, hmj, t, rfl, ht⟩ := paired_get hm hv
            have ht3 := s3.at (s2.at ht)
            walk_at "go"
            refine w_and2 (fun h1 => ?_) (fun h1 => ?_)
            · walk_at "go"
              refine w_tst2 (fun h2 => ?_) (fun h2 => ?_)
              · walk_at "go"
                refine w_kIt hp (hlf _ _) (fun H4 hp4 o4 => ⟨s3.off o4 np, np, ?_⟩)
                have e3 : hitS c y m = some m.2.2 := by unfold hitS; rw [if_pos ⟨one_inj h1, h2⟩]
                rw [hp4, fm_snoc hmj, e3, List.map_append]
                rfl
              · have e3 : hitS c y m = none := by unfold hitS; rw [if_neg (fun z => h2 z.2)]
                exact ⟨s3, np, by rw [fm_snoc hmj, e3, Option.toList, List.append_nil]; exact hp⟩
            · walk_at "go"
              have e3 : hitS c y m = none := by unfold hitS; rw [if_neg (fun z => h1 (congrArg one z.1))]
              exact ⟨s3, np, by rw [fm_snoc hmj, e3, Option.toList, List.append_nil]; exact hp⟩
          · rintro p H3 ⟨s3, np, hp⟩
            rw [hus, List.take_length] at hp
            walk_at "go"
            refine w_newL (by decide) (fun p2 H4 hp4 np4 => ?_)
            refine w_neNilI (np4.at hp) hp4 ?_
            walk_at "go"
            cases e5 : ms.filterMap (hitS c y) with
            | nil =>
              rw [e5] at e1
              have e1 : ledM (stp (LM ms)) ((tl z).take (i + 1)) x = none := e1
              refine w_ifEF ?_
              walk_at "go"
              exact ⟨_, _, _, _, _, by rw [e1]; rfl, (s2.trans s3).nw np4⟩
            | cons u r =>
              rw [e5] at e1 hp
              have e1 : ledM (stp (LM ms)) ((tl z).take (i + 1)) x = some u := e1
              refine w_ifET ?_
              walk_at "go"
              refine w_ixL (np4.at hp) (at_of (j := 0) rfl rfl) ?_
              walk_at "go"
              exact ⟨_, _, _, _, _, by rw [e1]; rfl, (s2.trans s3).nw np4⟩
        · have hs : 65 ≤ c ∧ c ≤ 72 := by
            rcases hsg with h | h
            · exact absurd (in_small.mpr h) hin
            · exact h
          rw [hitG_lk (fun m hm => by have := hms m hm; omega)] at e1
          walk_at "go"
          refine w_lcL (xs := us) (fun p j H3 => Same H2 H3 ∧ H2 p = none ∧ H3 p = some (.lst (((ms.take j).filterMap (hitG (c + 32) y)).map V.int))) (fun p H3 hp np => ⟨np.same, np.nn, hp⟩) (fun p j H3 _ h => h.1.at ha2) ?_ ?_
          · rintro p j v H3 hv ⟨s3, np, hp⟩
            obtain ⟨m, hmj, t, rfl, ht⟩ := paired_get hm hv
            have ht3 := s3.at (s2.at ht)
            walk_at "go"
            refine w_lo1 hs ?_
            walk_at "go"
            refine w_and2 (fun h1 => ?_) (fun h1 => ?_)
            · walk_at "go"
              refine w_tst2 (fun h2 => ?_) (fun h2 => ?_)
              · walk_at "go"
                refine w_kIt hp (hlf _ _) (fun H4 hp4 o4 => ⟨s3.off o4 np, np, ?_⟩)
                have e3 : hitG (c + 32) y m = some m.2.1 := by unfold hitG; rw [if_pos ⟨one_inj h1, h2⟩]
                rw [hp4, fm_snoc hmj, e3, List.map_append]
                rfl
              · have e3 : hitG (c + 32) y m = none := by unfold hitG; rw [if_neg (fun z => h2 z.2)]
                exact ⟨s3, np, by rw [fm_snoc hmj, e3, Option.toList, List.append_nil]; exact hp⟩
            · walk_at "go"
              have e3 : hitG (c + 32) y m = none := by unfold hitG; rw [if_neg (fun z => h1 (congrArg one z.1))]
              exact ⟨s3, np, by rw [fm_snoc hmj, e3, Option.toList, List.append_nil]; exact hp⟩
          · rintro p H3 ⟨s3, np, hp⟩
            rw [hus, List.take_length] at hp
            walk_at "go"
            refine w_newL (by decide) (fun p2 H4 hp4 np4 => ?_)
            refine w_neNilI (np4.at hp) hp4 ?_
            walk_at "go"
            cases e5 : ms.filterMap (hitG (c + 32) y) with
            | nil =>
              rw [e5] at e1
              have e1 : ledM (stp (LM ms)) ((tl z).take (i + 1)) x = none := e1
              refine w_ifEF ?_
              walk_at "go"
              exact ⟨_, _, _, _, _, by rw [e1]; rfl, (s2.trans s3).nw np4⟩
            | cons u r =>
              rw [e5] at e1 hp
              have e1 : ledM (stp (LM ms)) ((tl z).take (i + 1)) x = some u := e1
              refine w_ifET ?_
              walk_at "go"
              refine w_ixL (np4.at hp) (at_of (j := 0) rfl rfl) ?_
              walk_at "go"
              exact ⟨_, _, _, _, _, by rw [e1]; rfl, (s2.trans s3).nw np4⟩
    · rintro σ H2 ⟨y3, y4, y5, y6, y7, rfl, s2⟩
      rw [List.take_length]
      walk_at "go"
      exact q _ s2
end
end Sf
namespace Sf
open PySem PySem.Spec PyProof.Rows L2 TL
def HasMX (P : Program) (w : World) (K : PySem.W.Frag) (mg : Str → Option Value) (base : Heap) (C : Addr) (k : Nat) (m : Str) (ps : List Str) (sp : Sp) : Prop :=
  ∃ (f : Addr) (fd : FuncData), Meth K C m f ∧ Binds K fd ps [] ∧ FnOk P w K mg base (L2.CX P w) k f fd ps sp
def HasX (P : Program) (w : World) (K : PySem.W.Frag) (mg : Str → Option Value) (base : Heap) (k : Nat) (x : Str) (ps : List Str) (sp : Sp) : Prop :=
  ∃ (f : Addr) (fd : FuncData), mg x = some (.ref f) ∧ PySem.W.keepIn K (.ref f) = true ∧ Binds K fd ps [] ∧ FnOk P w K mg base (L2.CX P w) k f fd ps sp
end Sf
namespace Sf
open PySem PySem.Spec PyProof.Rows L2 TL
/-! ### a method whose last parameter has a default -/
theorem vals_i {i : Int} {t : Tok} : Vals [V.int i] [Value.int i t] := .cons ⟨t, rfl⟩ .nil
def MAtD (K : PySem.W.Frag) (C : Addr) (m q : Str) (st : Stmt) (ps : List Str) (dv : Value) : Prop := ∃ (f : Addr) (fd : FuncData), Meth K C m f ∧ FunD K m q st f fd ∧ Binds K fd ps [] ∧ Binds K fd ps [dv]
def HasMD (P : Program) (w : World) (K : PySem.W.Frag) (mg : Str → Option Value) (base : Heap) (C : Addr) (k : Nat) (m : Str) (ps : List Str) (dv : Value) (sp : Sp) : Prop :=
  ∃ (f : Addr) (fd : FuncData), Meth K C m f ∧ Binds K fd ps [] ∧ Binds K fd ps [dv] ∧ FnOk P w K mg base CX0 k f fd ps sp
theorem MAtD.has {P : Program} {w : World} {K : PySem.W.Frag} {mg : Str → Option Value} {base : Heap} {C : Addr} {k : Nat} {m q : Str} {st : Stmt} {ps : List Str} {dv : Value} {sp : Sp} (h : MAtD K C m q st ps dv)
    (ok : ∀ {f : Addr} {fd : FuncData}, FunD K m q st f fd → FnOk P w K mg base CX0 k f fd ps sp) : HasMD P w K mg base C k m ps dv sp := by
  obtain ⟨f, fd, g, F, b, bd⟩ := h
  exact ⟨f, fd, g, b, bd, ok F⟩
theorem mAtD_mk {K : PySem.W.Frag} {C T : Addr} {m q : Str} {st : Stmt} {ps : List Str} {dv : Value} {f : Addr} {oc : Value} {od an : Option Addr} {osl : Array (Option Value)} {kV doc pm cdv ct : Value} {o : Obj} {n : Nat}
    (a : PySem.W.findIn K (.ref C) m = some (some (.ref f))) (i : PySem.W.isFn K (.ref f) = true) (l : K.lookup f = some ⟨oc, od, .func (PySem.W.fnOf m q (defArgs st) (defBody st) (defScope st) (.ref T) kV doc pm an cdv ct), osl⟩)
    (c : PySem.W.codeIn K cdv q = true) (k : PySem.W.keepIn K (.ref f) = true) (ho : K.lookup T = some o) (hs : o.data = .seq #[dv] n)
    (b : ∀ (kV doc pm : Value) (an : Option Addr) (cdv ct : Value) (s : Shared) (us : List Value), K.In s.heap → us.length = ps.length → BindsTo s (PySem.W.fnOf m q (defArgs st) (defBody st) (defScope st) (.ref T) kV doc pm an cdv ct) ⟨us, []⟩ (ps.zip us))
    (bd : ∀ (kV doc pm : Value) (an : Option Addr) (cdv ct : Value) (s : Shared) (us : List Value), K.In s.heap → (us ++ [dv]).length = ps.length → BindsTo s (PySem.W.fnOf m q (defArgs st) (defBody st) (defScope st) (.ref T) kV doc pm an cdv ct) ⟨us, []⟩ (ps.zip (us ++ [dv]))) : MAtD K C m q st ps dv :=
  ⟨f, _, ⟨a, i, k⟩, ⟨⟨oc, od, .ref T, kV, doc, pm, an, cdv, ct, osl, rfl, l, c⟩, k⟩, fun s us X hl => by
    rw [List.append_nil] at hl ⊢
    exact b kV doc pm an cdv ct s us X hl, fun s us X hl => bd kV doc pm an cdv ct s us X hl⟩
end Sf
namespace Sf
open PySem PySem.Spec PyProof.Rows L2 TL
section
variable {P : Program} {w : World} {K : PySem.W.Frag} {mg : Str → Option Value} {base : Heap} {C CN fN CW fW : Addr} {fdN fdW : FuncData}
def HasMXD (P : Program) (w : World) (K : PySem.W.Frag) (mg : Str → Option Value) (base : Heap) (C : Addr) (k : Nat) (m : Str) (ps : List Str) (dv : Value) (sp : Sp) : Prop :=
  ∃ (f : Addr) (fd : FuncData), Meth K C m f ∧ Binds K fd ps [] ∧ Binds K fd ps [dv] ∧ FnOk P w K mg base (L2.CX P w) k f fd ps sp
theorem FunD.okX {x qual : Str} {st : Stmt} {f : Addr} {fd : FuncData} {N ps : List Str} {k : Nat} {sp : Sp} (F : FunD K x qual st f fd) (S : FnScope N ps (defScope st)) (len : ∀ vs H Q E, sp vs H Q E → vs.length = ps.length)
    (hbody : ∀ (cdv : Value) (A : Around) (outer : List Env) (s : Shared) (H : Hp) (vs : List V) (Q : VK) (E : XK), Room k (A.deeper (envOfC qual (defScope st) s.heap.objs.size f cdv)) → sp vs H Q E →
      ∃ t, PSs (cxOf (L2.CX P w) P w K mg base N qual (defScope st) f cdv A outer s H E) (defBody st) t ∧ t { nx := fun _ H' => Q .non H', rt := Q } (start N vs) H) : FnOk P w K mg base (L2.CX P w) (k + 1) f fd ps sp := by
  obtain ⟨oc, od, dV, kV, doc, pm, an, cdv, ct, osl, rfl, lk, hcd⟩ := F.ex
  exact fn_of lk hcd S len fun A outer s H vs Q E hr hsp => hbody cdv A outer s H vs Q E hr hsp
/-- NoPlace is raised -/
def XEp (CN : Addr) (x : Int) (H : Hp) (E : XK) : Prop := ∀ (d : Addr) (H' : Hp), H d = none → H' d = some (.xd [(("place" : Str), .int x), (("word" : Str), .str (Str.ofString "noplace"))]) → Same H H' → E (.ref CN) (some d) H'
theorem XEp.same {x : Int} {H H1 : Hp} {E : XK} (h : XEp CN x H E) (s : Same H H1) : XEp CN x H1 E := fun d H' nd hd s' => h d H' (s.free nd) hd (s.trans s')
theorem log_big {x : Int} (h0 : -1000000000000 ≤ x) (h1 : x ≤ 1000000000000) : x.natAbs.log2 < 1920 := by
  by_cases hz : x = 0
  · rw [hz]; decide
  · refine Nat.lt_trans ((Nat.log2_lt (k := 40) (by omega)).mpr (by show x.natAbs < 2 ^ 40; omega)) (by decide)
def spNplX (C CN : Addr) : Sp := fun vs H Q E => ∃ (p : Addr) (n x : Int) (L : Nat → List (Int × Int)), vs = [.ref p, .int x] ∧ WAt C H p n L ∧ -1000000000000 ≤ x ∧ x ≤ 1000000000000 ∧ (0 ≤ x ∧ x < n → Q .non H) ∧ (¬ (0 ≤ x ∧ x < n) → XEp CN x H E)
theorem sc_npl : FnScope ["self", "place"] ["self", "place"] (defScope s_World_need_place) := ⟨rfl, rfl, rfl, by decide +kernel, rfl, by decide +kernel, by decide +kernel⟩
theorem has_nplX (F : MAt K C "need_place" "World.need_place" s_World_need_place ["self", "place"]) (B : Blt mg) (T_World : WC K mg C) (h_Up : HasUp P w K mg base) (T_NoPlace : EL K mg "NoPlace" CN fN) (nP : PySem.W.findIn K (.ref CN) "place" = some none)
    (G_NoPlace : FnOk P w K mg base CX0 2 fN fdN ["self", "place"] (spExL K (Str.ofString "noplace") "place")) (b_NoPlace : Binds K fdN ["self", "place"] []) : HasMX P w K mg base C 4 "need_place" ["self", "place"] (spNplX C CN) := by
  obtain ⟨f, fd, g, F, bb⟩ := F
  refine ⟨f, fd, g, bb, ?_⟩
  obtain ⟨f_Up, fd_Up, g_Up, k_Up, b_Up, G_Up⟩ := h_Up
  refine F.okX sc_npl (fun vs H Q E h => ?_) (fun cdv A outer s H vs Q E hr h => ?_)
  · obtain ⟨p, n, x, L, rfl, _⟩ := h
    rfl
  · obtain ⟨p, n, x, L, rfl, ⟨dx, pl, ld, d, hp, hpl, hL⟩, x0, x1, q1, q2⟩ := h
    refine ⟨_, (pss_one (ps_if (pt_not (pt_val (pe_call G_Up (hr.mono (by decide)) (by rfl) g_Up k_Up b_Up .nil pass0 (pa_cons (pv 1) (pa_cons (pe_op op_sub (pe_callB call_lenQ (by rfl) B.len PySem.boot_len (pa_cons (pe_fld (pv 0) rfl) pa_nil)) pe_int) pa_nil))))) (pss_one (ps_raise rfl (takes_of rfl rfl rfl rfl) (pmk_oexL T_NoPlace.ox T_NoPlace.iC T_NoPlace.tI G_NoPlace (hr.mono (by decide)) b_NoPlace pass0 (by rfl) T_NoPlace.gC (pa_cons (pv 1) pa_nil)))) pss_nil)), ?_⟩
    rw [rgV_plc] at hpl
    walk_at "go"
    refine w_kFld hp T_World.cl T_World.nP (wf_places _ _) ?_
    walk_at "go"
    refine ⟨_, _, rfl, trivial, ?_⟩
    by_cases hx : 0 ≤ x ∧ x < n
    · rw [upB_true hx.1 (by rw [List.length_map, plc_len]; omega)]
      walk_at "go"
      exact q1 hx
    · have e : upB (.int x) (((plc n).map V.int).length - 1 : Int) = false := by
        show (decide (0 ≤ x) && decide (x ≤ _)) = false
        rw [List.length_map, plc_len]
        rw [Bool.and_eq_false_iff, decide_eq_false_iff_not, decide_eq_false_iff_not]
        omega
      rw [e]
      walk_at "go"
      refine w_mkOL ?_
      walk_at "go"
      exact w_kMkL T_NoPlace nP (log_big x0 x1) (q2 hx)
end
end Sf
namespace Sf
open PySem PySem.Spec PyProof.Rows L2 TL
/-! ### going round a world, place by place -/
abbrev Fd := Int × Str
def ex1 (L : Nat → List (Int × Int)) (k : Fd) (fs : List Fd) (c : Nat) : List Fd :=
  match stp L c k.1 with
  | some e => if e ∈ fs.map (·.1) then fs else fs ++ [(e, k.2 ++ one c)]
  | none => fs
def exS (L : Nat → List (Int × Int)) (k : Fd) (fs : List Fd) (cs : List Nat) : List Fd := cs.foldl (ex1 L k) fs
def bfs (L : Nat → List (Int × Int)) (p : Int) : Nat → List Fd
  | 0 => [(p, Str.ofString "")]
  | i + 1 => match (bfs L p i)[i]? with
    | some k => exS L k (bfs L p i) sgs
    | none => bfs L p i
section
variable {L : Nat → List (Int × Int)} {p : Int}
theorem ex1_pre (k : Fd) (fs : List Fd) (c : Nat) : fs <+: ex1 L k fs c := by
  unfold ex1
  split
  · split
    · exact List.prefix_refl _
    · exact List.prefix_append _ _
  · exact List.prefix_refl _
theorem exS_pre (k : Fd) : ∀ (cs : List Nat) (fs : List Fd), fs <+: exS L k fs cs
  | [], fs => List.prefix_refl _
  | c :: cs, fs => (ex1_pre k fs c).trans (exS_pre k cs (ex1 L k fs c))
theorem exS_snoc (k : Fd) (fs : List Fd) (cs : List Nat) (c : Nat) : exS L k fs (cs ++ [c]) = ex1 L k (exS L k fs cs) c := by
  unfold exS
  rw [List.foldl_append]
  rfl
theorem bfs_succ {i : Nat} {k : Fd} (h : (bfs L p i)[i]? = some k) : bfs L p (i + 1) = exS L k (bfs L p i) sgs := by
  show (match (bfs L p i)[i]? with | some k => exS L k (bfs L p i) sgs | none => bfs L p i) = _
  rw [h]
theorem bfs_stop {i : Nat} (h : (bfs L p i).length ≤ i) : bfs L p (i + 1) = bfs L p i := by
  show (match (bfs L p i)[i]? with | some k => exS L k (bfs L p i) sgs | none => bfs L p i) = _
  rw [List.getElem?_eq_none h]
theorem bfs_pre (i : Nat) : bfs L p i <+: bfs L p (i + 1) := by
  cases h : (bfs L p i)[i]? with
  | none => rw [bfs_stop (List.getElem?_eq_none_iff.mp h)]; exact List.prefix_refl _
  | some k => rw [bfs_succ h]; exact exS_pre k sgs _
theorem bfs_mono {i j : Nat} (h : i ≤ j) : bfs L p i <+: bfs L p j := by
  induction j with
  | zero => rw [Nat.le_zero.mp h]; exact List.prefix_refl _
  | succ j ih =>
    by_cases e : i = j + 1
    · rw [e]; exact List.prefix_refl _
    · exact (ih (by omega)).trans (bfs_pre j)
theorem bfs_still {i : Nat} (h : (bfs L p i).length ≤ i) : ∀ m, bfs L p (i + m) = bfs L p i
  | 0 => rfl
  | m + 1 => by
    have e := bfs_still h m
    show bfs L p (i + m + 1) = _
    rw [bfs_stop (by rw [e]; omega), e]
/-- the round is whole -/
def FinB (L : Nat → List (Int × Int)) (p : Int) (fs : List Fd) : Prop := ∃ N, fs = bfs L p N ∧ fs.length ≤ N
theorem FinB.one {fs gs : List Fd} : FinB L p fs → FinB L p gs → fs = gs
  | ⟨N, e1, h1⟩, ⟨M, e2, h2⟩ => by
    subst e1 e2
    by_cases h : N ≤ M
    · have := bfs_still h1 (M - N)
      rw [show N + (M - N) = M by omega] at this
      exact this.symm
    · have := bfs_still h2 (N - M)
      rw [show M + (N - M) = N by omega] at this
      exact this
/-- what holds of all that is found -/
structure FsOk (n : Int) (fs : List Fd) : Prop where
  nd : (fs.map (·.1)).Nodup
  rg : ∀ k ∈ fs, 0 ≤ k.1 ∧ k.1 < n
  wl : ∀ k ∈ fs, k.2.length + 1 ≤ fs.length
def LRg (n : Int) (L : Nat → List (Int × Int)) : Prop := ∀ c ∈ sgs, ∀ q ∈ L c, 0 ≤ q.1 ∧ q.1 < n ∧ 0 ≤ q.2 ∧ q.2 < n
theorem len_snoc (x : Str) (c : Nat) : (x ++ one c).length = x.length + 1 := by rw [len_app, len_one]
theorem ex1_ok {n : Int} (hL : LRg n L) {k : Fd} {fs : List Fd} {c : Nat} (hc : c ∈ sgs) (hk : k ∈ fs) (h : FsOk n fs) : FsOk n (ex1 L k fs c) := by
  unfold ex1
  split
  · rename_i e he
    split
    · exact h
    · rename_i hn
      have hq := hL c hc _ (lk_mem he)
      refine ⟨?_, fun q hq' => ?_, fun q hq' => ?_⟩
      · rw [List.map_append, List.nodup_append]
        refine ⟨h.nd, by simp, fun a ha b hb => ?_⟩
        have : b = e := by simpa using hb
        rw [this]
        exact fun z => hn (by rw [← z]; exact ha)
      · rcases List.mem_append.mp hq' with z | z
        · exact h.rg q z
        · rw [List.mem_singleton.mp z]
          exact ⟨hq.2.2.1, hq.2.2.2⟩
      · rw [List.length_append]
        rcases List.mem_append.mp hq' with z | z
        · have := h.wl q z
          omega
        · rw [List.mem_singleton.mp z]
          have := h.wl k hk
          show (k.2 ++ one c).length + 1 ≤ fs.length + 1
          rw [len_snoc]
          omega
  · exact h
theorem exS_ok {n : Int} (hL : LRg n L) {k : Fd} : ∀ (cs : List Nat) (fs : List Fd), (∀ c ∈ cs, c ∈ sgs) → k ∈ fs → FsOk n fs → FsOk n (exS L k fs cs)
  | [], fs, _, _, h => h
  | c :: cs, fs, hc, hk, h => exS_ok hL cs _ (fun d hd => hc d (List.mem_cons_of_mem _ hd)) ((ex1_pre k fs c).subset hk) (ex1_ok hL (hc c List.mem_cons_self) hk h)
theorem bfs_ok {n : Int} (hL : LRg n L) (h0 : 0 ≤ p) (h1 : p < n) : ∀ i, FsOk n (bfs L p i)
  | 0 => ⟨by show [p].Nodup; simp, fun k hk => by rw [List.mem_singleton.mp hk]; exact ⟨h0, h1⟩, fun k hk => by rw [List.mem_singleton.mp hk]; show (Str.ofString "").length + 1 ≤ 1; decide +kernel⟩
  | i + 1 => by
    cases h : (bfs L p i)[i]? with
    | none => rw [bfs_stop (List.getElem?_eq_none_iff.mp h)]; exact bfs_ok hL h0 h1 i
    | some k => rw [bfs_succ h]; exact exS_ok hL sgs _ (fun _ h => h) (List.mem_of_getElem? h) (bfs_ok hL h0 h1 i)
theorem nd_len {α : Type} [DecidableEq α] : ∀ (l r : List α), l.Nodup → (∀ x ∈ l, x ∈ r) → l.length ≤ r.length
  | [], r, _, _ => Nat.zero_le _
  | x :: l, r, nd, h => by
    have nd' := List.nodup_cons.mp nd
    have hx := h x List.mem_cons_self
    have ih := nd_len l (r.erase x) nd'.2 fun y hy => (List.mem_erase_of_ne (fun z => nd'.1 (by rw [← z]; exact hy))).mpr (h y (List.mem_cons_of_mem _ hy))
    rw [List.length_erase_of_mem hx] at ih
    have := List.length_pos_of_mem hx
    show l.length + 1 ≤ r.length
    omega
theorem mem_plc {n x : Int} : x ∈ plc n ↔ 0 ≤ x ∧ x < n := by
  unfold plc
  rw [List.mem_map]
  constructor
  · rintro ⟨i, hi, rfl⟩
    have := List.mem_range.mp hi
    exact ⟨by omega, by omega⟩
  · rintro ⟨h0, h1⟩
    exact ⟨x.toNat, List.mem_range.mpr (by omega), by omega⟩
theorem FsOk.len {n : Int} {fs : List Fd} (h : FsOk n fs) : fs.length ≤ n.toNat := by
  have := nd_len (fs.map (·.1)) (plc n) h.nd fun x hx => by
    obtain ⟨k, hk, rfl⟩ := List.mem_map.mp hx
    exact mem_plc.mpr (h.rg k hk)
  rw [List.length_map] at this
  unfold plc at this
  rw [List.length_map, List.length_range] at this
  exact this
/-- where the signs have led from a place, it is found -/
theorem ex1_has {k : Fd} {fs : List Fd} {c : Nat} {e : Int} (h : stp L c k.1 = some e) : e ∈ (ex1 L k fs c).map (·.1) := by
  unfold ex1
  rw [h]
  dsimp only
  split
  · assumption
  · rw [List.map_append]
    exact List.mem_append_right _ (List.mem_singleton.mpr rfl)
theorem pre_keys {fs gs : List Fd} (h : fs <+: gs) {e : Int} (m : e ∈ fs.map (·.1)) : e ∈ gs.map (·.1) := by
  obtain ⟨q, hq, rfl⟩ := List.mem_map.mp m
  exact List.mem_map.mpr ⟨q, h.subset hq, rfl⟩
theorem exS_has {k : Fd} {e : Int} : ∀ (cs : List Nat) (fs : List Fd) {c : Nat}, c ∈ cs → stp L c k.1 = some e → e ∈ (exS L k fs cs).map (·.1)
  | x :: cs, fs, c, hc, h => by
    rcases List.mem_cons.mp hc with rfl | hc
    · exact pre_keys (exS_pre k cs _) (ex1_has h)
    · exact exS_has cs _ hc h
theorem pre_get {fs gs : List Fd} (h : fs <+: gs) {j : Nat} {k : Fd} (e : fs[j]? = some k) : gs[j]? = some k := by
  obtain ⟨t, rfl⟩ := h
  rw [List.getElem?_append_left (List.getElem?_eq_some_iff.mp e).1]
  exact e
theorem bfs_closed : ∀ (i j : Nat) {k : Fd} {c : Nat} {e : Int}, j < i → (bfs L p i)[j]? = some k → c ∈ sgs → stp L c k.1 = some e → e ∈ (bfs L p i).map (·.1)
  | i + 1, j, k, c, e, hj, hk, hc, h => by
    have pre : bfs L p i <+: bfs L p (i + 1) := bfs_pre i
    cases hi : (bfs L p i)[i]? with
    | none =>
      have hle := List.getElem?_eq_none_iff.mp hi
      rw [bfs_stop hle] at hk ⊢
      have : j < (bfs L p i).length := (List.getElem?_eq_some_iff.mp hk).1
      exact bfs_closed i j (by omega) hk hc h
    | some k' =>
      by_cases e' : j = i
      · subst e'
        have h2 : (bfs L p (j + 1))[j]? = some k' := pre_get pre hi
        rw [h2] at hk
        cases hk
        rw [bfs_succ hi]
        exact exS_has sgs _ hc h
      · have hji : j < i := by omega
        have hli : i < (bfs L p i).length := (List.getElem?_eq_some_iff.mp hi).1
        have hk' : (bfs L p i)[j]? = some k := by
          have z : (bfs L p i)[j]? = some (bfs L p i)[j] := List.getElem?_eq_getElem (by omega)
          have z2 := pre_get pre z
          rw [hk] at z2
          rw [z, ← z2]
        exact pre_keys pre (bfs_closed i j hji hk' hc h)
theorem FinB.closed {fs : List Fd} (h : FinB L p fs) {k : Fd} {c : Nat} {e : Int} (hk : k ∈ fs) (hc : c ∈ sgs) (hs : stp L c k.1 = some e) : e ∈ fs.map (·.1) := by
  obtain ⟨N, rfl, hN⟩ := h
  obtain ⟨j, hj⟩ := List.mem_iff_getElem?.mp hk
  exact bfs_closed N j (by have := (List.getElem?_eq_some_iff.mp hj).1; omega) hj hc hs
end
end Sf
namespace Sf
open PySem PySem.Spec PyProof.Rows L2 TL
section
variable {P : Program} {w : World} {K : PySem.W.Frag} {mg : Str → Option Value} {base : Heap} {C : Addr}
/-! ### while -/
def kWh (W : Nat → L2.St → Hp → Prop) (tb : TS) (nx : L2.St → Hp → Prop) (rt : VK) (m : Nat) (σ : L2.St) : Bool → Hp → Prop := fun b H1 => if b = true then ∃ N : L2.St → Hp → Prop, (∀ σ' H', N σ' H' → ∃ m', m' < m ∧ W m' σ' H') ∧ tb ⟨N, rt, nx, N⟩ σ H1 else nx σ H1
theorem w_while {σ : L2.St} {H : Hp} {tc : TT} {tb : TS} {nx : L2.St → Hp → Prop} {rt : VK} {bk ct : L2.St → Hp → Prop} (W : Nat → L2.St → Hp → Prop) {m : Nat} (h0 : W m σ H) (hs : ∀ m σ H, W m σ H → tc σ H (kWh W tb nx rt m σ)) : tWhile tc tb ⟨nx, rt, bk, ct⟩ σ H := ⟨W, ⟨m, h0⟩, hs⟩
theorem w_whT {W : Nat → L2.St → Hp → Prop} {tb : TS} {nx : L2.St → Hp → Prop} {rt : VK} {m : Nat} {σ : L2.St} {H : Hp} (q : tb ⟨fun σ' H' => ∃ m', m' < m ∧ W m' σ' H', rt, nx, fun σ' H' => ∃ m', m' < m ∧ W m' σ' H'⟩ σ H) : kWh W tb nx rt m σ true H := iteT ⟨_, fun _ _ h => h, q⟩
theorem w_whF {W : Nat → L2.St → Hp → Prop} {tb : TS} {nx : L2.St → Hp → Prop} {rt : VK} {m : Nat} {σ : L2.St} {H : Hp} (q : nx σ H) : kWh W tb nx rt m σ false H := by
  unfold kWh
  rw [if_neg (by decide)]
  exact q
theorem w_disp1 {σ : L2.St} {H : Hp} {Q : VK} {tk tv : TE} {i : Int} {v : V} (hk : ∀ H' R, R (V.int i) H' → tk σ H' R) (hv : ∀ H' R, R v H' → tv σ H' R) (k : ∀ p H1, H1 p = some (.dK [(Sum.inl i, v)]) → Nw p H H1 → Q (.ref p) H1) : tDisp [(tk, tv)] σ H Q := fun p hp => by
  refine hk _ _ (hv _ _ ?_)
  refine ⟨upd_same, [(Sum.inl i, v)], rfl, by show 1 ≤ 15; decide, ?_⟩
  exact k p _ upd_same ⟨hp, fun a n => (upd_ne n).trans (upd_ne n)⟩
/-! ### World.come_to -/
def kvW (fs : List Fd) : List (Key × V) := fs.map fun k => ((Sum.inl k.1 : Key), V.str k.2)
theorem kvW_len (fs : List Fd) : (kvW fs).length = fs.length := List.length_map ..
theorem val_kvW_none {x : Int} : ∀ {fs : List Fd}, x ∉ fs.map (·.1) → valV (kvW fs) (Sum.inl x) = none
  | [], _ => rfl
  | k :: fs, h => by
    unfold kvW
    rw [List.map_cons, valV_neg (fun e => h (by rw [← Sum.inl.inj e]; exact List.mem_cons_self))]
    exact val_kvW_none fun z => h (List.mem_cons_of_mem _ z)
theorem val_kvW {k : Fd} : ∀ {fs : List Fd}, (fs.map (·.1)).Nodup → k ∈ fs → valV (kvW fs) (Sum.inl k.1) = some (.str k.2)
  | q :: fs, nd, h => by
    unfold kvW
    rw [List.map_cons]
    have nd' := List.nodup_cons.mp nd
    rcases List.mem_cons.mp h with rfl | h
    · rw [valV_pos rfl]
    · rw [valV_neg (fun e => nd'.1 (by show q.1 ∈ _; rw [show q.1 = k.1 from Sum.inl.inj e]; exact List.mem_map.mpr ⟨k, h, rfl⟩))]
      exact val_kvW nd'.2 h
theorem isSome_kvW {x : Int} {fs : List Fd} (nd : (fs.map (·.1)).Nodup) : (valV (kvW fs) (Sum.inl x)).isSome = decide (x ∈ fs.map (·.1)) := by
  by_cases h : x ∈ fs.map (·.1)
  · obtain ⟨k, hk, rfl⟩ := List.mem_map.mp h
    rw [val_kvW nd hk, decide_eq_true h]
    rfl
  · rw [val_kvW_none h, decide_eq_false h]
    rfl
theorem kvW_put {fs : List Fd} {x : Int} {z : Str} (h : x ∉ fs.map (·.1)) : putK (kvW fs) (Sum.inl x) (.str z) = kvW (fs ++ [(x, z)]) := by
  rw [putK_new _ (val_kvW_none h)]
  unfold kvW
  rw [List.map_append]
  rfl
theorem sgs_tl : tl (Str.ofString "aAbBcCdDeEfFgGhH") = sgs := by decide +kernel
def plV (fs : List Fd) : List V := fs.map fun k => V.int k.1
def spCt (C : Addr) : Sp := fun vs H Q _ => ∃ (p : Addr) (n x : Int) (L : Nat → List (Int × Int)), vs = [.ref p, .int x] ∧ WAt C H p n L ∧ LRg n L ∧ n ≤ 1000 ∧ 0 ≤ x ∧ x < n ∧
  ∀ (d : Addr) (H' : Hp) (fs : List Fd), H d = none → Same H H' → H' d = some (.dK (kvW fs)) → FinB L x fs → FsOk n fs → Q (.ref d) H'
theorem sc_ct : FnScope ["self", "place", "words", "edge", "beyond", "here", "sign", "there"] ["self", "place"] (defScope s_World_come_to) := ⟨rfl, rfl, rfl, by decide +kernel, rfl, by decide +kernel, by decide +kernel⟩
theorem has_ct (F : MAt K C "come_to" "World.come_to" s_World_come_to ["self", "place"]) (T_World : WC K mg C) {t1 : Tok} (C_SIGNS : mg "SIGNS" = some (.str (Str.ofString "aAbBcCdDeEfFgGhH") t1)) : HasM P w K mg base C 1 "come_to" ["self", "place"] (spCt C) := F.has fun F => by
  refine F.ok sc_ct (fun vs H Q E h => ?_) (fun cdv A outer s H vs Q E hr h => ?_)
  · obtain ⟨p, n, x, L, rfl, _⟩ := h
    rfl
  · obtain ⟨p, n, x, L, rfl, hW, hL, hn, x0, x1, q⟩ := h
    refine ⟨_, (pss_cons (ps_set (i := 2) sc_ct.nd rfl (.inl rfl) (pe_disp (pps_cons (pv 1) pe_str pps_nil) (by rfl) (by rfl) (fun z => by cases z) (by decide))) (pss_cons (ps_set (i := 3) sc_ct.nd rfl (.inl rfl) (pe_lst (pa_cons (pv 1) pa_nil))) (pss_cons (ps_while PassesOwn.never (pt_truth (pv 3) (by intro _; rfl)) (pss_cons (ps_set (i := 4) sc_ct.nd rfl (.inl rfl) (pe_lst pa_nil)) (pss_cons (ps_for PassesOwn.never rfl (pi_list (pv 3)) (pg_name (i := 5) sc_ct.nd rfl (.inl rfl)) (pss_one (ps_for PassesOwn.never rfl (pi_str (pe_gS (by rfl) C_SIGNS)) (pg_name (i := 6) sc_ct.nd rfl (.inl rfl)) (pss_cons (ps_set (i := 7) sc_ct.nd rfl (.inl rfl) (pe_dget1 (hu_of hr) (pe_dget (hu_of hr) (pe_fld (pv 0) rfl) (pv 6) (fun _ _ => rfl)) (pv 5) ⟨rfl, rfl, rfl, rfl⟩)) (pss_one (ps_if (PW.pt (pw_and (pt_cmpR op_notNn (pv 7) pe_non (nomark _)) (pw_and1 (pt_cmp (pc_dnotin (hu_of hr) (pv 7) (pv 2)))))) (pss_cons (ps_dput (hu_of hr) (pv 2) (pv 7) (pe_op op_addS (pe_dget (hu_of hr) (pv 2) (pv 5) (fun _ _ => rfl)) (pv 6)) rfl) (pss_one (ps_expr (pe_bm PySem.F.plainAttrs_list PySem.F.slot_list_append PySem.F.type_list_append mt_append (pv 4) (pa_cons (pv 7) pa_nil))))) pss_nil)))))) (pss_one (ps_set (i := 3) sc_ct.nd rfl (.inl rfl) (pv 4)))))) (pss_one (ps_ret (pv 2)))))), ?_⟩
    obtain ⟨dx, pl, ld, d, hp, hpl, hl⟩ := id hW
    walk_at "go"
    refine w_disp1 (i := x) (v := .str (Str.ofString "")) (fun H' R h => ⟨_, rfl, h⟩) (fun H' R h => h) (fun wd H1 hwd nwd => ?_)
    walk_at "go"
    refine w_newL (by walk_at "sz") (fun ed H2 hed ned => ?_)
    walk_at "gs"
    have okB := fun i => bfs_ok (L := L) (p := x) hL x0 x1 i
    refine w_while (m := n.toNat + 1) (fun m σ H3 => ∃ (y4 y5 y6 y7 : Option V) (ed : Addr) (a : Nat), σ = [some (.ref p), some (.int x), some (.ref wd), some (.ref ed), y4, y5, y6, y7] ∧ Same H H3 ∧ H wd = none ∧ H ed = none ∧ wd ≠ ed ∧ H3 wd = some (.dK (kvW (bfs L x a))) ∧ H3 ed = some (.lst (plV ((bfs L x a).drop a))) ∧ m + a = n.toNat + 1 ∧ a ≤ (bfs L x a).length) ?_ ?_
    · exact ⟨none, none, none, none, ed, 0, rfl, nwd.same.nw ned, nwd.nn, nwd.same.free ned.nn, ned.ne hwd, ned.at hwd, hed, rfl, Nat.zero_le _⟩
    · rintro m σ H3 ⟨y4, y5, y6, y7, ed, a, rfl, s3, nw, ne, wne, hw3, he3, hm, hal⟩
      have ok3 := okB a
      have len3 := ok3.len
      refine ⟨_, rfl, _, .inl ⟨_, SqL.of he3, rfl⟩, ?_⟩
      by_cases hend : (bfs L x a).length = a
      · have e0 : plV ((bfs L x a).drop a) = [] := by
          rw [List.drop_of_length_le (by omega)]
          rfl
        rw [e0]
        refine w_whF ?_
        walk_at "go"
        exact q wd H3 _ nw s3 hw3 ⟨a, rfl, by omega⟩ ok3
      · have e1 : (!(plV ((bfs L x a).drop a)).isEmpty) = true := by
          unfold plV
          rw [Bool.not_eq_true', List.isEmpty_eq_false_iff]
          intro z
          have := congrArg List.length z
          rw [List.length_map, List.length_drop] at this
          have z2 : (([] : List V)).length = 0 := rfl
          omega
        rw [e1]
        refine w_whT ?_
        walk_at "go"
        refine w_newL (by walk_at "sz") (fun be H4 hbe nbe => ?_)
        have nb : H be = none := s3.free nbe.nn
        have bw : be ≠ wd := (nbe.ne hw3).symm
        have bed : be ≠ ed := (nbe.ne he3).symm
        have s4 : Same H H4 := s3.nw nbe
        walk_at "go"
        refine w_list (xs := plV ((bfs L x a).drop a)) (fun i σ H5 => ∃ (y5 y6 y7 : Option V), σ = [some (.ref p), some (.int x), some (.ref wd), some (.ref ed), some (.ref be), y5, y6, y7] ∧ Same H H5 ∧ H5 wd = some (.dK (kvW (bfs L x (a + i)))) ∧ H5 ed = some (.lst (plV ((bfs L x a).drop a))) ∧ H5 be = some (.lst (plV ((bfs L x (a + i)).drop (bfs L x a).length)))) ⟨y5, y6, y7, rfl, s4, nbe.at hw3, nbe.at he3, by rw [Nat.add_zero, List.drop_of_length_le (Nat.le_refl _)]; exact hbe⟩ (fun i σ H5 _ ⟨_, _, _, _, _, _, h, _⟩ => h) ?_ ?_
        · rintro i v σ H5 hv ⟨y5, y6, y7, rfl, s5, hw5, he5, hb5⟩
          obtain ⟨k, hk, rfl⟩ : ∃ k, (bfs L x a)[a + i]? = some k ∧ V.int k.1 = v := by
            unfold plV at hv
            rw [List.getElem?_map, List.getElem?_drop, Option.map_eq_some_iff] at hv
            exact hv
          have hk5 : (bfs L x (a + i))[a + i]? = some k := pre_get (bfs_mono (Nat.le_add_right a i)) hk
          have kin : k ∈ bfs L x (a + i) := List.mem_of_getElem? hk5
          have ok5 := okB (a + i)
          walk_at "go"
          refine w_str (fun j σ H6 => ∃ (y6 y7 : Option V), σ = [some (.ref p), some (.int x), some (.ref wd), some (.ref ed), some (.ref be), some (.int k.1), y6, y7] ∧ Same H H6 ∧ H6 wd = some (.dK (kvW (exS L k (bfs L x (a + i)) (sgs.take j)))) ∧ H6 ed = some (.lst (plV ((bfs L x a).drop a))) ∧ H6 be = some (.lst (plV ((exS L k (bfs L x (a + i)) (sgs.take j)).drop (bfs L x a).length)))) ⟨_, _, rfl, s5, hw5, he5, hb5⟩ ?_ ?_
          · rintro j c σ H6 hc ⟨y6, y7, rfl, s6, hw6, he6, hb6⟩
            rw [sgs_tl] at hc
            have hs : c ∈ sgs := List.mem_of_getElem? hc
            have ok6 : FsOk n (exS L k (bfs L x (a + i)) (sgs.take j)) := exS_ok hL _ _ (fun c hc => List.mem_of_mem_take hc) kin ok5
            have pre6 : bfs L x (a + i) <+: exS L k (bfs L x (a + i)) (sgs.take j) := exS_pre k _ _
            have kin6 := pre6.subset kin
            have len6 := ok6.len
            have ble : (bfs L x a).length ≤ (exS L k (bfs L x (a + i)) (sgs.take j)).length := ((bfs_mono (Nat.le_add_right a i)).trans pre6).length_le
            rw [take_snoc hc, exS_snoc]
            generalize exS L k (bfs L x (a + i)) (sgs.take j) = fs at hw6 hb6 ok6 kin6 len6 ble ⊢
            walk_at "go"
            refine w_kFld (s6.at hp) T_World.cl T_World.nL (wf_leads _ _) ?_
            walk_at "go"
            refine w_kDGetS (s6.at hl.hd) (val_sgs hs) ?_
            walk_at "go"
            refine w_kDGet1 (s6.at (hl.hc c hs)) ?_
            walk_at "go"
            refine w_kDGet1I (s6.at (hl.hc c hs)) ?_
            rw [getD_kvI]
            cases e2 : lk (L c) k.1 with
            | none =>
              have e3 : ex1 L k fs c = fs := by
                unfold ex1
                rw [show stp L c k.1 = none from e2]
              rw [e3]
              walk_at "go"
              exact ⟨_, _, rfl, s6, hw6, he6, hb6⟩
            | some e =>
              rw [show oV (some e) = V.int e from rfl]
              walk_at "go"
              rw [isSome_kvW ok6.nd]
              by_cases hin : e ∈ fs.map (·.1)
              · have e3 : ex1 L k fs c = fs := by
                  unfold ex1
                  rw [show stp L c k.1 = some e from e2]
                  exact if_pos hin
                rw [e3, decide_eq_true hin]
                walk_at "go"
                exact ⟨_, _, rfl, s6, hw6, he6, hb6⟩
              · have e3 : ex1 L k fs c = fs ++ [(e, k.2 ++ one c)] := by
                  unfold ex1
                  rw [show stp L c k.1 = some e from e2]
                  exact if_neg hin
                rw [e3, decide_eq_false hin, Bool.not_false]
                have wl := ok6.wl k kin6
                walk_at "go"
                refine w_kDGetI hw6 (val_kvW ok6.nd kin6) ?_
                walk_at "go"
                refine w_addS (line_of (by rw [len_one]; omega)) ?_
                walk_at "go"
                refine w_kDPutI hw6 (by rw [kvW_len]; exact lineLt_of (by omega)) (fun H7 hw7 o7 => ?_)
                rw [kvW_put hin] at hw7
                walk_at "go"
                refine w_append (o7.at bw hb6) (by unfold plV; rw [List.length_map, List.length_drop]; exact lineLt_of (by omega)) (fun H8 hb8 o8 => ?_)
                walk_at "go"
                refine ⟨_, _, rfl, (s6.off o7 nw).off o8 nb, o8.at bw.symm hw7, o8.at bed.symm (o7.at wne.symm he6), ?_⟩
                rw [hb8, List.drop_append_of_le_length ble]
                unfold plV
                rw [List.map_append]
                rfl
          · rintro σ H6 ⟨y6, y7, rfl, s6, hw6, he6, hb6⟩
            rw [sgs_tl, List.take_length, ← bfs_succ hk5] at hw6 hb6
            exact ⟨_, _, _, rfl, s6, hw6, he6, hb6⟩
        · rintro σ H5 ⟨y5, y6, y7, rfl, s5, hw5, he5, hb5⟩
          have el : (plV ((bfs L x a).drop a)).length = (bfs L x a).length - a := by
            unfold plV
            rw [List.length_map, List.length_drop]
          rw [el, show a + ((bfs L x a).length - a) = (bfs L x a).length by omega] at hw5 hb5
          walk_at "go"
          refine ⟨n.toNat + 1 - (bfs L x a).length, by omega, some (.ref be), y5, y6, y7, be, (bfs L x a).length, rfl, s5, nw, nb, bw.symm, hw5, hb5, by omega, (bfs_mono (by omega)).length_le⟩
end
end Sf
namespace Sf
open PySem PySem.Spec PyProof.Rows L2 TL
/-! ### places numbered anew -/
def numF : Int → List Int → List (Int × Int)
  | _, [] => []
  | o, x :: r => (x, o) :: numF (o + 1) r
def numL (ks : List Int) : List (Int × Int) := numF 0 ks
def rk (ks : List Int) (x : Int) : Int := (lk (numL ks) x).getD 0
theorem numF_snoc (x : Int) : ∀ (ks : List Int) (o : Int), numF o (ks ++ [x]) = numF o ks ++ [(x, o + ks.length)]
  | [], o => by
    show [(x, o)] = [(x, o + 0)]
    rw [Int.add_zero]
  | k :: ks, o => by
    show (k, o) :: numF (o + 1) (ks ++ [x]) = (k, o) :: (numF (o + 1) ks ++ [(x, o + ((ks.length + 1 : Nat) : Int))])
    rw [numF_snoc x ks (o + 1), show o + 1 + (ks.length : Int) = o + ((ks.length + 1 : Nat) : Int) by omega]
theorem numL_snoc (ks : List Int) (x : Int) : numL (ks ++ [x]) = numL ks ++ [(x, (ks.length : Int))] := by
  unfold numL
  rw [numF_snoc, Int.zero_add]
theorem numF_keys : ∀ (ks : List Int) (o : Int), (numF o ks).map (·.1) = ks
  | [], _ => rfl
  | k :: ks, o => by
    show k :: (numF (o + 1) ks).map (·.1) = k :: ks
    rw [numF_keys ks (o + 1)]
theorem numL_keys (ks : List Int) : (numL ks).map (·.1) = ks := numF_keys ks 0
theorem numL_len (ks : List Int) : (numL ks).length = ks.length := by
  have := congrArg List.length (numL_keys ks)
  rw [List.length_map] at this
  exact this
theorem lk_isSome {l : List (Int × Int)} {x : Int} : (lk l x).isSome = decide (x ∈ l.map (·.1)) := by
  by_cases h : x ∈ l.map (·.1)
  · rw [decide_eq_true h]
    cases e : lk l x with
    | some y => rfl
    | none =>
      unfold lk at e
      rw [Option.map_eq_none_iff, List.find?_eq_none] at e
      obtain ⟨q, hq, rfl⟩ := List.mem_map.mp h
      exact absurd (decide_eq_true rfl) (e _ hq)
  · rw [decide_eq_false h, lk_none fun p hp z => h (by rw [← z]; exact List.mem_map.mpr ⟨p, hp, rfl⟩)]
    rfl
theorem lk_num {ks : List Int} {x : Int} (h : x ∈ ks) : lk (numL ks) x = some (rk ks x) := by
  have : (lk (numL ks) x).isSome = true := by rw [lk_isSome, numL_keys, decide_eq_true h]
  unfold rk
  cases e : lk (numL ks) x with
  | none => rw [e] at this; cases this
  | some y => rfl
theorem numF_snd : ∀ (ks : List Int) (o : Int), ∀ q ∈ numF o ks, o ≤ q.2 ∧ q.2 < o + ks.length
  | k :: ks, o, q, h => by
    rcases List.mem_cons.mp h with rfl | h
    · exact ⟨Int.le_refl _, by rw [List.length_cons]; show o < o + ((ks.length + 1 : Nat) : Int); omega⟩
    · have := numF_snd ks (o + 1) q h
      rw [List.length_cons]
      omega
theorem numF_inj : ∀ (ks : List Int) (o : Int), ∀ q ∈ numF o ks, ∀ r ∈ numF o ks, q.2 = r.2 → q = r
  | k :: ks, o, q, hq, r, hr, e => by
    rcases List.mem_cons.mp hq with rfl | hq
    · rcases List.mem_cons.mp hr with rfl | hr
      · rfl
      · have := (numF_snd ks (o + 1) r hr).1
        have e : o = r.2 := e
        omega
    · rcases List.mem_cons.mp hr with rfl | hr
      · have := (numF_snd ks (o + 1) q hq).1
        have e : q.2 = o := e
        omega
      · exact numF_inj ks (o + 1) q hq r hr e
theorem rk_inj {ks : List Int} {x y : Int} (hx : x ∈ ks) (hy : y ∈ ks) (e : rk ks x = rk ks y) : x = y := by
  have h1 := lk_mem (lk_num hx)
  have h2 := lk_mem (lk_num hy)
  exact congrArg Prod.fst (numF_inj ks 0 _ h1 _ h2 e)
theorem rk_rg {ks : List Int} {x : Int} (hx : x ∈ ks) : 0 ≤ rk ks x ∧ rk ks x < ks.length := by
  have := numF_snd ks 0 _ (lk_mem (lk_num hx))
  rw [Int.zero_add] at this
  exact this
def renM (ks : List Int) (l : List (Int × Int)) : List (Int × Int) := (l.filter fun q => decide (q.1 ∈ ks)).map fun q => (rk ks q.1, rk ks q.2)
def renL (ks : List Int) (L : Nat → List (Int × Int)) (c : Nat) : List (Int × Int) := renM ks (L c)
theorem renM_len (ks : List Int) (l : List (Int × Int)) : (renM ks l).length ≤ l.length := by
  unfold renM
  rw [List.length_map]
  exact List.length_filter_le _ _
theorem renM_snoc_in {ks : List Int} {l : List (Int × Int)} {q : Int × Int} (h : q.1 ∈ ks) : renM ks (l ++ [q]) = renM ks l ++ [(rk ks q.1, rk ks q.2)] := by
  unfold renM
  rw [List.filter_append, List.map_append, List.filter_cons, if_pos (decide_eq_true h)]
  rfl
theorem renM_snoc_out {ks : List Int} {l : List (Int × Int)} {q : Int × Int} (h : q.1 ∉ ks) : renM ks (l ++ [q]) = renM ks l := by
  unfold renM
  rw [List.filter_append, List.filter_cons, if_neg (by simpa using h)]
  simp
theorem renM_new {ks : List Int} {l : List (Int × Int)} {q : Int × Int} (nd : ((l ++ [q]).map (·.1)).Nodup) (h : q.1 ∈ ks) : lk (renM ks l) (rk ks q.1) = none := lk_none fun r hr e => by
  unfold renM at hr
  obtain ⟨z, hz, rfl⟩ := List.mem_map.mp hr
  rw [List.mem_filter] at hz
  have e2 := rk_inj (of_decide_eq_true hz.2) h e
  rw [List.map_append, List.nodup_append] at nd
  exact nd.2.2 z.1 (List.mem_map.mpr ⟨z, hz.1, rfl⟩) q.1 (List.mem_singleton.mpr rfl) e2
def LNd (L : Nat → List (Int × Int)) : Prop := ∀ c ∈ sgs, ((L c).map (·.1)).Nodup
end Sf
namespace Sf
open PySem PySem.Spec PyProof.Rows L2 TL
/-! ### sorted of data, and of a dict's keys by key=, a def that keeps its promise -/
section
variable {X : Cx} {pins : List (Addr × Obj)} {σ : L2.St} {H : Hp} {s : Shared}
theorem each_vals {β : Type} {vof : β → V} : ∀ {us : List Value} {bs : List β}, PySem.W.EachIs (fun u b => RelV (vof b) u) us bs → Vals (bs.map vof) us
  | _, _, .nil => .nil
  | _, _, .cons h t => .cons h (each_vals t)
theorem vals_each {β : Type} {vof : β → V} : ∀ {us : List Value} {bs : List β}, Vals (bs.map vof) us → PySem.W.EachIs (fun u b => RelV (vof b) u) us bs
  | [], [], _ => .nil
  | u :: us, b :: bs, h => by
    rw [List.map_cons] at h
    cases h with
    | cons h1 h2 => exact .cons h1 (vals_each h2)
  | [], b :: bs, h => by
    rw [List.map_cons] at h
    cases h
  | u :: us, [], h => by
    rw [List.map_nil] at h
    cases h
/-- sorted(l) of data -/
theorem call_sortedData {β : Type} (vof : β → V) (enc : β → PyData) (hu : X.A.units + 64 < cLine) : CallR X (.builtin "sorted") (fun xs H Q => ∃ (a : Addr) (bs : List β), xs = [.ref a] ∧ SqL X.K H a (bs.map vof) ∧ (∀ b ∈ bs, Dp X.K H (vof b) (enc b)) ∧
    PySem.W.AllAlike (bs.map enc) ∧ PySem.W.Sortable (bs.map enc) ∧ (∀ b ∈ bs, (enc b).depth ≤ 60) ∧ ∀ p, H p = none → Q (.ref p) (upd H p (.lst ((bs.mergeSort (PySem.W.dataLe false enc)).map vof)))) := by
  intro pins s σ H xs us Q I r h
  obtain ⟨a, bs, rfl, hs, hdp, hal, hso, hdep, q⟩ := h
  rw [Vals.ref1 r]
  obtain ⟨its, rv, hl, hz⟩ := I.list hs
  have hz' := hz
  rw [List.length_map] at hz'
  have e := vals_each rv
  have er : PySem.W.EachIs (fun v b => ∃ as, Reads s.heap v (enc b) as) its bs := (PySem.W.each_mem e).mono fun v b hb => Dp.reads I (enc b) (vof b) v (hdp b hb.2) hb.1
  refine PySem.W.sorted_data hl.isList e er hal hso hz' (fun b hb => by have := hdep b hb; omega) fun out ho eo => ?_
  obtain ⟨ep, he'⟩ := PyProof.Rows.sortedAll_at s.heap its out.toArray
  have rv' := each_vals eo
  have hlen : ((bs.mergeSort (PySem.W.dataLe false enc)).map vof).length ≤ sizeLine := by
    rw [List.length_map, List.length_mergeSort]
    exact hz'
  exact ⟨.ref _, upd H (s.heap.objs.size + 1) (.lst ((bs.mergeSort (PySem.W.dataLe false enc)).map vof)), I.laid (t' := s.toks) (fun _ _ => PyProof.Rows.sortedAll_old) (Nat.le_succ _) ⟨hlen, out, ep, rv', he'⟩, rfl, q _ (I.hok.fresh (Nat.le_succ _))⟩
/-! what was new when the call began -/
structure Newly (X : Cx) (pins : List (Addr × Obj)) (b : Addr) : Prop where
  s0 : X.s_0.heap.objs.size ≤ b
  loc : b ≠ X.env.locals
  cl : ∀ x c, X.env.cells.lookup x = some c → c ≠ b
  fs : b ∉ X.fs
  pn : ∀ p ∈ X.pn ++ pins, p.1 ≠ b
theorem newly_of {b : Addr} (I : Inv X pins σ H s) (h : s.heap.objs.size ≤ b) : Newly X pins b :=
  ⟨Nat.le_trans I.sz h, fun e => absurd (Nat.lt_of_lt_of_le I.lt h) (by rw [e]; exact Nat.lt_irrefl _), fun x c e z => by
    obtain ⟨v, o, ho, _⟩ := I.cell x c e
    rw [z] at ho
    exact absurd (Nat.lt_of_lt_of_le (Heap.lt_size ho) h) (Nat.lt_irrefl _), I.nofs h, fun p hp z => by
    have ho := (I.pin p hp).1
    rw [z] at ho
    exact absurd (Nat.lt_of_lt_of_le (Heap.lt_size ho) h) (Nat.lt_irrefl _)⟩
theorem pin_more {b : Addr} {o : Obj} (I : Inv X pins σ H s) (N : Newly X pins b) (hb : s.heap.get? b = some o) (hn : H b = none) (hc : ∀ v, o.data ≠ .cell v) : Inv X ((b, o) :: pins) σ H s := I.pins_of fun p hp => by
  rcases List.mem_cons.mp hp with rfl | hp
  · exact ⟨hb, hn, N.loc, N.fs, hc⟩
  · exact I.pin p (List.mem_append_right _ hp)
theorem pin_less {p : Addr × Obj} (I : Inv X (p :: pins) σ H s) : Inv X pins σ H s := I.pins_of fun q hq => I.pin q (List.mem_append_right _ (List.mem_cons_of_mem _ hq))
theorem turn_one {b : Addr} {h' : Heap} {t' : Nat} (I : Inv X pins σ H s) (N : Newly X pins b) (hn : H b = none) (k : ∀ c o, c ≠ b → s.heap.get? c = some o → h'.get? c = some o) : Inv X pins σ H { s with heap := h', toks := t' } :=
  I.turned k hn N.loc (.inr N.s0) N.cl N.pn
/-- two records of ours have changed, the one at a is tracked from now on -/
theorem take_in {a b : Addr} {o : HO} {h' : Heap} {t' : Nat} (I : Inv X pins σ H s) (Na : Newly X pins a) (Nb : Newly X pins b) (na : H a = none) (nb : H b = none) (k : ∀ c o, c ≠ a → c ≠ b → s.heap.get? c = some o → h'.get? c = some o)
    (new : ObjOk X.prog X.w (upd H a o) h' a o) : Inv X pins σ (upd H a o) { s with heap := h', toks := t' } := by
  have nea : ∀ c u, H c = some u → c ≠ a := fun c u e => ne_of_none e na
  have neb : ∀ c u, H c = some u → c ≠ b := fun c u e => ne_of_none e nb
  have out : ∀ c, c ∉ [a, b] → c ≠ a ∧ c ≠ b := fun c hc => ⟨fun z => hc (by simp [z]), fun z => hc (by simp [z])⟩
  refine I.step (g' := s.gens) (d' := s.drawn) (ch := [a, b]) (fun c hc => ?_) (fun c o _ _ hc e _ => k c o (out c hc).1 (out c hc).2 e) (fun c o _ _ hc e _ => ⟨o.slots, k c o (out c hc).1 (out c hc).2 e⟩) (fun c _ hc _ n => by rw [upd_ne (out c hc).1]; exact n)
    (fun c o hc e => ⟨o, k c o (out c hc).1 (out c hc).2 e⟩) (fun c _ e => by rw [upd_ne (nea c _ e)]; exact e) (fun c _ _ e => by rw [upd_ne (nea c _ e)]; exact e) (fun c ps e => ⟨#[], by rw [upd_ne (nea c _ e), e]; simp⟩) (fun m hm => ?_) (fun c u e => ?_) I.bare
  · rcases List.mem_cons.mp hc with rfl | hc
    · exact ⟨.inr Na.s0, Na.loc, Na.cl, Na.pn⟩
    · obtain rfl := List.mem_singleton.mp hc
      exact ⟨.inr Nb.s0, Nb.loc, Nb.cl, Nb.pn⟩
  · obtain ⟨o, es, ep, ho, r⟩ := hm
    exact ⟨o, es, ep, k _ o (Ne.symm Na.loc) (Ne.symm Nb.loc) ho, r⟩
  · by_cases hca : c = a
    · subst hca
      rw [upd_same] at e
      cases e
      exact new
    · rw [upd_ne hca] at e
      refine (I.hok c u e).stay (fun d v hd q => ?_) (fun d q => by rw [upd_ne (nea d _ q)]; exact q) fun d xs q => by rw [upd_ne (nea d _ q)]; exact q
      rcases hd with z | z
      · rw [z] at q ⊢
        exact k c v hca (neb c u e) q
      · exact k d v (nea d _ z) (neb d _ z) q
end
section
variable {X : Cx} {pins : List (Addr × Obj)} {σ : L2.St} {H : Hp} {s : Shared} {k : Nat} {f : Addr} {fd : FuncData} {ps : List Str} {sp : Sp}
theorem seq_cell {T : String} {xs : Array Value} {n : Nat} : ∀ v, (seqObj T xs n).data ≠ .cell v := fun v z => by cases z
/-- a key that stays -/
def KeyAt (K : PySem.W.Frag) (H : Hp) (v : V) (d : PyData) : Prop := ∀ H', Same H H' → Dp K H' v d
theorem keys_go {a kS : Addr} {e1 : Nat} {vs : List Value} {xs : List Str} {A : Around} {E : Value → Shared → Prop} {R : PySem.Fin → Shared → Prop} (κ : Str → PyData) (F : FnOk X.prog X.w X.K X.mg X.base CX0 k f fd ps sp) (hb : Binds X.K fd ps []) (hr : Room k A)
    (hA : ∀ {pins : List (Addr × Obj)} {H : Hp} {s : Shared}, Inv X pins σ H s → Env0 X.prog X.w X.K X.mg X.base A X.stack s H) (I : Inv X pins σ H s) (Na : Newly X pins a) (Nk : Newly X pins kS) (hak : a ≠ kS)
    (ok : s.heap.get? kS = some (seqObj "list" #[] 0)) (oa : s.heap.get? a = some (seqObj "list" #[] e1)) (na : H a = none) (nk : H kS = none)
    (hv : PySem.W.EachIs (fun u x => RelV (V.str x) u) vs xs) (hZ : vs.length ≤ sizeLine) (hal : PySem.W.AllAlike (xs.map κ)) (hso : PySem.W.Sortable (xs.map κ)) (hu : ∀ x ∈ xs, A.units + (κ x).depth < cLine)
    (hsp : ∀ x ∈ xs, ∀ (H1 : Hp) (Q : VK), (∀ v H2, Same H1 H2 → KeyAt X.K H2 v (κ x) → Q v H2) → sp [.str x] H1 Q E0)
    (h : ∀ (s' : Shared) (H' : Hp), Same H H' → H' a = some (.lst ((xs.mergeSort (PySem.W.dataLe false κ)).map V.str)) → Inv X pins σ H' s' → R (.done (.ret .none)) s') :
    wpAny (model X.prog X.w) A (ksk_rest a (.ref f) false vs.toArray e1 (.ref kS)) R E s := by
  have hlen : xs.length = vs.length := hv.length.symm
  unfold ksk_rest
  refine wpAny_bind (wpAny_rule ?_)
  first
    | rw [List.forIn_toArray]
    | (rw [← Array.forIn_toList]; simp only [List.toList_toArray])
  refine wpAny_bind (ksk_fold (fun i s1 => ∃ (H1 : Hp) (ks : List V) (kA : Array Value) (e : Nat), Inv X ((kS, seqObj "list" kA e) :: (a, seqObj "list" #[] e1) :: pins) σ H1 s1 ∧ Same H H1 ∧ Vals ks kA.toList ∧ ks.length = i ∧ ∀ (j : Nat) (v : V) (x : Str), ks[j]? = some v → xs[j]? = some x → KeyAt X.K H1 v (κ x)) vs 0 s
    ⟨H, [], #[], 0, ?start, Same.refl _, .nil, rfl, fun j v x z => by simp at z⟩ ?turn ?fin)
  case start =>
    have I1 := pin_more I Na oa na seq_cell
    exact pin_more I1 ⟨Nk.s0, Nk.loc, Nk.cl, Nk.fs, fun p hp => by
      rcases List.mem_append.mp hp with z | z
      · exact Nk.pn p (List.mem_append_left _ z)
      · rcases List.mem_cons.mp z with rfl | z
        · exact hak
        · exact Nk.pn p (List.mem_append_right _ z)⟩ ok nk seq_cell
  case turn =>
    rintro j u s1 hj ⟨H1, ks, kA, e, I1, s01, rk, hk, kx⟩
    simp only [Nat.zero_add] at hk ⊢
    have hjl : j < vs.length := (List.getElem?_eq_some_iff.mp hj).1
    obtain ⟨x, hx⟩ : ∃ x, xs[j]? = some x := ⟨_, List.getElem?_eq_getElem (by omega)⟩
    have hz : (u, x) ∈ vs.zip xs := List.mem_of_getElem? (i := j) (by rw [List.getElem?_zip_eq_some]; exact ⟨hj, hx⟩)
    have ru : RelV (V.str x) u := hv.zip _ hz
    have hxm : x ∈ xs := List.mem_of_getElem? hx
    refine wpAny_bind (wpAny_attempt (wpAny_mono (run_fnA (Er := fun _ _ => False) (vs := [V.str x]) F hr (hA I1) hb I1 (.cons ru .nil) (hsp x hxm H1 (fun v H2 => Same H1 H2 ∧ KeyAt X.K H2 v (κ x)) fun v H2 g1 g2 => ⟨g1, g2⟩)) (fun v2 s2 he => ?_) fun _ _ hF => hF.elim))
    obtain ⟨v, H2, I2, rv, s12, kv⟩ := he
    try dsimp only
    obtain ⟨ok2, nk2, _⟩ := I2.pin _ (List.mem_append_right _ (List.mem_cons_self ..))
    have hka : kA.size = j := by
      rw [← Array.length_toList, ← rk.length]
      exact hk
    obtain ⟨c2, hc2⟩ : ∃ c2, (s2.heap.update kS (Obj.mapSeq (·.push v2))).get? kS = some (seqObj "list" (kA.push v2) c2) := ⟨_, get?_update_seq ok2 (·.push v2)⟩
    have sb := Heap.SameBut.update s2.heap kS (Obj.mapSeq (·.push v2))
    refine wpAny_bind (listUpdate_at ok2 rfl ?_ (by rw [hka]; omega) (by rw [Array.size_push, hka]; omega))
    have I3 := pin_less I2
    have Nk3 : Newly X ((a, seqObj "list" #[] e1) :: pins) kS := ⟨Nk.s0, Nk.loc, Nk.cl, Nk.fs, fun p hp => by
      rcases List.mem_append.mp hp with z | z
      · exact Nk.pn p (List.mem_append_left _ z)
      · rcases List.mem_cons.mp z with rfl | z
        · exact hak
        · exact Nk.pn p (List.mem_append_right _ z)⟩
    have I4 : Inv X ((a, seqObj "list" #[] e1) :: pins) σ H2 { s2 with heap := s2.heap.update kS (Obj.mapSeq (·.push v2)), toks := s2.toks } := turn_one I3 Nk3 nk2 fun c o hc e => (sb.2 c hc).trans e
    refine wpAny_pure ⟨rfl, H2, ks ++ [v], kA.push v2, c2, pin_more I4 Nk3 hc2 nk2 seq_cell, s01.trans s12, ?_, by rw [List.length_append, hk]; rfl, fun i w y hw hy => ?_⟩
    · rw [Array.toList_push]
      exact rk.append (.cons rv .nil)
    · by_cases hij : i < j
      · rw [List.getElem?_append_left (by omega)] at hw
        exact fun H3 s3 => kx i w y hw hy H3 (s12.trans s3)
      · rw [List.getElem?_append_right (by omega)] at hw
        have h0 : i - ks.length = 0 := by
          have := (List.getElem?_eq_some_iff.mp hw).1
          rw [List.length_singleton] at this
          omega
        have hi : i = j := by omega
        rw [h0] at hw
        subst hi
        rw [hx] at hy
        cases hy
        have e9 : v = w := Option.some.inj hw
        rw [← e9]
        exact kv
  case fin =>
    rintro s1 ⟨H1, ks, kA, e, I1, s01, rk, hk, kx⟩
    rw [Nat.zero_add] at hk
    obtain ⟨ok1, nk1, _⟩ := I1.pin _ (List.mem_append_right _ (List.mem_cons_self ..))
    obtain ⟨oa1, na1, _⟩ := I1.pin _ (List.mem_append_right _ (List.mem_cons_of_mem _ (List.mem_cons_self ..)))
    have hsz : kA.size = vs.length := by
      rw [← Array.length_toList, ← rk.length]
      exact hk
    have hks : PySem.W.EachIs (fun u d => ∃ as, Reads s1.heap u d as) kA.toList (xs.map κ) := by
      have all : ∀ (ks : List V) (us : List Value) (zs : List Str), Vals ks us → ks.length = zs.length → (∀ (j : Nat) (v : V) (x : Str), ks[j]? = some v → zs[j]? = some x → KeyAt X.K H1 v (κ x)) → PySem.W.EachIs (fun u d => ∃ as, Reads s1.heap u d as) us (zs.map κ) := by
        intro ks us zs r
        induction r generalizing zs with
        | nil =>
          intro hl _
          cases zs with
          | nil => exact .nil
          | cons z zs => cases hl
        | cons r1 r2 ih =>
          intro hl hk
          cases zs with
          | nil => cases hl
          | cons z zs =>
            rw [List.map_cons]
            exact .cons (Dp.reads I1 _ _ _ (hk 0 _ z rfl rfl H1 (Same.refl _)) r1) (ih zs (by simpa using hl) fun j v x h1 h2 => hk (j + 1) v x (by simpa using h1) (by simpa using h2))
      exact all ks _ xs rk (by omega) kx
    have hud : ∀ d ∈ xs.map κ, A.units + d.depth < cLine := fun d hd => by
      obtain ⟨x, hx, rfl⟩ := List.mem_map.mp hd
      exact hu x hx
    try dsimp only
    refine wpAny_bind (listItems_at ok1 rfl ?_)
    refine PySem.W.keyH_end (κ := PySem.W.dataKind s1.heap (xs.map κ)) (h₁ := s1.heap.hide kS) (fun c o hc e => Heap.of_hide e) (Heap.hide_self _ _) ok1 oa1 (Ne.symm hak) (PySem.W.SortsAt.data hks hal hso hud) hsz hZ fun h3 tk3 c3 kp n3 => ?_
    have I2 := pin_less (pin_less I1)
    have eo := PySem.W.keyedOut_each (rev := false) κ ⟨s1.heap, kA.toList, hal, rfl, hks⟩ hv
    have hl3 : ((xs.mergeSort (PySem.W.dataLe false κ)).map V.str).length ≤ sizeLine := by
      rw [List.length_map, List.length_mergeSort, hlen]
      exact hZ
    refine h _ _ (fun b o hb => ?_) upd_same (take_in (t' := tk3) (o := .lst ((xs.mergeSort (PySem.W.dataLe false κ)).map V.str)) I2 Na Nk na1 nk1 (fun c o h1 h2 e => kp c o h1 (by rw [Heap.hide_ne _ h2]; exact e)) ⟨hl3, _, c3, each_vals (vof := V.str) eo, n3⟩)
    rw [upd_ne (ne_of_none hb na)]
    exact s01 b o hb
/-- sorted(d, key=f) of a dict whose keys are texts -/
theorem call_sortedDK (hcalm : X.calm = true) (κ : Str → PyData) (F : FnOk X.prog X.w X.K X.mg X.base CX0 k f fd ps sp) (hb : Binds X.K fd ps []) (hr : Room (k + 2) X.A) : CallRK X (.builtin "sorted") [Str.ofString "key"] (fun vs zs H Q => ∃ (a : Addr) (kvs : List (Key × V)) (xs : List Str), vs = [.ref a] ∧ zs = [.ref f] ∧ Rd H a (.dK kvs) ∧ kvs.map (·.1) = xs.map Sum.inr ∧
    PySem.W.AllAlike (xs.map κ) ∧ PySem.W.Sortable (xs.map κ) ∧ (∀ x ∈ xs, (κ x).depth ≤ 60) ∧ (∀ x ∈ xs, ∀ (H1 : Hp) (Q : VK), (∀ v H2, Same H1 H2 → KeyAt X.K H2 v (κ x) → Q v H2) → sp [.str x] H1 Q E0) ∧
    ∀ p H', H p = none → Same H H' → H' p = some (.lst ((xs.mergeSort (PySem.W.dataLe false κ)).map V.str)) → Q (.ref p) H') := by
  intro pins s σ H vs zs us ws Q I r rz q
  obtain ⟨a, kvs, xs, rfl, rfl, hd, hks, hal, hso, hdep, hsp, q⟩ := q
  obtain rfl := Vals.ref1 r
  obtain ⟨w1, rfl, e1⟩ := vals1 rz
  cases e1
  obtain ⟨z, lo, ds, rel, dd⟩ := dk_rd I.hok hd
  obtain ⟨ep, hat⟩ := dd.dictAt
  have hkeys : ds.map (·.1) = xs.map Sum.inr := rel.keys.symm.trans hks
  have hl : ds.length = xs.length := by
    have e := congrArg List.length hkeys
    rw [List.length_map, List.length_map] at e
    exact e
  have hz : ds.length ≤ sizeLine := by rw [← rel.length]; exact z
  show wpAny _ _ (call (.builtin "sorted") [.ref a] [(Str.ofString "key", .ref f)]) _ _ _
  refine call_function_entry_kw kind_sorted plain_sorted entry_sorted (ksk_s1 _ _) ?_
  unfold Builtin.«sorted»
  refine wpAny_bind (m := checkCount "sorted" 1 1 _) (wpAny_pure ?_)
  refine wpAny_bind (PySem.W.kdu_collect (A := X.A.in1) (PySem.W.kdl_dict (knd := mixKind X.prog X.w) (kvs := ds) (ep := ep) lo) (I.ok.hd hcalm) hat hz fun h1 tk acc hk1 hacc => ?_)
  have hsz : acc.toList.length = xs.length := by rw [Array.length_toList, hacc.1, hl]
  have hS : PySem.W.EachIs (fun u x => RelV (V.str x) u) acc.toList xs := by
    have hS : StrsAre acc.toList xs := strs_at hsz fun j v e => by
      obtain ⟨k, x, e1, e2⟩ := hacc.2 j v (by rw [← Array.getElem?_toList]; exact e)
      have e3 : (ds.map (·.1))[j]? = some k := by rw [List.getElem?_map, e1]; all_goals rfl
      rw [hkeys, List.getElem?_map] at e3
      cases e4 : xs[j]? with
      | none => rw [e4] at e3; cases e3
      | some y =>
        rw [e4] at e3
        have e5 : Sum.inr y = k := Option.some.inj e3
        subst e5
        obtain ⟨t, ev⟩ := Value.isStrOf_shape (x := y) (v := v) e2
        exact ⟨y, t, rfl, ev⟩
    exact vals_each (vof := V.str) (vals_of_strs hS)
  have I1 : Inv X pins σ H { s with heap := h1, toks := tk } := I.kept hk1
  refine wpAny_bind (wpAny_newList ?_ (by rw [hsz, ← hl]; exact hz))
  have hoL : (h1.push (seqObj "list" acc.toList.toArray 0)).get? h1.objs.size = some (seqObj "list" acc.toList.toArray 0) := Heap.get?_push_size _ rfl
  show wpAny _ _ _ _ _ { s with heap := h1.push (seqObj "list" acc.toList.toArray 0), toks := tk }
  refine wpAny_bind (wpAny_holding (wpAny_call_entry_kw slot_list_sort ⟨_, hoL, rfl⟩ entry_list_sort ?_ (ksk_l1 _ _)))
  rw [ksk_t1]
  have hZ : acc.toList.length ≤ sizeLine := by rw [hsz, ← hl]; exact hz
  have I2 : Inv X pins σ H { s with heap := h1.push (seqObj "list" acc.toList.toArray 0), toks := tk } := I1.kept fun b u e => Heap.get?_push_of_some _ e
  generalize hA' : h1.objs.size = aL at hoL
  have Na : Newly X pins aL := newly_of I1 (by rw [← hA']; exact Nat.le_refl _)
  have na : H aL = none := I1.hok.fresh (by rw [← hA']; exact Nat.le_refl _)
  generalize hh2 : h1.push (seqObj "list" acc.toList.toArray 0) = h2 at hoL I2
  obtain ⟨e1, ho1⟩ : ∃ e1, (h2.update aL (Obj.mapSeq fun _ => (#[] : Array Value))).get? aL = some (seqObj "list" #[] e1) := ⟨_, get?_update_seq hoL fun _ => #[]⟩
  unfold ksk_tree
  refine wpAny_bind (listItems_at hoL rfl ?_)
  refine wpAny_bind (listUpdate_at hoL rfl ?_ (by rw [List.size_toArray]; exact hZ) (Nat.zero_le _))
  refine wpAny_bind (seqEpoch_at ho1 rfl ?_)
  refine wpAny_bind (wpAny_newTuple ?_ (by show acc.toList.length ≤ _; exact hZ))
  refine wpAny_bind (wpAny_newList ?_ (Nat.zero_le _))
  refine wpAny_holding ?_
  have sb := Heap.SameBut.update h2 aL (Obj.mapSeq fun _ => (#[] : Array Value))
  have I3 : Inv X pins σ H { s with heap := h2.update aL (Obj.mapSeq fun _ => (#[] : Array Value)), toks := tk } := turn_one (s := { s with heap := h2, toks := tk }) I2 Na na fun c o hc e => (sb.2 c hc).trans e
  have I4 : Inv X pins σ H { s with heap := (h2.update aL (Obj.mapSeq fun _ => (#[] : Array Value))).push (seqObj "tuple" acc.toList.toArray 0), toks := tk } := I3.kept fun b u e => Heap.get?_push_of_some _ e
  have I5 : Inv X pins σ H { s with heap := ((h2.update aL (Obj.mapSeq fun _ => (#[] : Array Value))).push (seqObj "tuple" acc.toList.toArray 0)).push (seqObj "list" #[] 0), toks := tk } := I4.kept fun b u e => Heap.get?_push_of_some _ e
  have Nk := newly_of I4 (Nat.le_refl _)
  have nk := I4.hok.fresh (Nat.le_refl _)
  have oa5 := Heap.get?_push_of_some (seqObj "list" #[] 0) (Heap.get?_push_of_some (seqObj "tuple" acc.toList.toArray 0) ho1)
  refine keys_go κ F hb hr.in1.in1 (fun J => J.env0.in1.in1) I5 Na Nk ?_ (Heap.get?_push_size _ rfl) oa5 na nk hS hZ hal hso (fun x hx => ?_) hsp fun s9 H9 s09 h9 I9 => ⟨_, rfl, wpAny_pure ⟨_, rfl, .ref aL, H9, I9, rfl, q aL H9 na s09 h9⟩⟩
  · intro e
    have hlt := Heap.lt_size (Heap.get?_push_of_some (seqObj "tuple" acc.toList.toArray 0) ho1)
    rw [← e] at hlt
    exact Nat.lt_irrefl _ hlt
  · have := hr.un
    have := hdep x hx
    show X.A.units + 1 + 1 + _ < _
    omega
end
end Sf
namespace Sf
open PySem PySem.Spec PyProof.Rows L2 TL
/-! ### moves in their order -/
def dMv (m : Mv) : PyData := .tuple [.str (one m.1), .int m.2.1, .int m.2.2]
def sortM (ms : List Mv) : List Mv := ms.mergeSort (PySem.W.dataLe false dMv)
open PySem.W in
theorem toks_inj {a b : Mv} (h : keyToks (dMv a) = keyToks (dMv b)) : a = b := by
  obtain ⟨c, s, e⟩ := a
  obtain ⟨c', s', e'⟩ := b
  unfold dMv at h
  simp only [keyToks, keyToksAll, List.cons_append, List.nil_append] at h
  simp [one] at h
  obtain ⟨rfl, rfl, rfl⟩ := h
  rfl
theorem mle_trans (a b c : Mv) : PySem.W.dataLe false dMv a b = true → PySem.W.dataLe false dMv b c = true → PySem.W.dataLe false dMv a c = true := (PySem.W.sortLe_total _ _ _).trans a b c
theorem mle_total (a b : Mv) : (PySem.W.dataLe false dMv a b || PySem.W.dataLe false dMv b a) = true := by
  rw [Bool.or_eq_true]
  exact (PySem.W.sortLe_total _ _ _).total a b
theorem mle_anti {a b : Mv} (h1 : PySem.W.dataLe false dMv a b = true) (h2 : PySem.W.dataLe false dMv b a = true) : a = b := by
  unfold PySem.W.dataLe PySem.W.sortLe at h1 h2
  simp only [cond_false, Bool.not_eq_true'] at h1 h2
  exact toks_inj ((PyProof.Rows.listOrd PyProof.Rows.itemOrd).total _ _ h2 h1)
theorem sortM_perm {l m : List Mv} (h : l.Perm m) : sortM l = sortM m := by
  refine List.Perm.eq_of_pairwise (le := fun a b => PySem.W.dataLe false dMv a b = true) (fun a b _ _ h1 h2 => mle_anti h1 h2) (List.pairwise_mergeSort mle_trans mle_total _) (List.pairwise_mergeSort mle_trans mle_total _) ?_
  exact ((List.mergeSort_perm _ _).trans h).trans (List.mergeSort_perm _ _).symm
theorem sortM_len (l : List Mv) : (sortM l).length = l.length := List.length_mergeSort _
theorem sortM_mem {l : List Mv} {m : Mv} : m ∈ sortM l ↔ m ∈ l := List.mem_mergeSort
theorem sortM_is {l : List Mv} : (sortM l).Perm l := List.mergeSort_perm _ _
/-- pairs of a value and its move, sorted -/
theorem sort_pairs (bs : List (V × Mv)) : (bs.mergeSort (PySem.W.dataLe false fun b => dMv b.2)).map (·.2) = sortM (bs.map (·.2)) := List.map_mergeSort fun a _ b _ => rfl
theorem mv_alike (a b : Mv) : PySem.W.alike (dMv a) (dMv b) = true := by
  unfold dMv
  simp [PySem.W.alike, PySem.W.alikeAll]
theorem mv_depth (a : Mv) : (dMv a).depth ≤ 60 := by
  unfold dMv
  simp only [PyData.depth, PyData.depthAll]
  decide
theorem mv_dp {K : PySem.W.Frag} {H : Hp} {v : V} {m : Mv} : MvAt H v m → Dp K H v (dMv m)
  | ⟨_, e, h⟩ => by
    rw [e]
    exact .tup (SqT.of h) (.cons (.str _) (.cons (.int _) (.cons (.int _) .nil)))
theorem zip_paired {α β : Type} {R : α → β → Prop} : ∀ {as : List α} {bs : List β}, Paired R as bs → ∃ l : List (α × β), l.map (·.1) = as ∧ l.map (·.2) = bs ∧ ∀ p ∈ l, R p.1 p.2
  | _, _, .nil => ⟨[], rfl, rfl, fun _ z => by cases z⟩
  | a :: _, b :: _, .cons r t => by
    obtain ⟨l, h1, h2, h3⟩ := zip_paired t
    refine ⟨(a, b) :: l, by rw [List.map_cons, h1], by rw [List.map_cons, h2], fun p hp => ?_⟩
    rcases List.mem_cons.mp hp with rfl | hp
    · exact r
    · exact h3 p hp
theorem paired_zip {α β : Type} {R : α → β → Prop} : ∀ {l : List (α × β)}, (∀ p ∈ l, R p.1 p.2) → Paired R (l.map (·.1)) (l.map (·.2))
  | [], _ => .nil
  | p :: l, h => .cons (h p List.mem_cons_self) (paired_zip fun q hq => h q (List.mem_cons_of_mem _ hq))
/-- sorted(moves) -/
def rSortM (K : PySem.W.Frag) : List V → Hp → VK → Prop := fun xs H Q => ∃ (a' : Addr) (bs : List (V × Mv)), xs = [.ref a'] ∧ SqL K H a' (bs.map (fun b => b.1)) ∧ (∀ b ∈ bs, Dp K H b.1 (dMv b.2)) ∧
    PySem.W.AllAlike (bs.map fun b => dMv b.2) ∧ PySem.W.Sortable (bs.map fun b => dMv b.2) ∧ (∀ b ∈ bs, (dMv b.2).depth ≤ 60) ∧ ∀ p, H p = none → Q (.ref p) (upd H p (.lst ((bs.mergeSort (PySem.W.dataLe false fun b => dMv b.2)).map (fun b => b.1))))
theorem call_sortM {X : Cx} (hu : X.A.units + 64 < cLine) : CallR X (.builtin "sorted") (rSortM X.K) := call_sortedData (β := V × Mv) (fun b => b.1) (fun b => dMv b.2) hu
theorem w_sortM {K : PySem.W.Frag} {H : Hp} {Q : VK} {a : Addr} {us : List V} {ms : List Mv} (ha : H a = some (.lst us)) (hm : MvsAt H us ms) (k : ∀ (p : Addr) (H' : Hp) (us' : List V), H' p = some (.lst us') → MvsAt H us' (sortM ms) → Nw p H H' → Q (.ref p) H') :
    rSortM K [.ref a] H Q := by
  obtain ⟨bs, h1, h2, h3⟩ := zip_paired hm
  refine ⟨a, bs, rfl, by rw [h1]; exact SqL.of ha, fun b hb => mv_dp (h3 b hb), ?_, ?_, fun b _ => mv_depth _, fun p np => ?_⟩
  · intro x hx y hy
    obtain ⟨b, _, rfl⟩ := List.mem_map.mp hx
    obtain ⟨c, _, rfl⟩ := List.mem_map.mp hy
    exact mv_alike _ _
  · refine .inl fun x hx => ?_
    obtain ⟨b, _, rfl⟩ := List.mem_map.mp hx
    exact ⟨_, _, rfl⟩
  · refine k p _ _ upd_same ?_ (.mk' np)
    rw [← h2, ← sort_pairs]
    exact paired_zip fun b hb => h3 b (List.mem_mergeSort.mp hb)
end Sf
namespace Sf
open PySem PySem.Spec PyProof.Rows L2 TL
/-! ### an expression under several locks -/
def frzs (H : Hp) (S : List Addr) (od : Addr → Obj) : Hp := fun a => if a ∈ S then (H a).map (fun u => .frz (od a) u) else H a
def unfz (H H' : Hp) (S : List Addr) : Hp := fun a => if a ∈ S then H a else H' a
def tLocks (t : TE) : TE := fun σ H Q => ∃ S : List Addr, S.Nodup ∧ (∀ a ∈ S, ∃ u, H a = some u ∧ Mut (some u)) ∧ ∀ od, t σ (frzs H S od) fun v H' => (∀ a ∈ S, H' a = frzs H S od a) ∧ Q v (unfz H H' S)
theorem frzs_in {H : Hp} {S : List Addr} {od : Addr → Obj} {a : Addr} {u : HO} (h : a ∈ S) (e : H a = some u) : frzs H S od a = some (.frz (od a) u) := by
  unfold frzs
  rw [if_pos h, e]
  rfl
theorem frzs_out {H : Hp} {S : List Addr} {od : Addr → Obj} {a : Addr} (h : a ∉ S) : frzs H S od a = H a := by
  unfold frzs
  rw [if_neg h]
section
variable {X : Cx} {pins : List (Addr × Obj)} {σ : L2.St} {s : Shared}
theorem lock_all : ∀ (S : List Addr) (H : Hp), Inv X pins σ H s → S.Nodup → (∀ a ∈ S, ∃ u, H a = some u ∧ Mut (some u)) → ∃ od, Inv X pins σ (frzs H S od) s
  | [], H, I, _, _ => ⟨fun _ => default, by
    have e : frzs H [] (fun _ => default) = H := funext fun a => frzs_out (by simp)
    rw [e]
    exact I⟩
  | d :: S, H, I, nd, hm => by
    obtain ⟨u, hu, mu⟩ := hm d List.mem_cons_self
    obtain ⟨o1, I1⟩ := I.lock hu mu
    have nd' := List.nodup_cons.mp nd
    have ne : ∀ a ∈ S, a ≠ d := fun a ha z => nd'.1 (z ▸ ha)
    obtain ⟨od, I2⟩ := lock_all S _ I1 nd'.2 fun a ha => by
      obtain ⟨v, hv, mv⟩ := hm a (List.mem_cons_of_mem _ ha)
      exact ⟨v, by rw [upd_ne (ne a ha)]; exact hv, mv⟩
    refine ⟨fun a => if a = d then o1 else od a, ?_⟩
    have e : frzs H (d :: S) (fun a => if a = d then o1 else od a) = frzs (upd H d (.frz o1 u)) S od := funext fun a => by
      by_cases h1 : a = d
      · subst h1
        rw [frzs_in List.mem_cons_self hu, frzs_out nd'.1, upd_same, if_pos rfl]
      · by_cases h2 : a ∈ S
        · obtain ⟨v, hv, _⟩ := hm a (List.mem_cons_of_mem _ h2)
          rw [frzs_in (List.mem_cons_of_mem _ h2) hv, frzs_in h2 (by rw [upd_ne h1]; exact hv), if_neg h1]
        · rw [frzs_out (by simp [h1, h2]), frzs_out h2, upd_ne h1]
    rw [e]
    exact I2
theorem unlock_all {H : Hp} : ∀ (S : List Addr) (H' : Hp), Inv X pins σ H' s → S.Nodup → (∀ a ∈ S, ∃ od u, H' a = some (.frz od u) ∧ H a = some u ∧ ∀ o' u', X.H_0 a ≠ some (.frz o' u')) → Inv X pins σ (unfz H H' S) s
  | [], H', I, _, _ => by
    have e : unfz H H' [] = H' := funext fun a => if_neg (by simp)
    rw [e]
    exact I
  | d :: S, H', I, nd, hm => by
    obtain ⟨od, u, h1, h2, h3⟩ := hm d List.mem_cons_self
    have nd' := List.nodup_cons.mp nd
    have ne : ∀ a ∈ S, a ≠ d := fun a ha z => nd'.1 (z ▸ ha)
    have I2 := unlock_all S (upd H' d u) (I.unlock h1 h3) nd'.2 fun a ha => by
      obtain ⟨o, v, k1, k2, k3⟩ := hm a (List.mem_cons_of_mem _ ha)
      exact ⟨o, v, by rw [upd_ne (ne a ha)]; exact k1, k2, k3⟩
    have e : unfz H H' (d :: S) = unfz H (upd H' d u) S := funext fun a => by
      unfold unfz
      by_cases k1 : a = d
      · subst k1
        rw [if_pos List.mem_cons_self, if_neg nd'.1, upd_same, h2]
      · by_cases k2 : a ∈ S
        · rw [if_pos (List.mem_cons_of_mem _ k2), if_pos k2]
        · rw [if_neg (by simp [k1, k2]), if_neg k2, upd_ne k1]
    rw [e]
    exact I2
theorem pe_locks {e : Expr} {t : TE} (h : PE X e t) : PE X e (tLocks t) := by
  refine ⟨fun pins s σ H Q I hw => ?_⟩
  obtain ⟨S, nd, hm, hw⟩ := hw
  obtain ⟨od, I1⟩ := lock_all S H I nd hm
  refine thn (h.run pins s σ _ _ I1 (hw od)) fun v s1 ⟨x, H1, I2, r, e2, q⟩ => ?_
  refine ⟨x, _, unlock_all S H1 I2 nd (fun a ha => ?_), r, q⟩
  obtain ⟨u, hu, mu⟩ := hm a ha
  exact ⟨od a, u, by rw [e2 a ha, frzs_in ha hu], hu, I.nofrz hu mu⟩
end
/-! ### a comprehension of two -/
section
variable {σ : L2.St} {H : Hp} {Q : VK} {K : PySem.W.Frag}
def kIn2 (g1 : TG) (tt1 : TT) (te : TE) (vs1 : List Nat) (σ2 : L2.St) (D : Addr) (N : Hp → Prop) : It → Hp → Prop := fun J1 H4 => ∃ W1 : Nat → Nat → Hp → Prop, (∃ m, W1 0 m H4) ∧ ∀ j k H, W1 j k H →
      (J1.stop j H ∧ N H) ∨ (J1.go j H ∧ ∃ Nx1 : Hp → Prop, (∀ H', Nx1 H' → ∃ k', k' < k ∧ W1 (j + 1) k' H') ∧ ∀ x H', J1.yld j H x H' → g1 x (wipe σ2 vs1) H' (kEach tt1 te vs1 σ2 D Nx1))
def kTst2 (wi1 : TI) (g1 : TG) (tt1 : TT) (te : TE) (vs1 : List Nat) (σ2 : L2.St) (D : Addr) (N : Hp → Prop) : Bool → Hp → Prop := fun b H3 => if b = true then wi1 σ2 H3 (kIn2 g1 tt1 te vs1 σ2 D N) else N H3
def kEach2 (tt : TT) (wi1 : TI) (g1 : TG) (tt1 : TT) (te : TE) (vs vs1 : List Nat) (σ : L2.St) (D : Addr) (N : Hp → Prop) : L2.St → Hp → Prop := fun σ2 H2 => wipe σ2 vs = wipe σ vs ∧ tt σ2 H2 (kTst2 wi1 g1 tt1 te vs1 σ2 D N)
def kLc2 (g : TG) (tt : TT) (wi1 : TI) (g1 : TG) (tt1 : TT) (te : TE) (vs vs1 : List Nat) (σ : L2.St) (Q : VK) : It → Hp → Prop := fun J H1 => ∀ D, H1 D = none → ∃ W : Nat → Nat → Hp → Prop, (∃ m, W 0 m (upd H1 D (.lst []))) ∧ ∀ i m H, W i m H →
  (J.stop i H ∧ Q (.ref D) H) ∨ (J.go i H ∧ ∃ Nx : Hp → Prop, (∀ H', Nx H' → ∃ m', m' < m ∧ W (i + 1) m' H') ∧ ∀ x H', J.yld i H x H' → g x (wipe σ vs) H' (kEach2 tt wi1 g1 tt1 te vs vs1 σ D Nx))
theorem w_lc2 {wi wi1 : TI} {g g1 : TG} {tt tt1 : TT} {te : TE} {vs vs1 : List Nat} (q : wi σ H (kLc2 g tt wi1 g1 tt1 te vs vs1 σ Q)) : tLc2 wi g tt wi1 g1 tt1 te vs vs1 σ H Q := q
theorem w_tst2T {wi1 : TI} {g1 : TG} {tt1 : TT} {te : TE} {vs1 : List Nat} {D : Addr} {N : Hp → Prop} (q : wi1 σ H (kIn2 g1 tt1 te vs1 σ D N)) : kTst2 wi1 g1 tt1 te vs1 σ D N true H := iteT q
theorem w_each2 {tt : TT} {wi1 : TI} {g1 : TG} {tt1 : TT} {te : TE} {vs vs1 : List Nat} {σ2 : L2.St} {D : Addr} {N : Hp → Prop} (e : wipe σ2 vs = wipe σ vs) (q : tt σ2 H (kTst2 wi1 g1 tt1 te vs1 σ2 D N)) : kEach2 tt wi1 g1 tt1 te vs vs1 σ D N σ2 H := ⟨e, q⟩
theorem w_lc2S {x : Str} {wi1 : TI} {g g1 : TG} {tt tt1 : TT} {te : TE} {vs vs1 : List Nat} (Pv : Addr → Nat → Hp → Prop) (h0 : ∀ p H1, H1 p = some (.lst []) → Nw p H H1 → Pv p 0 H1)
    (hs : ∀ p i c H, (tl x)[i]? = some c → Pv p i H → g (.str (one c)) (wipe σ vs) H (kEach2 tt wi1 g1 tt1 te vs vs1 σ p (Pv p (i + 1)))) (hd : ∀ p H, Pv p (tl x).length H → Q (.ref p) H) : kLc2 g tt wi1 g1 tt1 te vs vs1 σ Q (Its x) H := fun p np => by
  have hz : x.cps.size = (tl x).length := len_tl x
  refine ⟨fun i m H => m = x.cps.size - i ∧ i ≤ x.cps.size ∧ Pv p i H, ⟨x.cps.size, rfl, Nat.zero_le _, h0 p _ upd_same (.mk' np)⟩, ?_⟩
  rintro i m H ⟨rfl, hi, h⟩
  by_cases hlt : i < x.cps.size
  · refine .inr ⟨hlt, Pv p (i + 1), fun H' p' => ⟨x.cps.size - (i + 1), by omega, rfl, hlt, p'⟩, ?_⟩
    rintro v H' ⟨rfl, c, hc, rfl⟩
    exact hs p i c H' (getElem?_of_cps hc) h
  · have e : i = x.cps.size := by omega
    subst e
    exact .inl ⟨Nat.le_refl _, hd p H (by rw [← hz]; exact h)⟩
theorem w_items {td : TE} {R : It → Hp → Prop} (q : td σ H fun x H1 => ∃ d o kvs, x = .ref d ∧ H1 d = some (.frz o (.dK kvs)) ∧ R (Iti d o kvs) H1) : iItems td σ H R := q
theorem w_in2I {d : Addr} {o : Obj} {kvs : List (Key × V)} {g1 : TG} {tt1 : TT} {te : TE} {vs1 : List Nat} {D : Addr} {N : Hp → Prop} (Pv : Nat → Hp → Prop) (h0 : Pv 0 H) (hl : ∀ j H, Pv j H → H d = some (.frz o (.dK kvs)))
    (hs : ∀ j T k v H H', kvs[j]? = some (k, v) → Pv j H → H' T = some (.tup [kV k, v]) → Nw T H H' → g1 (.ref T) (wipe σ vs1) H' (kEach tt1 te vs1 σ D (Pv (j + 1)))) (hd : ∀ H, Pv kvs.length H → N H) : kIn2 g1 tt1 te vs1 σ D N (Iti d o kvs) H := by
  refine ⟨fun i m H => m = kvs.length - i ∧ i ≤ kvs.length ∧ Pv i H, ⟨kvs.length, rfl, Nat.zero_le _, h0⟩, ?_⟩
  rintro i m H ⟨rfl, hi, h⟩
  by_cases hlt : i < kvs.length
  · refine .inr ⟨⟨hl i H h, hlt⟩, Pv (i + 1), fun H' p' => ⟨kvs.length - (i + 1), by omega, rfl, hlt, p'⟩, ?_⟩
    rintro x H' ⟨T, k, v, hk, rfl, nT, rfl⟩
    exact hs i T k v H _ hk h upd_same (.mk' nT)
  · have e : i = kvs.length := by omega
    subst e
    exact .inl ⟨⟨hl _ H h, Nat.le_refl _⟩, hd H h⟩
end
end Sf
namespace Sf
open PySem PySem.Spec PyProof.Rows L2 TL
/-! ### World.moves -/
def smls : List Nat := [97, 98, 99, 100, 101, 102, 103, 104]
theorem smls_tl : tl (Str.ofString "abcdefgh") = smls := by decide +kernel
theorem smls_sgs : ∀ c ∈ smls, c ∈ sgs := by decide
theorem smls_iff {c : Nat} : c ∈ smls ↔ 97 ≤ c ∧ c ≤ 104 := by
  unfold smls
  simp only [List.mem_cons, List.not_mem_nil, or_false]
  omega
theorem smls_nd : smls.Nodup := by decide
def mvC (L : Nat → List (Int × Int)) (c : Nat) : List Mv := (L c).map fun p => (c, p.1, p.2)
def mvsOf (L : Nat → List (Int × Int)) : List Mv := smls.flatMap (mvC L)
theorem filter_parts : ∀ (cs : List Nat) (ms : List Mv), cs.Nodup → (∀ m ∈ ms, m.1 ∈ cs) → (cs.flatMap fun c => ms.filter fun m => decide (m.1 = c)).Perm ms
  | [], ms, _, h => by
    cases ms with
    | nil => exact .refl _
    | cons m ms => exact absurd (h m List.mem_cons_self) (by simp)
  | c :: cs, ms, nd, h => by
    have nd' := List.nodup_cons.mp nd
    have ih := filter_parts cs (ms.filter fun m => !decide (m.1 = c)) nd'.2 fun m hm => by
      rw [List.mem_filter] at hm
      rcases List.mem_cons.mp (h m hm.1) with e | e
      · rw [e] at hm
        simp at hm
      · exact e
    have e : (cs.flatMap fun d => (ms.filter fun m => !decide (m.1 = c)).filter fun m => decide (m.1 = d)) = cs.flatMap fun d => ms.filter fun m => decide (m.1 = d) := by
      rw [List.flatMap_def, List.flatMap_def]
      congr 1
      refine List.map_congr_left fun d hd => ?_
      rw [List.filter_filter]
      refine List.filter_congr fun m _ => ?_
      by_cases hm : m.1 = d
      · have : ¬ m.1 = c := fun z => nd'.1 (by rw [← z, hm]; exact hd)
        simp [hm]
        rw [hm] at this
        exact this
      · simp [hm]
    rw [List.flatMap_cons, ← e]
    exact (ih.append_left _).trans (List.filter_append_perm _ _)
theorem mvC_LM {n : Int} {ms : List Mv} (ok : WOk n ms) {c : Nat} (hc : c ∈ smls) : mvC (LM ms) c = ms.filter fun m => decide (m.1 = c) := by
  unfold mvC LM
  have : ∀ l : List Mv, (∀ m ∈ l, 97 ≤ m.1 ∧ m.1 ≤ 104) → (l.filterMap (mvOn c)).map (fun p => ((c, p.1, p.2) : Mv)) = l.filter fun m => decide (m.1 = c) := by
    intro l
    induction l with
    | nil => intro _; rfl
    | cons m l ih =>
      intro h
      have ih := ih fun k hk => h k (List.mem_cons_of_mem _ hk)
      have hm := h m List.mem_cons_self
      have hc' := smls_iff.mp hc
      rw [List.filterMap_cons, List.filter_cons]
      unfold mvOn
      by_cases e : m.1 = c
      · rw [if_pos e, if_pos (decide_eq_true e), ← ih]
        obtain ⟨a, b, d⟩ := m
        have e : a = c := e
        subst e
        rfl
      · rw [if_neg e, if_neg (show ¬ m.1 = c + 32 by omega), if_neg (by simpa using e), ← ih]
        rfl
  exact this ms fun m hm => by
    have := ok.rg m hm
    omega
theorem mvsOf_LM {n : Int} {ms : List Mv} (ok : WOk n ms) : (mvsOf (LM ms)).Perm ms := by
  have e : mvsOf (LM ms) = smls.flatMap fun c => ms.filter fun m => decide (m.1 = c) := by
    unfold mvsOf
    rw [List.flatMap_def, List.flatMap_def]
    congr 1
    exact List.map_congr_left fun c hc => mvC_LM ok hc
  rw [e]
  exact filter_parts smls ms smls_nd fun m hm => smls_iff.mpr (by have := ok.rg m hm; omega)
theorem nodup_of : ∀ l : List Addr, ∃ S : List Addr, S.Nodup ∧ ∀ a, a ∈ S ↔ a ∈ l
  | [] => ⟨[], .nil, fun _ => .rfl⟩
  | x :: l => by
    obtain ⟨S, nd, h⟩ := nodup_of l
    by_cases hx : x ∈ S
    · refine ⟨S, nd, fun a => ?_⟩
      rw [h, List.mem_cons]
      constructor
      · exact .inr
      · rintro (rfl | z)
        · exact (h a).mp hx
        · exact z
    · exact ⟨x :: S, List.nodup_cons.mpr ⟨hx, nd⟩, fun a => by rw [List.mem_cons, List.mem_cons, h]⟩
section
variable {P : Program} {w : World} {K : PySem.W.Frag} {mg : Str → Option Value} {base : Heap} {C : Addr}
def spMvs (C : Addr) : Sp := fun vs H Q _ => ∃ (p : Addr) (n : Int) (L : Nat → List (Int × Int)), vs = [.ref p] ∧ WAt C H p n L ∧ (∀ c ∈ smls, (L c).length ≤ 10000) ∧
  ∀ (r : Addr) (H' : Hp) (us : List V), H r = none → Same H H' → H' r = some (.lst us) → MvsAt H' us (sortM (mvsOf L)) → Q (.ref r) H'
theorem ld_ne {H : Hp} {ld : Addr} {d : Nat → Addr} {L : Nat → List (Int × Int)} (h : LdAt H ld d L) {c : Nat} (hc : c ∈ sgs) : ld ≠ d c := fun z => by
  have h1 := h.hd
  have h2 := h.hc c hc
  rw [z, h2] at h1
  have h3 := HO.dK.inj (Option.some.inj h1)
  unfold leV sgs at h3
  unfold kvI at h3
  cases e : L c with
  | nil => rw [e] at h3; cases h3
  | cons p r =>
    rw [e, List.map_cons, List.map_cons] at h3
    have h4 := (List.cons.inj h3).1
    have h5 : (Sum.inl p.1 : Key) = Sum.inr (one 97) := congrArg Prod.fst h4
    cases h5
theorem val_leV {d : Nat → Addr} : ∀ {l : List Nat} {c : Nat}, c ∈ l → valV (leV d l) (Sum.inr (one c)) = some (.ref (d c))
  | x :: l, c, h => by
    unfold leV
    rw [List.map_cons]
    by_cases e : x = c
    · subst e
      rw [valV_pos rfl]
    · rw [valV_neg (fun z => e (one_inj (Sum.inr.inj z)))]
      rcases List.mem_cons.mp h with z | z
      · exact absurd z.symm e
      · exact val_leV z
theorem sc_mv : FnScope ["self", "letter", "start", "end"] ["self"] (defScope s_World_moves) := ⟨rfl, rfl, rfl, by decide +kernel, rfl, by decide +kernel, by decide +kernel⟩
theorem has_mvs (F : MAt K C "moves" "World.moves" s_World_moves ["self"]) (B : Blt mg) (T_World : WC K mg C) {t1 : Tok} (C_LETTERS : mg "LETTERS" = some (.str (Str.ofString "abcdefgh") t1)) : HasM P w K mg base C 1 "moves" ["self"] (spMvs C) := F.has fun F => by
  refine F.ok sc_mv (fun vs H Q E h => ?_) (fun cdv A outer s H vs Q E hr h => ?_)
  · obtain ⟨p, n, L, rfl, _⟩ := h
    rfl
  · obtain ⟨p, n, L, rfl, hW, hsz, q⟩ := h
    refine ⟨_, (pss_one (ps_ret (pe_callB (call_sortM hr.units) (by rfl) B.sorted (by decide +kernel) (pa_cons (pe_locks (pe_lc2 (own := [("letter", 1), ("start", 2), ("end", 3)]) (vs1 := [2, 3]) (g := gName 1) (tt := tYes) (g1 := gTup K 2 (gCons (gName 2) (gCons (gName 3) gNil))) (tt1 := tYes) (wi1 := iItems (tDGet (tFld K (tVar 0) "leads") (tVar 1))) (by rfl) sc_mv.nd (pi_str (pe_gS (by rfl) C_LETTERS)) (blkOk_by (own := [("letter", 1), ("start", 2), ("end", 3)]) (N := ["self", "letter", "start", "end"]) (sc := defScope s_World_moves) (by decide +kernel)) (by decide) (fun _ _ _ _ _ => pg_name (i := 1) sc_mv.nd rfl (.inl rfl)) (fun _ _ _ _ _ => pts_nil) (fun _ _ _ _ _ => by exact (pi_items (pe_dget (hu_of hr) (pe_fld (pv 0) rfl) (pv 1) (fun _ _ => rfl)))) (fun _ _ _ _ _ => pg_tup rfl (pgs_cons (pg_name (i := 2) sc_mv.nd rfl (.inl rfl)) (pgs_cons (pg_name (i := 3) sc_mv.nd rfl (.inl rfl)) pgs_nil))) (fun _ _ _ _ _ => pts_nil) (fun _ _ _ _ _ => (pe_tup (pa_cons (pv 1) (pa_cons (pv 2) (pa_cons (pv 3) pa_nil))))))) pa_nil)))), ?_⟩
    obtain ⟨dx, pl, ld, d, hp, hpl, hL⟩ := hW
    obtain ⟨S, nd, hS⟩ := nodup_of (smls.map d)
    have inS : ∀ c ∈ smls, d c ∈ S := fun c hc => (hS _).mpr (List.mem_map.mpr ⟨c, hc, rfl⟩)
    have atS : ∀ a ∈ S, ∃ c ∈ smls, a = d c ∧ H a = some (.dK (kvI (L c))) := fun a ha => by
      obtain ⟨c, hc, rfl⟩ := List.mem_map.mp ((hS a).mp ha)
      exact ⟨c, hc, rfl, hL.hc c (smls_sgs c hc)⟩
    have npS : p ∉ S := fun z => by
      obtain ⟨c, _, _, e⟩ := atS p z
      rw [hp] at e
      cases e
    have nlS : ld ∉ S := fun z => by
      obtain ⟨c, hc, e, _⟩ := atS ld z
      exact ld_ne hL (smls_sgs c hc) e
    walk_at "go"
    refine ⟨S, nd, fun a ha => ?_, fun od => ?_⟩
    · obtain ⟨c, _, _, e⟩ := atS a ha
      exact ⟨_, e, trivial⟩
    have hpF : frzs H S od p = some (.ins C dx (wf pl ld)) := by rw [frzs_out npS]; exact hp
    have hlF : frzs H S od ld = some (.dK (leV d sgs)) := by rw [frzs_out nlS]; exact hL.hd
    have hdF : ∀ c ∈ smls, frzs H S od (d c) = some (.frz (od (d c)) (.dK (kvI (L c)))) := fun c hc => frzs_in (inS c hc) (hL.hc c (smls_sgs c hc))
    refine w_lc2 ?_
    walk_at "go"
    refine w_lc2S (fun r i H2 => ∃ us, Same (frzs H S od) H2 ∧ frzs H S od r = none ∧ H2 r = some (.lst us) ∧ MvsAt H2 us ((smls.take i).flatMap (mvC L)) ∧ us.length ≤ 10000 * i ∧ i ≤ 8) (fun r H2 hr nr => ⟨[], nr.same, nr.nn, hr, .nil, Nat.zero_le _, by decide⟩) ?_ ?_
    · rintro r i c H2 hc ⟨us, s2, nr, hr2, hm2, hu2, hi8⟩
      rw [smls_tl] at hc
      have hcs : c ∈ smls := List.mem_of_getElem? hc
      have hi7 : i < 8 := (List.getElem?_eq_some_iff.mp hc).1
      walk_at "go"
      refine w_each2 rfl ?_
      walk_at "go"
      refine w_tst2T (w_items ?_)
      walk_at "go"
      refine w_kFld (s2.at hpF) T_World.cl T_World.nL (wf_leads _ _) ?_
      walk_at "go"
      refine w_kDGetS (s2.at hlF) (val_leV (smls_sgs c hcs)) ?_
      refine ⟨d c, od (d c), _, rfl, s2.at (hdF c hcs), ?_⟩
      refine w_in2I (fun j H3 => ∃ us', Same (frzs H S od) H3 ∧ H3 r = some (.lst us') ∧ MvsAt H3 us' ((smls.take i).flatMap (mvC L) ++ (mvC L c).take j) ∧ us'.length ≤ 10000 * i + j) ⟨us, s2, hr2, by rw [List.take_zero, List.append_nil]; exact hm2, hu2⟩ (fun j H3 ⟨_, s3, _⟩ => s3.at (hdF c hcs)) ?_ ?_
      · rintro j T k v H3 H4 hk ⟨us', s3, hr3, hm3, hu3⟩ hT nT
        unfold kvI at hk
        rw [List.getElem?_map, Option.map_eq_some_iff] at hk
        obtain ⟨⟨x, y⟩, hxy, e⟩ := hk
        cases e
        have hjl : j < (L c).length := (List.getElem?_eq_some_iff.mp hxy).1
        have hLc := hsz c hcs
        walk_at "go"
        refine w_newT (by walk_at "sz") (fun t H5 ht nt => ?_)
        refine w_kIt (nt.at (nT.at hr3)) (lineLt_of (by omega)) (fun H6 h6 o6 => ?_)
        have s5 : Same (frzs H S od) H5 := (s3.nw nT).nw nt
        have tr : t ≠ r := (nt.ne (nT.at hr3)).symm
        refine ⟨_, s5.off o6 nr, h6, ?_, by rw [List.length_append]; show us'.length + 1 ≤ _; omega⟩
        have e1 : (mvC L c).take (j + 1) = (mvC L c).take j ++ [(c, x, y)] := by
          refine take_snoc ?_
          unfold mvC
          rw [List.getElem?_map, hxy]
          rfl
        rw [e1, ← List.append_assoc]
        refine paired_snoc ⟨t, rfl, o6.at tr ht⟩ ?_
        exact ((hm3.tps (.of nT.same)).tps (.of nt.same)).tps (Tps.refl.off (nt.at (nT.at hr3)) o6)
      · rintro H3 ⟨us', s3, hr3, hm3, hu3⟩
        rw [kvI_len] at hm3 hu3
        have hLc := hsz c hcs
        refine ⟨us', s3, nr, hr3, ?_, by omega, hi7⟩
        have e1 : (mvC L c).take (L c).length = mvC L c := by
          refine List.take_of_length_le ?_
          unfold mvC
          rw [List.length_map]
          exact Nat.le_refl _
        rw [e1] at hm3
        rw [take_snoc hc, List.flatMap_append]
        simpa using hm3
    · rintro r H2 ⟨us, s2, nr, hr2, hm2, hu2, hi8⟩
      have hfull : smls.take (tl (Str.ofString "abcdefgh")).length = smls := by decide +kernel
      rw [hfull] at hm2
      refine ⟨fun a ha => ?_, ?_⟩
      · obtain ⟨c, _, _, e⟩ := atS a ha
        rw [frzs_in ha e]
        exact s2 _ _ (frzs_in ha e)
      have sU : Same H (unfz H H2 S) := fun a o e => by
        unfold unfz
        by_cases h : a ∈ S
        · rw [if_pos h]
          exact e
        · rw [if_neg h]
          exact s2 _ _ (by rw [frzs_out h]; exact e)
      have nrS : r ∉ S := fun z => by
        obtain ⟨c, _, _, e⟩ := atS r z
        rw [frzs_in z e] at nr
        cases nr
      have nrH : H r = none := by
        rw [frzs_out nrS] at nr
        exact nr
      have hrU : unfz H H2 S r = some (.lst us) := by
        unfold unfz
        rw [if_neg nrS]
        exact hr2
      have tU : Tps H2 (unfz H H2 S) := fun a xs e => by
        unfold unfz
        by_cases h : a ∈ S
        · obtain ⟨c, _, _, e'⟩ := atS a h
          rw [s2 _ _ (frzs_in h e')] at e
          cases e
        · rw [if_neg h]
          exact e
      walk_at "go"
      refine w_sortM hrU (hm2.tps tU) (fun r2 H3 us2 h3 hm3 n3 => ?_)
      exact q r2 H3 us2 (sU.free n3.nn) (sU.nw n3) h3 (hm3.tps (.of n3.same))
end
end Sf
namespace Sf
open PySem PySem.Spec PyProof.Rows L2 TL
section
variable {P : Program} {w : World} {K : PySem.W.Frag} {mg : Str → Option Value} {base : Heap} {C CN : Addr}
/-! ### renumbered -/
theorem w_dcI {σ : L2.St} {H : Hp} {Q : VK} {d : Addr} {o : Obj} {kvs : List (Key × V)} {g : TG} {tt : TT} {tk tv : TE} {vs : List Nat} (Pv : Addr → Nat → Hp → Prop) (h0 : ∀ p H1, H1 p = some (.dK []) → Nw p H H1 → Pv p 0 H1) (hl : ∀ p i H, Pv p i H → H d = some (.frz o (.dK kvs)))
    (hs : ∀ p i T k v H H', kvs[i]? = some (k, v) → Pv p i H → H' T = some (.tup [kV k, v]) → Nw T H H' → g (.ref T) (wipe σ vs) H' (kEachD tt tk tv vs σ p (Pv p (i + 1)))) (hd : ∀ p H, Pv p kvs.length H → Q (.ref p) H) : kDc g tt tk tv vs σ Q (Iti d o kvs) H := by
  refine w_dcG (n := kvs.length) Pv h0 (fun p i H hi h => ⟨hl p i H h, hi⟩) (fun p H h => ⟨hl p _ H h, Nat.le_refl _⟩) ?_ hd
  rintro p i x H H' hi h ⟨T, k, v, hk, rfl, nT, rfl⟩
  exact hs p i T k v H _ hk h upd_same (.mk' nT)
theorem w_dcE {σ : L2.St} {H : Hp} {Q : VK} {d : Addr} {o : Obj} {kvs : List (Key × V)} {g : TG} {tt : TT} {tk tv : TE} {vs : List Nat} (Pv : Addr → Nat → Hp → Prop) (h0 : ∀ p H1, H1 p = some (.dK []) → Nw p H H1 → Pv p 0 H1) (hl : ∀ p i H, Pv p i H → H d = some (.frz o (.dK kvs)))
    (hs : ∀ p i T k v H H', kvs[i]? = some (k, v) → Pv p i H → H' T = some (.tup [.int (i : Nat), kV k]) → Nw T H H' → g (.ref T) (wipe σ vs) H' (kEachD tt tk tv vs σ p (Pv p (i + 1)))) (hd : ∀ p H, Pv p kvs.length H → Q (.ref p) H) : kDc g tt tk tv vs σ Q (Itek d o kvs) H := by
  refine w_dcG (n := kvs.length) Pv h0 (fun p i H hi h => ⟨hl p i H h, hi⟩) (fun p H h => ⟨hl p _ H h, Nat.le_refl _⟩) ?_ hd
  rintro p i x H H' hi h ⟨T, k, v, hk, rfl, nT, rfl⟩
  exact hs p i T k v H _ hk h upd_same (.mk' nT)
def spRn : Sp := fun vs H Q _ => ∃ (a b : Addr) (l : List (Int × Int)) (ks : List Int), vs = [.ref a, .ref b] ∧ a ≠ b ∧ H a = some (.dK (kvI l)) ∧ H b = some (.dK (kvI (numL ks))) ∧ (l.map (·.1)).Nodup ∧ (∀ q ∈ l, q.1 ∈ ks → q.2 ∈ ks) ∧ l.length ≤ 100000 ∧
  ∀ (r : Addr) (H' : Hp), H r = none → Same H H' → H' r = some (.dK (kvI (renM ks l))) → Q (.ref r) H'
theorem sc_rn : FnScope ["led", "numbers", "start", "end"] ["led", "numbers"] (defScope s_renumbered) := ⟨rfl, rfl, rfl, by decide +kernel, rfl, by decide +kernel, by decide +kernel⟩
theorem has_rn (F : FnAt K mg "renumbered" s_renumbered ["led", "numbers"]) : Has P w K mg base 1 "renumbered" ["led", "numbers"] spRn := F.has fun F => by
  refine F.ok sc_rn (fun vs H Q E h => ?_) (fun cdv A outer s H vs Q E hr h => ?_)
  · obtain ⟨a, b, l, ks, rfl, _⟩ := h
    rfl
  · obtain ⟨a, b, l, ks, rfl, hab, ha, hb, nd, hcl, hll, q⟩ := h
    refine ⟨_, (pss_one (ps_ret (pe_lock (pe_dc (own := [("start", 2), ("end", 3)]) (g := gTup K 2 (gCons (gName 2) (gCons (gName 3) gNil))) (by rfl) sc_rn.nd (pi_items (pv 0)) (blkOk_by (own := [("start", 2), ("end", 3)]) (N := ["led", "numbers", "start", "end"]) (sc := defScope s_renumbered) (by decide +kernel)) (fun _ _ _ _ _ => pg_tup rfl (pgs_cons (pg_name (i := 2) sc_rn.nd rfl (.inl rfl)) (pgs_cons (pg_name (i := 3) sc_rn.nd rfl (.inl rfl)) pgs_nil))) (fun _ _ _ _ _ => pts_one (pt_cmp (pc_din (hu_of hr) (pv 2) (pv 1)))) (fun _ _ _ _ _ => (pe_dget (hu_of hr) (pv 1) (pv 2) (fun _ _ => rfl))) (fun _ _ _ _ _ => (pe_dget (hu_of hr) (pv 1) (pv 3) (fun _ _ => rfl))))))), ?_⟩
    walk_at "go"
    refine ⟨a, _, ha, trivial, fun od => ?_⟩
    have hb0 : upd H a (.frz od (.dK (kvI l))) b = some (.dK (kvI (numL ks))) := by rw [upd_ne hab.symm]; exact hb
    have isin : ∀ x : Int, (valV (kvI (numL ks)) (Sum.inl x)).isSome = decide (x ∈ ks) := fun x => by
      rw [val_kvI, Option.isSome_map, lk_isSome, numL_keys]
    walk_at "go"
    refine w_items ?_
    walk_at "go"
    refine ⟨a, od, _, rfl, upd_same, ?_⟩
    refine w_dcI (fun r i H2 => Same (upd H a (.frz od (.dK (kvI l)))) H2 ∧ upd H a (.frz od (.dK (kvI l))) r = none ∧ H2 r = some (.dK (kvI (renM ks (l.take i))))) (fun r H2 hr nr => ⟨nr.same, nr.nn, hr⟩) (fun r i H2 h => h.1.at upd_same) ?_ ?_
    · rintro r i T k v H2 H3 hk ⟨s2, nr, hr2⟩ hT nT
      unfold kvI at hk
      rw [List.getElem?_map, Option.map_eq_some_iff] at hk
      obtain ⟨⟨x, y⟩, hxy, e⟩ := hk
      cases e
      have hT : H3 T = some (.tup [V.int x, V.int y]) := hT
      have s3 := s2.nw nT
      have hb3 := s3.at hb0
      have hxl : (x, y) ∈ l := List.mem_of_getElem? hxy
      have hil : i < l.length := (List.getElem?_eq_some_iff.mp hxy).1
      have rb : r ≠ b := fun z => by rw [z, hb0] at nr; cases nr
      walk_at "go"
      rw [isin x, take_snoc hxy]
      by_cases hx : x ∈ ks
      · rw [renM_snoc_in (q := (x, y)) hx, decide_eq_true hx]
        have hy := hcl _ hxl hx
        refine w_tstDT ?_
        walk_at "go"
        refine w_kDGetI hb3 (by rw [val_kvI, lk_num hx]; rfl) ?_
        walk_at "go"
        refine w_kDGetI hb3 (by rw [val_kvI, lk_num hy]; rfl) ?_
        walk_at "go"
        have hr3 := nT.at hr2
        refine w_kItDI hr3 (by rw [kvI_len]; have := renM_len ks (l.take i); rw [List.length_take] at this; exact lineLt_of (by omega)) (fun H4 hr4 o4 => ⟨s3.off o4 nr, nr, ?_⟩)
        rw [hr4, kvI_put (renM_new (q := (x, y)) ?_ hx)]
        rw [← take_snoc hxy]
        exact nd.sublist ((List.take_sublist _ _).map _)
      · rw [renM_snoc_out (q := (x, y)) hx, decide_eq_false hx]
        refine w_tstDB (fun z => nomatch z) fun _ => ?_
        exact ⟨s3, nr, nT.at hr2⟩
    · rintro r H2 ⟨s2, nr, hr2⟩
      rw [kvI_len, List.take_length] at hr2
      have nra : r ≠ a := fun z => by rw [z, upd_same] at nr; cases nr
      refine ⟨s2.at upd_same, ?_⟩
      refine q r _ (by rw [upd_ne nra] at nr; exact nr) (fun c o e => ?_) (by rw [upd_ne nra]; exact hr2)
      by_cases hc : c = a
      · subst hc
        rw [upd_same, ← ha]
        exact e
      · rw [upd_ne hc]
        exact s2 c o (by rw [upd_ne hc]; exact e)
/-! ### world_of -/
theorem wf_eq (pl ld : Addr) : wf pl ld = [(("places" : Str), .ref pl), (("leads" : Str), .ref ld)] := by
  unfold wf
  simp [putF, fpl_ne]
theorem wf_len (pl ld : Addr) : (wf pl ld).length < 1000 := by
  rw [wf_eq]
  show 2 < 1000
  decide
theorem wf_putP (pl ld r : Addr) : putF "places" (.ref r) (wf pl ld) = wf r ld := by
  rw [wf_eq, wf_eq]
  simp [putF]
theorem wf_putL (pl ld r : Addr) : putF "leads" (.ref r) (wf pl ld) = wf pl r := by
  rw [wf_eq, wf_eq]
  simp [putF, fpl_ne]
def spWf (C : Addr) : Sp := fun vs H Q _ => ∃ (n : Int) (ld : Addr) (d : Nat → Addr) (L : Nat → List (Int × Int)), vs = [.int n, .ref ld] ∧ 0 ≤ n ∧ n ≤ 1000 ∧ LdAt H ld d L ∧ ∀ (p : Addr) (H' : Hp), H p = none → Same H H' → WAt C H' p n L → Q (.ref p) H'
theorem sc_wf : FnScope ["many", "leads", "world"] ["many", "leads"] (defScope s_world_of) := ⟨rfl, rfl, rfl, by decide +kernel, rfl, by decide +kernel, by decide +kernel⟩
theorem has_wf (F : FnAt K mg "world_of" s_world_of ["many", "leads"]) (B : Blt mg) (T_World : WC K mg C) (mk : PySem.W.makesIn K C = true) (kc : PySem.W.keepIn K (.ref C) = true) (h_WI : HasM P w K mg base C 4 "__init__" ["self", "many", "moves"] (spWI C)) : Has P w K mg base 6 "world_of" ["many", "leads"] (spWf C) := F.has fun F => by
  obtain ⟨f_WI, fd_WI, m_WI, b_WI, G_WI⟩ := h_WI
  have M_WI : Mk K C f_WI := ⟨mk, m_WI.at_, m_WI.fn, kc⟩
  have g_World := T_World.mgC
  refine F.ok sc_wf (fun vs H Q E h => ?_) (fun cdv A outer s H vs Q E hr h => ?_)
  · obtain ⟨n, ld, d, L, rfl, _⟩ := h
    rfl
  · obtain ⟨n, ld, d, L, rfl, n0, n1, hl, q⟩ := h
    refine ⟨_, (pss_cons (ps_set (i := 2) sc_wf.nd rfl (.inl rfl) (pe_make M_WI G_WI (hr.mono (by decide)) (by rfl) g_World b_WI .nil pass0 (pa_cons pe_int (pa_cons (pe_lst pa_nil) pa_nil)))) (pss_cons (ps_fld (pv 2) (pe_listRg rfl (by rfl) B.list (prg_1 (by rfl) B.range (pv 0))) rfl) (pss_cons (ps_fld (pv 2) (pv 1) rfl) (pss_one (ps_ret (pv 2)))))), ?_⟩
    walk_at "go"
    refine w_newL (by walk_at "sz") (fun l1 H1 hl1 nl1 => ?_)
    walk_at "go"
    refine w_world (ms := []) hl1 .nil ⟨by decide, by decide⟩ (by decide) (by decide) (by decide) (fun p H2 G2 hW2 sG2 hG2 s2 => ?_)
    have ⟨dx, pl, ld0, d0, hp, _, _⟩ := hW2
    have np : H p = none := nl1.same.free (hG2 p _ hp)
    have hp2 := sG2.at hp
    walk_at "go"
    refine w_kRgL (.of_le (by decide) (by omega) (by decide) (by omega)) (fun r H3 hr3 nr3 => ?_)
    walk_at "go"
    refine w_kSFld (nr3.at hp2) T_World.cl T_World.nP (wf_len _ _) (fun H4 hp4 o4 => ?_)
    rw [wf_putP] at hp4
    walk_at "go"
    refine w_kSFld hp4 T_World.cl T_World.nL (wf_len _ _) (fun H5 hp5 o5 => ?_)
    rw [wf_putL] at hp5
    walk_at "go"
    have s3 : Same H H3 := (nl1.same.trans s2).nw nr3
    have s5 : Same H H5 := (s3.off o4 np).off o5 np
    have rp : r ≠ p := (nr3.ne hp2).symm
    refine q p H5 np s5 ⟨dx, r, ld, d, hp5, o5.at rp (o4.at rp hr3), hl.same s5⟩
end
end Sf
namespace Sf
open PySem PySem.Spec PyProof.Rows L2 TL
section
variable {P : Program} {w : World} {K : PySem.W.Frag} {mg : Str → Option Value} {base : Heap} {C CN : Addr}
theorem seen_binds {K : PySem.W.Frag} {T : Addr} {o : Obj} {dv : Value} {n : Nat} (ho : K.lookup T = some o) (hs : o.data = .seq #[dv] n) (kV doc pm : Value) (an : Option Addr) (cdv ct : Value) (s : Shared) (us : List Value) (X : K.In s.heap) (hl : us.length = 2) :
    BindsTo s (PySem.W.fnOf "seen" "World.seen" (defArgs s_World_seen) (defBody s_World_seen) (defScope s_World_seen) (.ref T) kV doc pm an cdv ct) ⟨us, []⟩ ((["self", "place"] : List Str).zip us) := by
  match us, hl with
  | [_, _], _ => exact PySem.W.binds_K X rfl ho hs rfl rfl
theorem seen_bindsD {K : PySem.W.Frag} {T : Addr} {o : Obj} {dv : Value} {n : Nat} (ho : K.lookup T = some o) (hs : o.data = .seq #[dv] n) (kV doc pm : Value) (an : Option Addr) (cdv ct : Value) (s : Shared) (us : List Value) (X : K.In s.heap) (hl : (us ++ [dv]).length = 2) :
    BindsTo s (PySem.W.fnOf "seen" "World.seen" (defArgs s_World_seen) (defBody s_World_seen) (defScope s_World_seen) (.ref T) kV doc pm an cdv ct) ⟨us, []⟩ ((["self", "place"] : List Str).zip (us ++ [dv])) := by
  have hl : us.length = 1 := by
    rw [List.length_append] at hl
    have : [dv].length = 1 := rfl
    omega
  match us, hl with
  | [_], _ => exact PySem.W.binds_K X rfl ho hs rfl rfl
theorem ways_binds {K : PySem.W.Frag} {T : Addr} {o : Obj} {dv : Value} {n : Nat} (ho : K.lookup T = some o) (hs : o.data = .seq #[dv] n) (kV doc pm : Value) (an : Option Addr) (cdv ct : Value) (s : Shared) (us : List Value) (X : K.In s.heap) (hl : us.length = 2) :
    BindsTo s (PySem.W.fnOf "ways" "World.ways" (defArgs s_World_ways) (defBody s_World_ways) (defScope s_World_ways) (.ref T) kV doc pm an cdv ct) ⟨us, []⟩ ((["self", "place"] : List Str).zip us) := by
  match us, hl with
  | [_, _], _ => exact PySem.W.binds_K X rfl ho hs rfl rfl
theorem ways_bindsD {K : PySem.W.Frag} {T : Addr} {o : Obj} {dv : Value} {n : Nat} (ho : K.lookup T = some o) (hs : o.data = .seq #[dv] n) (kV doc pm : Value) (an : Option Addr) (cdv ct : Value) (s : Shared) (us : List Value) (X : K.In s.heap) (hl : (us ++ [dv]).length = 2) :
    BindsTo s (PySem.W.fnOf "ways" "World.ways" (defArgs s_World_ways) (defBody s_World_ways) (defScope s_World_ways) (.ref T) kV doc pm an cdv ct) ⟨us, []⟩ ((["self", "place"] : List Str).zip (us ++ [dv])) := by
  have hl : us.length = 1 := by
    rw [List.length_append] at hl
    have : [dv].length = 1 := rfl
    omega
  match us, hl with
  | [_], _ => exact PySem.W.binds_K X rfl ho hs rfl rfl
/-! ### World.ways -/
def wyV (fs : List Fd) : List V := fs.map fun k => V.str k.2
def spWyX (C CN : Addr) : Sp := fun vs H Q E => ∃ (p : Addr) (n x : Int) (L : Nat → List (Int × Int)), vs = [.ref p, .int x] ∧ WAt C H p n L ∧ LRg n L ∧ n ≤ 1000 ∧ -1000000000000 ≤ x ∧ x ≤ 1000000000000 ∧ (¬ (0 ≤ x ∧ x < n) → XEp CN x H E) ∧
  (0 ≤ x ∧ x < n → ∀ (r : Addr) (H' : Hp) (fs : List Fd), H r = none → Same H H' → H' r = some (.lst (wyV fs)) → FinB L x fs → FsOk n fs → Q (.ref r) H')
theorem sc_wy : FnScope ["self", "place"] ["self", "place"] (defScope s_World_ways) := ⟨rfl, rfl, rfl, by decide +kernel, rfl, by decide +kernel, by decide +kernel⟩
theorem has_wyX {dv : Value} (F : MAtD K C "ways" "World.ways" s_World_ways ["self", "place"] dv) (B : Blt mg) (T_World : WC K mg C) (h_Npl : HasMX P w K mg base C 4 "need_place" ["self", "place"] (spNplX C CN)) (h_Ct : HasM P w K mg base C 1 "come_to" ["self", "place"] (spCt C)) : HasMXD P w K mg base C 5 "ways" ["self", "place"] dv (spWyX C CN) := by
  obtain ⟨f, fd, g, F, bb, bd⟩ := F
  refine ⟨f, fd, g, bb, bd, ?_⟩
  obtain ⟨f_Npl, fd_Npl, m_Npl, b_Npl, G_Npl⟩ := h_Npl
  obtain ⟨f_Ct, fd_Ct, m_Ct, b_Ct, G_Ct⟩ := h_Ct
  refine F.okX sc_wy (fun vs H Q E h => ?_) (fun cdv A outer s H vs Q E hr h => ?_)
  · obtain ⟨p, n, x, L, rfl, _⟩ := h
    rfl
  · obtain ⟨p, n, x, L, rfl, hW, hL, hn, x0, x1, qp, q⟩ := h
    refine ⟨_, (pss_cons (ps_expr (pe_meth (pv 0) T_World.cl m_Npl G_Npl (hr.mono (by decide)) b_Npl .nil (passes_call (takes_of rfl rfl rfl rfl) (fun _ _ _ _ h => h)) (pa_cons (pv 1) pa_nil))) (pss_one (ps_ret (pe_callTy (call_lvals rfl) (by rfl) B.list (by decide +kernel) (pa_cons (pe_dvs (pe_meth (pv 0) T_World.cl m_Ct G_Ct (hr.mono (by decide)) b_Ct .nil pass0 (pa_cons (pv 1) pa_nil))) pa_nil))))), ?_⟩
    obtain ⟨dx, pl, ld, d, hp, hpl, hl⟩ := id hW
    walk_at "go"
    refine w_kMeth hp (wf_no _ _ (by decide +kernel) (by decide +kernel)) ?_
    walk_at "go"
    refine ⟨p, n, x, L, rfl, hW, x0, x1, fun hx => ?_, fun hx => qp hx⟩
    walk_at "go"
    refine w_dvs ?_
    walk_at "go"
    refine w_kMeth hp (wf_no _ _ (by decide +kernel) (by decide +kernel)) ?_
    walk_at "go"
    refine ⟨p, n, x, L, rfl, hW, hL, hn, hx.1, hx.2, fun d1 H1 fs nd1 s1 hd1 fin ok => ?_⟩
    refine ⟨d1, _, rfl, hd1, fun v nv => ?_⟩
    have sv : Same H1 (upd H1 v (vwO v d1)) := same_upd nv
    walk_at "go"
    refine ⟨v, d1, _, rfl, upd_same, sv.at hd1, fun r nr => ?_⟩
    refine q hx r _ fs ?_ (s1.trans (sv.trans (same_upd nr))) ?_ fin ok
    · exact s1.free (sv.free nr)
    · rw [upd_same]
      unfold kvW wyV
      rw [List.map_map]
      rfl
/-! ### World.seen -/
def kEnumD (R : It → Hp → Prop) : List V → Hp → Prop := fun vs H1 => ∃ d kvs, vs = [.ref d] ∧ H1 d = some (.dK kvs) ∧ ∀ o, R (Itek d o kvs) (upd H1 d (.frz o (.dK kvs)))
theorem w_enumD {ta : TA} {σ : L2.St} {H : Hp} {R : It → Hp → Prop} (q : ta σ H (kEnumD R)) : iEnumD ta σ H R := q
theorem uniq_of {l : List (Int × Int)} (nd : (l.map (·.1)).Nodup) : ∀ p ∈ l, ∀ q ∈ l, p.1 = q.1 → p = q := by
  induction l with
  | nil => intro p hp; cases hp
  | cons a l ih =>
    have nd' := List.nodup_cons.mp nd
    have no : ∀ q ∈ l, a.1 ≠ q.1 := fun q hq e => nd'.1 (List.mem_map.mpr ⟨q, hq, e.symm⟩)
    intro p hp q hq e
    rcases List.mem_cons.mp hp with h1 | h1
    · rcases List.mem_cons.mp hq with h2 | h2
      · rw [h1, h2]
      · exact absurd (by rw [← h1]; exact e) (no q h2)
    · rcases List.mem_cons.mp hq with h2 | h2
      · exact absurd (by rw [← h2]; exact e.symm) (no p h1)
      · exact ih nd'.2 p h1 q h2 e
theorem FinB.cl {L : Nat → List (Int × Int)} {x : Int} {fs : List Fd} (h : FinB L x fs) (hN : LNd L) {c : Nat} (hc : c ∈ sgs) : ∀ q ∈ L c, q.1 ∈ fs.map (·.1) → q.2 ∈ fs.map (·.1) := fun q hq hk => by
  obtain ⟨k, hk, e⟩ := List.mem_map.mp hk
  exact h.closed hk hc (e := q.2) (by show lk (L c) k.1 = some q.2; rw [e]; exact lk_of (uniq_of (hN c hc)) hq)
theorem leV_snoc (d : Nat → Addr) (l : List Nat) (c : Nat) (a : Addr) (h : c ∉ l) : leV (fun e => if e = c then a else d e) (l ++ [c]) = leV d l ++ [((Sum.inr (one c) : Key), V.ref a)] := by
  unfold leV
  rw [List.map_append]
  congr 1
  · refine List.map_congr_left fun e he => ?_
    show ((Sum.inr (one e) : Key), V.ref (if e = c then a else d e)) = _
    rw [if_neg (fun z => h (by rw [← z]; exact he))]
  · show [((Sum.inr (one c) : Key), V.ref (if c = c then a else d c))] = _
    rw [if_pos rfl]
theorem leV_none {d : Nat → Addr} {l : List Nat} {c : Nat} (h : c ∉ l) : valV (leV d l) (Sum.inr (one c)) = none := val_sgs_none h
def spSeX (C CN : Addr) : Sp := fun vs H Q E => ∃ (p : Addr) (n x : Int) (L : Nat → List (Int × Int)), vs = [.ref p, .int x] ∧ WAt C H p n L ∧ LRg n L ∧ LNd L ∧ (∀ c ∈ sgs, (L c).length ≤ 10000) ∧ n ≤ 1000 ∧ -1000000000000 ≤ x ∧ x ≤ 1000000000000 ∧ (¬ (0 ≤ x ∧ x < n) → XEp CN x H E) ∧
  (0 ≤ x ∧ x < n → ∀ (r : Addr) (H' : Hp) (fs : List Fd), H r = none → Same H H' → WAt C H' r (fs.length : Int) (renL (fs.map (·.1)) L) → FinB L x fs → FsOk n fs → Q (.ref r) H')
theorem sc_se1 : FnScope ["self", "place", "number", "here", "numbers", "sign"] ["self", "place"] (defScope s_World_seen) := ⟨rfl, rfl, rfl, by decide +kernel, rfl, by decide +kernel, by decide +kernel⟩
theorem has_seX {dv : Value} (F : MAtD K C "seen" "World.seen" s_World_seen ["self", "place"] dv) (B : Blt mg) (Be : mg "enumerate" = none) (T_World : WC K mg C) {t1 : Tok} (C_SIGNS : mg "SIGNS" = some (.str (Str.ofString "aAbBcCdDeEfFgGhH") t1)) (h_Npl : HasMX P w K mg base C 4 "need_place" ["self", "place"] (spNplX C CN)) (h_Ct : HasM P w K mg base C 1 "come_to" ["self", "place"] (spCt C))
    (h_Rn : Has P w K mg base 1 "renumbered" ["led", "numbers"] spRn) (h_Wf : Has P w K mg base 6 "world_of" ["many", "leads"] (spWf C)) : HasMXD P w K mg base C 7 "seen" ["self", "place"] dv (spSeX C CN) := by
  obtain ⟨f, fd, g, F, bb, bd⟩ := F
  refine ⟨f, fd, g, bb, bd, ?_⟩
  obtain ⟨f_Npl, fd_Npl, m_Npl, b_Npl, G_Npl⟩ := h_Npl
  obtain ⟨f_Ct, fd_Ct, m_Ct, b_Ct, G_Ct⟩ := h_Ct
  obtain ⟨f_Rn, fd_Rn, g_Rn, k_Rn, b_Rn, G_Rn⟩ := h_Rn
  obtain ⟨f_Wf, fd_Wf, g_Wf, k_Wf, b_Wf, G_Wf⟩ := h_Wf
  refine F.okX sc_se1 (fun vs H Q E h => ?_) (fun cdv A outer s H vs Q E hr h => ?_)
  · obtain ⟨p, n, x, L, rfl, _⟩ := h
    rfl
  · obtain ⟨p, n, x, L, rfl, hW, hL, hN, hsz, hn, x0, x1, qp, q⟩ := h
    refine ⟨_, (pss_cons (ps_expr (pe_meth (pv 0) T_World.cl m_Npl G_Npl (hr.mono (by decide)) b_Npl .nil (passes_call (takes_of rfl rfl rfl rfl) (fun _ _ _ _ h => h)) (pa_cons (pv 1) pa_nil))) (pss_cons (ps_set (i := 4) sc_se1.nd rfl (.inr rfl) (pe_dc (own := [("number", 2), ("here", 3)]) (g := gTup K 2 (gCons (gName 2) (gCons (gName 3) gNil))) (tt := tYes) (by rfl) sc_se1.nd (pi_enumD (by rfl) Be (pa_cons (pe_meth (pv 0) T_World.cl m_Ct G_Ct (hr.mono (by decide)) b_Ct .nil pass0 (pa_cons (pv 1) pa_nil)) pa_nil)) (blkOk_by (own := [("number", 2), ("here", 3)]) (N := ["self", "place", "number", "here", "numbers", "sign"]) (sc := defScope s_World_seen) (by decide +kernel)) (fun _ _ _ _ _ => pg_tup rfl (pgs_cons (pg_name (i := 2) sc_se1.nd rfl (.inl rfl)) (pgs_cons (pg_name (i := 3) sc_se1.nd rfl (.inl rfl)) pgs_nil))) (fun _ _ _ _ _ => pts_nil) (fun _ _ _ _ _ => (pv 3)) (fun _ _ _ _ _ => (pv 2)))) (pss_one (ps_ret (pe_call G_Wf (hr.mono (by decide)) (by rfl) g_Wf k_Wf b_Wf .nil pass0 (pa_cons (pe_callB call_lenDc (by rfl) B.len PySem.boot_len (pa_cons (pv 4) pa_nil)) (pa_cons (pe_dc (own := [("sign", 5)]) (g := gName 5) (tt := tYes) (tv := tCall spRn [] E0 (tCons (tDGet (tFld K (tVar 0) "leads") (tVar 5)) (tCons (tVar 4) tNil))) (by rfl) sc_se1.nd (pi_str (pe_gS (by rfl) C_SIGNS)) (blkOk_by (own := [("sign", 5)]) (N := ["self", "place", "number", "here", "numbers", "sign"]) (sc := defScope s_World_seen) (by decide +kernel)) (fun _ _ _ _ _ => pg_name (i := 5) sc_se1.nd rfl (.inl rfl)) (fun _ _ _ _ _ => pts_nil) (fun _ _ _ _ _ => (pv 5)) (fun _ _ _ _ _ => by exact (pe_call G_Rn (hr.mono (by decide)) (by rfl) g_Rn k_Rn b_Rn .nil pass0 (pa_cons (pe_dget (hu_of hr) (pe_fld (pv 0) rfl) (pv 5) (fun _ _ => rfl)) (pa_cons (pv 4) pa_nil))))) pa_nil))))))), ?_⟩
    obtain ⟨dx, pl, ld, d, hp, hpl, hl⟩ := id hW
    walk_at "go"
    refine w_kMeth hp (wf_no _ _ (by decide +kernel) (by decide +kernel)) ?_
    walk_at "go"
    refine ⟨p, n, x, L, rfl, hW, x0, x1, fun hx => ?_, fun hx => qp hx⟩
    walk_at "go"
    refine w_enumD ?_
    walk_at "go"
    refine w_kMeth hp (wf_no _ _ (by decide +kernel) (by decide +kernel)) ?_
    walk_at "go"
    refine ⟨p, n, x, L, rfl, hW, hL, hn, hx.1, hx.2, fun d1 H1 fs nd1 s1 hd1 fin ok => ?_⟩
    walk_at "go"
    refine ⟨d1, _, rfl, hd1, fun o => ?_⟩
    have len := ok.len
    have hks : (fs.map (·.1)).length = fs.length := List.length_map ..
    generalize hH2 : upd H1 d1 (.frz o (.dK (kvW fs))) = H2
    have s2 : Same H H2 := fun c u e => by
      rw [← hH2, upd_ne (ne_of_none e nd1)]
      exact s1 c u e
    have hd2 : H2 d1 = some (.frz o (.dK (kvW fs))) := by rw [← hH2, upd_same]
    refine w_dcE (fun r i H3 => Same H2 H3 ∧ H2 r = none ∧ H3 r = some (.dK (kvI (numL ((fs.map (·.1)).take i))))) (fun r H3 hr nr => ⟨nr.same, nr.nn, hr⟩) (fun r i H3 h => h.1.at hd2) ?_ ?_
    · rintro r i T k v H3 H4 hk ⟨s3, nr, hr3⟩ hT nT
      unfold kvW at hk
      rw [List.getElem?_map, Option.map_eq_some_iff] at hk
      obtain ⟨fd, hfd, e⟩ := hk
      cases e
      have hT : H4 T = some (.tup [V.int (i : Nat), V.int fd.1]) := hT
      have hki : (fs.map (·.1))[i]? = some fd.1 := by rw [List.getElem?_map, hfd]; rfl
      have hil : i < fs.length := (List.getElem?_eq_some_iff.mp hfd).1
      have nd := ok.nd
      have hni : fd.1 ∉ (fs.map (·.1)).take i := fun z => by
        have nd2 : ((fs.map (·.1)).take (i + 1)).Nodup := nd.sublist (List.take_sublist _ _)
        rw [take_snoc hki, List.nodup_append] at nd2
        exact nd2.2.2 _ z _ (List.mem_singleton.mpr rfl) rfl
      walk_at "go"
      refine w_kItDI (nT.at hr3) (by rw [kvI_len, numL_len, List.length_take]; exact lineLt_of (by omega)) (fun H5 hr5 o5 => ⟨(s3.nw nT).off o5 nr, nr, ?_⟩)
      have el : ((fs.map (·.1)).take i).length = i := by rw [List.length_take]; omega
      rw [hr5, kvI_put ?_, take_snoc hki, numL_snoc, el]
      rw [lk_none]
      intro q hq e
      refine hni ?_
      rw [← e]
      have : q.1 ∈ (numL ((fs.map (·.1)).take i)).map (·.1) := List.mem_map.mpr ⟨q, hq, rfl⟩
      rw [numL_keys] at this
      exact this
    · rintro r H3 ⟨s3, nr, hr3⟩
      rw [kvW_len, ← hks, List.take_length] at hr3
      have sH3 : Same H H3 := s2.trans s3
      have nrH : H r = none := s2.free nr
      walk_at "go"
      refine w_dcS (fun r2 i H4 => ∃ dd : Nat → Addr, Same H3 H4 ∧ H3 r2 = none ∧ H4 r2 = some (.dK (leV dd (sgs.take i))) ∧ ∀ c ∈ sgs.take i, H4 (dd c) = some (.dK (kvI (renL (fs.map (·.1)) L c))) ∧ dd c ≠ r2) (fun r2 H4 hr nr => ⟨fun _ => 0, nr.same, nr.nn, hr, fun c hc => by rw [List.take_zero] at hc; cases hc⟩) ?_ ?_
      · rintro r2 i c H4 hc ⟨dd, s4, nr2, hr4, hdd⟩
        rw [sgs_tl] at hc
        have hs : c ∈ sgs := List.mem_of_getElem? hc
        have hil : i < 16 := (List.getElem?_eq_some_iff.mp hc).1
        have hni : c ∉ sgs.take i := fun z => by
          have nd2 : (sgs.take (i + 1)).Nodup := sgs_nd.sublist (List.take_sublist _ _)
          rw [take_snoc hc, List.nodup_append] at nd2
          exact nd2.2.2 _ z _ (List.mem_singleton.mpr rfl) rfl
        have sH4 : Same H H4 := sH3.trans s4
        walk_at "go"
        refine w_kFld (sH4.at hp) T_World.cl T_World.nL (wf_leads _ _) ?_
        walk_at "go"
        refine w_kDGetS (sH4.at hl.hd) (val_sgs hs) ?_
        walk_at "go"
        refine ⟨d c, r, L c, fs.map (·.1), rfl, ne_of_none (hl.hc c hs) nrH, sH4.at (hl.hc c hs), s4.at hr3, hN c hs, fin.cl hN hs, by have := hsz c hs; omega, fun v H5 nv s5 hv5 => ?_⟩
        walk_at "go"
        have hr5 := s5.at hr4
        have vr2 : v ≠ r2 := fun z => by rw [z, hr4] at nv; cases nv
        refine w_kItDS hr5 (by unfold leV; rw [List.length_map, List.length_take]; exact lineLt_of (by omega)) (fun H6 hr6 o6 => ?_)
        rw [putK_new _ (leV_none hni), ← leV_snoc dd _ c v hni, ← take_snoc hc] at hr6
        refine ⟨_, (s4.trans s5).off o6 nr2, nr2, hr6, fun e he => ?_⟩
        rw [take_snoc hc] at he
        by_cases hec : e = c
        · rw [if_pos hec, hec]
          exact ⟨o6.at vr2 hv5, vr2⟩
        · rw [if_neg hec]
          have he' : e ∈ sgs.take i := by
            rcases List.mem_append.mp he with z | z
            · exact z
            · exact absurd (List.mem_singleton.mp z) hec
          obtain ⟨h1, h2⟩ := hdd e he'
          exact ⟨o6.at h2 (s5.at h1), h2⟩
      · rintro r2 H4 ⟨dd, s4, nr2, hr4, hdd⟩
        rw [sgs_tl, List.take_length] at hr4 hdd
        walk_at "go"
        rw [kvI_len, numL_len, hks]
        refine ⟨(fs.length : Int), r2, dd, renL (fs.map (·.1)) L, rfl, by omega, by omega, ⟨hr4, fun c hc => (hdd c hc).1⟩, fun p' H5 np' s5 hW5 => ?_⟩
        exact q hx p' H5 fs ((sH3.trans s4).free np') ((sH3.trans s4).trans s5) hW5 fin ok
end
end Sf
namespace Sf
open PySem PySem.Spec PyProof.Rows L2 TL
/-! ### numbers in lists -/
theorem eqV_int (a b : Int) : eqV (.int a) (.int b) = (a == b) := rfl
theorem nd_atI {l : List Int} (h : l.Nodup) {i j : Nat} {x : Int} (hi : l[i]? = some x) (hj : l[j]? = some x) : i = j := by
  obtain ⟨h1, e1⟩ := List.getElem?_eq_some_iff.mp hi
  obtain ⟨h2, e2⟩ := List.getElem?_eq_some_iff.mp hj
  rcases Nat.lt_trichotomy i j with z | z | z
  · exact absurd (e1.trans e2.symm) (List.pairwise_iff_getElem.mp h i j h1 h2 z)
  · exact z
  · exact absurd (e2.trans e1.symm) (List.pairwise_iff_getElem.mp h j i h2 h1 z)
theorem w_indexI {K : PySem.W.Frag} {H : Hp} {Q : VK} {a : Addr} {l : List Int} {x : Int} {j : Nat} (h : H a = some (.lst (l.map V.int))) (nd : l.Nodup) (hj : l[j]? = some x) (q : Q (.int (j : Int)) H) : rIndex K (.ref a) [.int x] H Q := by
  refine ⟨a, _, .int x, j, .int x, rfl, rfl, SqL.of h, rfl, ?_, by rw [List.getElem?_map, hj]; rfl, by rw [eqV_int]; exact beq_self_eq_true _, fun m z' hm hz => ?_, q⟩
  · rw [List.all_map]
    exact List.all_eq_true.mpr fun _ _ => rfl
  · rw [List.getElem?_map, Option.map_eq_some_iff] at hz
    obtain ⟨y, hy, rfl⟩ := hz
    rw [eqV_int]
    exact beq_eq_false_iff_ne.mpr fun e => by
      subst e
      exact absurd (nd_atI nd hy hj) (Nat.ne_of_lt hm)
theorem inV_ints {x : Int} : ∀ l : List Int, inV (.int x) (l.map V.int) = decide (x ∈ l)
  | [] => rfl
  | d :: l => by
    have ih := inV_ints (x := x) l
    unfold inV at ih ⊢
    rw [List.map_cons, List.any_cons, ih, eqV_int]
    by_cases h : d = x
    · subst h
      simp
    · have h' : ¬ x = d := fun z => h z.symm
      rw [beq_eq_false_iff_ne.mpr h]
      simp [h']
theorem ints_flat (l : List Int) : (l.map V.int).all flatV = true := by
  rw [List.all_map]
  exact List.all_eq_true.mpr fun _ _ => rfl
theorem w_inI {K : PySem.W.Frag} {H : Hp} {Q : VK} {x : Int} {p : Addr} {l : List Int} (h : H p = some (.lst (l.map V.int))) (q : Q (.bl (decide (x ∈ l))) H) : rIn K false (.int x) (.ref p) H Q := by
  refine ⟨p, _, rfl, .inl (SqL.of h), rfl, ints_flat l, ?_⟩
  show Q (.bl (inV _ _)) H
  rw [inV_ints]
  exact q
theorem w_notInI {K : PySem.W.Frag} {H : Hp} {Q : VK} {x : Int} {p : Addr} {l : List Int} (h : H p = some (.lst (l.map V.int))) (q : Q (.bl (!decide (x ∈ l))) H) : rIn K true (.int x) (.ref p) H Q := by
  refine ⟨p, _, rfl, .inl (SqL.of h), rfl, ints_flat l, ?_⟩
  show Q (.bl (!inV _ _)) H
  rw [inV_ints]
  exact q
theorem numF_at : ∀ (ks : List Int) (o : Int) (j : Nat) {x : Int}, ks[j]? = some x → (numF o ks)[j]? = some (x, o + j)
  | k :: ks, o, 0, x, h => by
    cases h
    show some (k, o) = some (k, o + 0)
    rw [Int.add_zero]
  | k :: ks, o, j + 1, x, h => by
    have := numF_at ks (o + 1) j (x := x) (by simpa using h)
    show (numF (o + 1) ks)[j]? = _
    rw [this, show o + 1 + (j : Int) = o + ((j + 1 : Nat) : Int) by omega]
theorem rk_at {ks : List Int} (nd : ks.Nodup) {j : Nat} {x : Int} (h : ks[j]? = some x) : rk ks x = (j : Int) := by
  have h1 := numF_at ks 0 j h
  rw [Int.zero_add] at h1
  have h2 : lk (numL ks) x = some (j : Int) := lk_of (uniq_of (by rw [numL_keys]; exact nd)) (List.mem_of_getElem? h1)
  unfold rk
  rw [h2]
  rfl
theorem w_indexR {K : PySem.W.Frag} {H : Hp} {Q : VK} {a : Addr} {l : List Int} {x : Int} (h : H a = some (.lst (l.map V.int))) (nd : l.Nodup) (hx : x ∈ l) (q : Q (.int (rk l x)) H) : rIndex K (.ref a) [.int x] H Q := by
  obtain ⟨j, hj⟩ := List.mem_iff_getElem?.mp hx
  refine w_indexI h nd hj ?_
  rw [← rk_at nd hj]
  exact q
/-! ### worlds by their moves -/
theorem LM_rg {n : Int} {ms : List Mv} (ok : WOk n ms) : LRg n (LM ms) := fun c hc q hq => by
  obtain ⟨m, hm, e⟩ := LM_mem.mp hq
  have := ok.rg m hm
  rcases e with ⟨_, e1, e2⟩ | ⟨_, _, e1, e2⟩ <;> omega
theorem LM_nd {n : Int} {ms : List Mv} (ok : WOk n ms) : LNd (LM ms) := fun c _ => by
  have key : ∀ l : List Mv, (l.Pairwise fun m k => m.1 = k.1 → m.2.1 ≠ k.2.1 ∧ m.2.2 ≠ k.2.2) → (∀ m ∈ l, 97 ≤ m.1 ∧ m.1 ≤ 104) → ((l.filterMap (mvOn c)).map (·.1)).Nodup := by
    intro l
    induction l with
    | nil => intro _ _; exact .nil
    | cons m l ih =>
      intro hp hr
      have hp' := List.pairwise_cons.mp hp
      have ih := ih hp'.2 fun k hk => hr k (List.mem_cons_of_mem _ hk)
      rw [List.filterMap_cons]
      cases e : mvOn c m with
      | none => exact ih
      | some q =>
        refine List.nodup_cons.mpr ⟨fun z => ?_, ih⟩
        obtain ⟨q', hq', e'⟩ := List.mem_map.mp z
        obtain ⟨m', hm', e2⟩ := List.mem_filterMap.mp hq'
        have r1 := hr m List.mem_cons_self
        have r2 := hr m' (List.mem_cons_of_mem _ hm')
        have hmm := hp'.1 m' hm'
        unfold mvOn at e e2
        split at e
        · split at e2
          · cases e
            cases e2
            exact (hmm (by omega)).1 e'.symm
          · split at e2
            · omega
            · cases e2
        · split at e
          · split at e2
            · omega
            · split at e2
              · cases e
                cases e2
                exact (hmm (by omega)).2 e'.symm
              · cases e2
          · cases e
  exact key ms ok.pw fun m hm => by
    have := ok.rg m hm
    omega
def rowM (ks : List Int) (ms : List Mv) : List Mv := (ms.filter fun m => decide (m.2.1 ∈ ks)).map fun m => (m.1, rk ks m.2.1, rk ks m.2.2)
theorem mvC_ren (ks : List Int) (L : Nat → List (Int × Int)) (c : Nat) : mvC (renL ks L) c = rowM ks (mvC L c) := by
  unfold mvC renL renM rowM
  rw [List.map_map, List.filter_map, List.map_map]
  rfl
theorem rowM_app (ks : List Int) (a b : List Mv) : rowM ks (a ++ b) = rowM ks a ++ rowM ks b := by
  unfold rowM
  rw [List.filter_append, List.map_append]
theorem mvsOf_ren (ks : List Int) (L : Nat → List (Int × Int)) : mvsOf (renL ks L) = rowM ks (mvsOf L) := by
  unfold mvsOf
  have : ∀ l : List Nat, l.flatMap (mvC (renL ks L)) = rowM ks (l.flatMap (mvC L)) := by
    intro l
    induction l with
    | nil => rfl
    | cons c l ih => rw [List.flatMap_cons, List.flatMap_cons, rowM_app, ih, mvC_ren]
  exact this smls
theorem rowM_perm (ks : List Int) {a b : List Mv} (h : a.Perm b) : (rowM ks a).Perm (rowM ks b) := by
  unfold rowM
  exact (h.filter _).map _
theorem ren_perm {n : Int} {ms : List Mv} (ok : WOk n ms) (ks : List Int) : (mvsOf (renL ks (LM ms))).Perm (sortM (rowM ks ms)) := by
  rw [mvsOf_ren]
  exact (rowM_perm ks (mvsOf_LM ok)).trans sortM_is.symm
theorem rowM_len (ks : List Int) (ms : List Mv) : (rowM ks ms).length ≤ ms.length := by
  unfold rowM
  rw [List.length_map]
  exact List.length_filter_le _ _
theorem rowM_in {ks : List Int} {ms : List Mv} {m : Mv} (h : m.2.1 ∈ ks) : rowM ks (ms ++ [m]) = rowM ks ms ++ [(m.1, rk ks m.2.1, rk ks m.2.2)] := by
  rw [rowM_app]
  unfold rowM
  rw [List.filter_cons, if_pos (decide_eq_true h)]
  rfl
theorem rowM_out {ks : List Int} {ms : List Mv} {m : Mv} (h : m.2.1 ∉ ks) : rowM ks (ms ++ [m]) = rowM ks ms := by
  rw [rowM_app]
  unfold rowM
  rw [List.filter_cons, if_neg (by simpa using h)]
  simp
section
variable {P : Program} {w : World} {K : PySem.W.Frag} {mg : Str → Option Value} {base : Heap} {C CN : Addr}
/-! ### _law_seen -/
theorem plV_ints (fs : List Fd) : plV fs = (fs.map (·.1)).map V.int := by
  unfold plV
  rw [List.map_map]
  rfl
def spLse : Sp := fun vs H Q _ => ∃ (n x : Int) (a : Addr) (us : List V) (ms : List Mv), vs = [.int n, .ref a, .int x] ∧ H a = some (.lst us) ∧ MvsAt H us ms ∧ WOk n ms ∧ ms.length ≤ 10000 ∧ n ≤ 1000 ∧ 0 ≤ x ∧ x < n ∧
  ∀ (t f wd rw : Addr) (H' : Hp) (fs : List Fd) (us' : List V), Same H H' → H t = none → H f = none → H wd = none → H rw = none → H' t = some (.tup [.ref f, .ref wd, .ref rw]) → H' f = some (.lst (plV fs)) → H' wd = some (.lst (wyV fs)) → H' rw = some (.lst us') →
    MvsAt H' us' (sortM (rowM (fs.map (·.1)) ms)) → FinB (LM ms) x fs → FsOk n fs → Q (.ref t) H'
theorem sc_lse : FnScope ["_law_many", "_law_moves", "_law_place", "_law_found", "_law_words", "_law_at", "_law_sign_here", "_law_end", "_law_letter", "_law_start", "_law_rows"] ["_law_many", "_law_moves", "_law_place"] (defScope s__law_seen) := ⟨rfl, rfl, rfl, by decide +kernel, rfl, by decide +kernel, by decide +kernel⟩
theorem has_lse (F : FnAt K mg "_law_seen" s__law_seen ["_law_many", "_law_moves", "_law_place"]) (B : Blt mg) (h_Lld : HasLld P w K mg base) : Has P w K mg base 2 "_law_seen" ["_law_many", "_law_moves", "_law_place"] spLse := F.has fun F => by
  obtain ⟨f_Lld, fd_Lld, g_Lld, k_Lld, b_Lld, G_Lld⟩ := h_Lld
  refine F.ok sc_lse (fun vs H Q E h => ?_) (fun cdv A outer s H vs Q E hr h => ?_)
  · obtain ⟨n, x, a, us, ms, rfl, _⟩ := h
    rfl
  · obtain ⟨n, x, a, us, ms, rfl, ha, hm, ok, hml, hn, x0, x1, q⟩ := h
    refine ⟨_, (pss_cons (ps_set (i := 3) sc_lse.nd rfl (.inr rfl) (pe_lst (pa_cons (pv 2) pa_nil))) (pss_cons (ps_set (i := 4) sc_lse.nd rfl (.inl rfl) (pe_lst (pa_cons pe_str pa_nil))) (pss_cons (ps_set (i := 5) sc_lse.nd rfl (.inl rfl) pe_int) (pss_cons (ps_while PassesOwn.never (pt_cmpR op_lt (pv 5) (pe_callB call_lenQ (by rfl) B.len PySem.boot_len (pa_cons (pv 3) pa_nil)) (nomark _)) (pss_cons (ps_for PassesOwn.never rfl (pi_str pe_str) (pg_name (i := 6) sc_lse.nd rfl (.inl rfl)) (pss_cons (ps_set (i := 7) sc_lse.nd rfl (.inl rfl) (pe_call G_Lld (hr.mono (by decide)) (by rfl) g_Lld k_Lld b_Lld .nil pass0 (pa_cons (pv 1) (pa_cons (pv 6) (pa_cons (pe_ix ix_list (pv 3) (pv 5) (fun _ _ => rfl)) pa_nil))))) (pss_one (ps_if (PW.pt (pw_and (pt_cmpR op_notNn (pv 7) pe_non (nomark _)) (pw_and1 (pt_cmpR op_notIn_seq (pv 7) (pv 3) rfl)))) (pss_cons (ps_expr (pe_bm PySem.F.plainAttrs_list PySem.F.slot_list_append PySem.F.type_list_append mt_append (pv 3) (pa_cons (pv 7) pa_nil))) (pss_one (ps_expr (pe_bm PySem.F.plainAttrs_list PySem.F.slot_list_append PySem.F.type_list_append mt_append (pv 4) (pa_cons (pe_op op_addS (pe_ix ix_list (pv 4) (pv 5) (fun _ _ => rfl)) (pv 6)) pa_nil))))) pss_nil)))) (pss_one (ps_set (i := 5) sc_lse.nd rfl (.inl rfl) (pe_op op_add (pv 5) pe_int))))) (pss_cons (ps_setLc (i := 10) (own := [("_law_letter", 8), ("_law_start", 9), ("_law_end", 7)]) (g := gTup K 3 (gCons (gName 8) (gCons (gName 9) (gCons (gName 7) gNil)))) (tt := tTest (tOp (rIn K false) (tVar 9) (tVar 3))) (te := tTup (tCons (tVar 8) (tCons (tBM K "list" (rIndex K) (tVar 3) (tCons (tVar 9) tNil)) (tCons (tBM K "list" (rIndex K) (tVar 3) (tCons (tVar 7) tNil)) tNil)))) (by rfl) sc_lse.nd rfl rfl (sw_true rfl rfl rfl (by decide +kernel)) (pi_list (pv 1)) (blkOk_by (own := [("_law_letter", 8), ("_law_start", 9), ("_law_end", 7)]) (N := ["_law_many", "_law_moves", "_law_place", "_law_found", "_law_words", "_law_at", "_law_sign_here", "_law_end", "_law_letter", "_law_start", "_law_rows"]) (sc := defScope s__law_seen) (by decide +kernel)) (fun _ _ _ _ _ => pg_tup rfl (pgs_cons (pg_name (i := 8) sc_lse.nd rfl (.inl rfl)) (pgs_cons (pg_name (i := 9) sc_lse.nd rfl (.inl rfl)) (pgs_cons (pg_name (i := 7) sc_lse.nd rfl (.inl rfl)) pgs_nil)))) (fun _ _ _ _ _ => by exact pts_one (pt_cmpR op_in_seq (pv 9) (pv 3) rfl)) (fun _ _ _ _ _ => by exact (pe_tup (pa_cons (pv 8) (pa_cons (pe_bm PySem.F.plainAttrs_list PySem.F.slot_list_index PySem.F.type_list_index mt_index (pv 3) (pa_cons (pv 9) pa_nil)) (pa_cons (pe_bm PySem.F.plainAttrs_list PySem.F.slot_list_index PySem.F.type_list_index mt_index (pv 3) (pa_cons (pv 7) pa_nil)) pa_nil)))))) (pss_one (ps_ret (pe_tup (pa_cons (pv 3) (pa_cons (pv 4) (pa_cons (pe_callB (call_sortM hr.units) (by rfl) B.sorted (by decide +kernel) (pa_cons (pv 10) pa_nil)) pa_nil))))))))))), ?_⟩
    walk_at "go"
    refine w_newL (by walk_at "sz") (fun f H1 hf1 nf1 => ?_)
    walk_at "go"
    refine w_newL (by walk_at "sz") (fun wd H2 hw2 nw2 => ?_)
    have okB := fun i => bfs_ok (L := LM ms) (p := x) (LM_rg ok) x0 x1 i
    have fw : f ≠ wd := nw2.ne hf1
    have nf : H f = none := nf1.nn
    have nw : H wd = none := nf1.same.free nw2.nn
    walk_at "go"
    refine w_while (m := n.toNat + 1) (fun m σ H3 => ∃ (y6 y7 y8 y9 y10 : Option V) (k : Nat), σ = [some (.int n), some (.ref a), some (.int x), some (.ref f), some (.ref wd), some (.int (k : Nat)), y6, y7, y8, y9, y10] ∧ Same H H3 ∧ H3 f = some (.lst (plV (bfs (LM ms) x k))) ∧ H3 wd = some (.lst (wyV (bfs (LM ms) x k))) ∧ m + k = n.toNat + 1 ∧ k ≤ (bfs (LM ms) x k).length) ?_ ?_
    · exact ⟨none, none, none, none, none, 0, rfl, nf1.same.nw nw2, nw2.at hf1, hw2, rfl, Nat.zero_le _⟩
    · rintro m σ H3 ⟨y6, y7, y8, y9, y10, k, rfl, s3, hf3, hw3, hmk, hkl⟩
      have ok3 := okB k
      have len3 := ok3.len
      have pl3 : (plV (bfs (LM ms) x k)).length = (bfs (LM ms) x k).length := List.length_map ..
      walk_at "go"
      rw [pl3]
      by_cases hlt : k < (bfs (LM ms) x k).length
      · rw [decide_eq_true (by omega : (k : Int) < ((bfs (LM ms) x k).length : Int))]
        refine w_whT ?_
        obtain ⟨kk, hk⟩ : ∃ kk, (bfs (LM ms) x k)[k]? = some kk := ⟨_, List.getElem?_eq_getElem hlt⟩
        have kin : kk ∈ bfs (LM ms) x k := List.mem_of_getElem? hk
        walk_at "go"
        refine w_str (fun j σ H4 => ∃ (y6 y7 : Option V), σ = [some (.int n), some (.ref a), some (.int x), some (.ref f), some (.ref wd), some (.int (k : Nat)), y6, y7, y8, y9, y10] ∧ Same H H4 ∧ H4 f = some (.lst (plV (exS (LM ms) kk (bfs (LM ms) x k) (sgs.take j)))) ∧ H4 wd = some (.lst (wyV (exS (LM ms) kk (bfs (LM ms) x k) (sgs.take j))))) ⟨y6, y7, rfl, s3, hf3, hw3⟩ ?_ ?_
        · rintro j c σ H4 hc ⟨y6, y7, rfl, s4, hf4, hw4⟩
          rw [sgs_tl] at hc
          have hs : c ∈ sgs := List.mem_of_getElem? hc
          have ok4 : FsOk n (exS (LM ms) kk (bfs (LM ms) x k) (sgs.take j)) := exS_ok (LM_rg ok) _ _ (fun c hc => List.mem_of_mem_take hc) kin ok3
          have pre4 : bfs (LM ms) x k <+: exS (LM ms) kk (bfs (LM ms) x k) (sgs.take j) := exS_pre kk _ _
          have hk4 := pre_get pre4 hk
          have kin4 := pre4.subset kin
          have len4 := ok4.len
          rw [take_snoc hc, exS_snoc]
          generalize exS (LM ms) kk (bfs (LM ms) x k) (sgs.take j) = fs at hf4 hw4 ok4 hk4 kin4 len4 ⊢
          have a1 : atI (plV fs) (k : Int) = some (.int kk.1) := at_of (j := k) (by omega) (by unfold plV; rw [List.getElem?_map, hk4]; rfl)
          have a2 : atI (wyV fs) (k : Int) = some (.str kk.2) := at_of (j := k) (by omega) (by unfold wyV; rw [List.getElem?_map, hk4]; rfl)
          walk_at "go"
          refine w_ixL hf4 a1 ?_
          walk_at "go"
          refine ⟨a, us, ms, one c, kk.1, rfl, s4.at ha, hm.tps (.of s4), fun m hm' => by have := ok.rg m hm'; omega, by omega, fun d hd => by rw [tl_one] at hd; rw [List.mem_singleton.mp hd]; exact sgs_iff.mp hs, fun H5 s5 => ?_⟩
          have el : ledM (stp (LM ms)) (tl (one c)) kk.1 = stp (LM ms) c kk.1 := by
            rw [tl_one]
            show (stp (LM ms) c kk.1).bind (fun y => some y) = _
            cases stp (LM ms) c kk.1 <;> rfl
          rw [el]
          have s45 := s4.trans s5
          have hf5 := s5.at hf4
          have hw5 := s5.at hw4
          cases e2 : stp (LM ms) c kk.1 with
          | none =>
            have e3 : ex1 (LM ms) kk fs c = fs := by
              unfold ex1
              rw [e2]
            rw [e3]
            walk_at "go"
            exact ⟨_, _, rfl, s45, s5.at hf4, s5.at hw4⟩
          | some e =>
            rw [show oV (some e) = V.int e from rfl]
            walk_at "go"
            refine w_notInI (by rw [← plV_ints]; exact s5.at hf4) ?_
            by_cases hin : e ∈ fs.map (·.1)
            · have e3 : ex1 (LM ms) kk fs c = fs := by
                unfold ex1
                rw [e2]
                exact if_pos hin
              rw [e3, decide_eq_true hin, Bool.not_true]
              walk_at "go"
              exact ⟨_, _, rfl, s45, s5.at hf4, s5.at hw4⟩
            · have e3 : ex1 (LM ms) kk fs c = fs ++ [(e, kk.2 ++ one c)] := by
                unfold ex1
                rw [e2]
                exact if_neg hin
              rw [e3, decide_eq_false hin, Bool.not_false]
              have wl := ok4.wl kk kin4
              walk_at "go"
              refine w_append hf5 (by unfold plV; rw [List.length_map]; exact lineLt_of (by omega)) (fun H6 hf6 o6 => ?_)
              have hw6 := o6.at fw.symm hw5
              walk_at "go"
              refine w_ixL hw6 a2 ?_
              walk_at "go"
              refine w_addS (line_of (by rw [len_one]; omega)) ?_
              walk_at "go"
              refine w_append hw6 (by unfold wyV; rw [List.length_map]; exact lineLt_of (by omega)) (fun H7 hw7 o7 => ?_)
              walk_at "go"
              refine ⟨_, _, rfl, (s45.off o6 nf).off o7 nw, ?_, ?_⟩
              · rw [o7.at fw hf6]
                unfold plV
                rw [List.map_append]
                rfl
              · rw [hw7]
                unfold wyV
                rw [List.map_append]
                rfl
        · rintro σ H4 ⟨y6, y7, rfl, s4, hf4, hw4⟩
          rw [sgs_tl, List.take_length, ← bfs_succ hk] at hf4 hw4
          walk_at "go"
          refine ⟨m - 1, by omega, _, _, _, _, _, k + 1, by rw [show ((k + 1 : Nat) : Int) = (k : Int) + 1 by omega]; rfl, s4, hf4, hw4, by omega, ?_⟩
          have := (bfs_pre (L := LM ms) (p := x) k).length_le
          omega
      · rw [decide_eq_false (by omega : ¬ (k : Int) < ((bfs (LM ms) x k).length : Int))]
        refine w_whF ?_
        have fin : FinB (LM ms) x (bfs (LM ms) x k) := ⟨k, rfl, by omega⟩
        generalize bfs (LM ms) x k = fs at hf3 hw3 ok3 len3 fin
        have nd := ok3.nd
        have hfi : H3 f = some (.lst ((fs.map (·.1)).map V.int)) := by rw [← plV_ints]; exact hf3
        walk_at "go"
        refine w_lcL (xs := us) (fun r i H4 => ∃ us', Same H3 H4 ∧ H3 r = none ∧ H4 r = some (.lst us') ∧ MvsAt H4 us' (rowM (fs.map (·.1)) (ms.take i)) ∧ us'.length ≤ i) (fun r H4 hr nr => ⟨[], nr.same, nr.nn, hr, .nil, Nat.zero_le _⟩) (fun r i H4 _ ⟨_, h, _⟩ => h.at (s3.at ha)) ?_ ?_
        · rintro r i v H4 hv ⟨us', s4, nr, hr4, hm4, hl4⟩
          obtain ⟨mv, hmi, t, rfl, ht⟩ := paired_get ((hm.tps (.of s3)).tps (.of s4)) hv
          have hmm : mv ∈ ms := List.mem_of_getElem? hmi
          have hil : i < ms.length := (List.getElem?_eq_some_iff.mp hmi).1
          have hf4 := s4.at hfi
          walk_at "go"
          refine w_inI hf4 ?_
          walk_at "go"
          rw [take_snoc hmi]
          refine w_tst2 (fun hx => ?_) (fun hx => ?_)
          · rw [rowM_in hx]
            have hr0 := ok.rg mv hmm
            have hy : mv.2.2 ∈ fs.map (·.1) := fin.cl (LM_nd ok) (c := mv.1) (sgs_iff.mpr (sgn_iff.mpr (by omega))) mv.2 (LM_mem.mpr ⟨mv, hmm, .inl ⟨rfl, rfl, rfl⟩⟩) hx
            walk_at "go"
            refine w_indexR hf4 nd hx ?_
            walk_at "go"
            refine w_indexR hf4 nd hy ?_
            walk_at "go"
            refine w_newT (by walk_at "sz") (fun t5 H5 ht5 nt5 => ?_)
            refine w_kIt (nt5.at hr4) (lineLt_of (by omega)) (fun H6 h6 o6 => ?_)
            have tr : t5 ≠ r := (nt5.ne hr4).symm
            refine ⟨_, (s4.nw nt5).off o6 nr, nr, h6, paired_snoc ⟨t5, rfl, o6.at tr ht5⟩ ((hm4.tps (.of nt5.same)).tps (Tps.refl.off (nt5.at hr4) o6)), by rw [List.length_append]; show us'.length + 1 ≤ _; omega⟩
          · rw [rowM_out hx]
            exact ⟨us', s4, nr, hr4, hm4, by omega⟩
        · rintro r H4 ⟨us', s4, nr, hr4, hm4, hl4⟩
          rw [show us.length = ms.length from Paired.length hm, List.take_length] at hm4
          walk_at "go"
          refine w_sortM hr4 hm4 (fun r2 H5 us2 h5 hm5 n5 => ?_)
          walk_at "go"
          refine w_newT (by walk_at "sz") (fun t H6 ht nt => ?_)
          have s5 : Same H3 H5 := s4.nw n5
          have s6 : Same H3 H6 := s5.nw nt
          exact q t f wd r2 H6 fs us2 (s3.trans s6) ((s3.trans s5).free nt.nn) nf nw ((s3.trans s4).free n5.nn) ht (s6.at hf3) (s6.at hw3) (nt.at h5) ((hm5.tps (.of n5.same)).tps (.of nt.same)) fin ok3
end
end Sf
namespace Sf
open PySem PySem.Spec PyProof.Rows L2 TL
/-! ### lists of texts, joined -/
theorem joinL_nil : ∀ ps : List (List Nat), joinL [] ps = ps.flatten
  | [] => rfl
  | [p] => by simp [joinL]
  | p :: q :: r => by
    show p ++ ([] ++ joinL [] (q :: r)) = _
    rw [joinL_nil (q :: r), List.nil_append]
    rfl
theorem tl_empty : tl (Str.ofString "") = [] := by decide +kernel
theorem join_tl (ys : List Str) : Txt.join (Str.ofString "") ys = mkS (ys.map tl).flatten := by
  refine eq_mkS ?_
  rw [join_eq, tl_join, tl_empty, joinL_nil]
theorem join_ones (l : List Nat) : Txt.join (Str.ofString "") (l.map one) = mkS l := by
  rw [join_tl, List.map_map]
  congr 1
  induction l with
  | nil => rfl
  | cons c l ih =>
    rw [List.map_cons, List.flatten_cons, ih]
    rfl
theorem len_empty : (Str.ofString "").length = 0 := by decide +kernel
theorem ones_sum (l : List Nat) : ((l.map one).map (·.length)).sum = l.length := by
  induction l with
  | nil => rfl
  | cons c l ih =>
    rw [List.map_cons, List.map_cons, List.sum_cons, ih, len_one, List.length_cons]
    omega
theorem join_fit {l : List Nat} (h : l.length ≤ 100000) : ((l.map one).map (·.length)).sum + (l.map one).length * (Str.ofString "").length ≤ 16777216 := by
  rw [ones_sum, len_empty]
  omega
/-- data of a list of single signs -/
def dOnes (l : List Nat) : PyData := .list (l.map fun c => .str (one c))
theorem dp_all {K : PySem.W.Frag} {H : Hp} : ∀ l : List Nat, DpAll K H (l.map fun c => V.str (one c)) (l.map fun c => .str (one c))
  | [] => .nil
  | _ :: l => .cons (.str _) (dp_all l)
theorem ones_lay : ∀ {l : List Nat}, Sg l → PyData.canLayAll0 (l.map fun c => .str (one c)) = true
  | [], _ => rfl
  | c :: l, h => by
    have hc := h c (List.mem_cons_self ..)
    have e : PyData.canLay0 (.str (one c)) = true := by
      rw [sgn_iff] at hc
      have : ∀ d, d < 128 → PyData.canLay0 (.str (one d)) = true := by decide +kernel
      exact this c (by omega)
    rw [List.map_cons, PyData.canLayAll0, e, ones_lay fun d hd => h d (List.mem_cons_of_mem _ hd)]
    rfl
theorem ones_depth : ∀ l : List Nat, PyData.depthAll (l.map fun c => .str (one c)) = 0
  | [] => rfl
  | _ :: l => by
    rw [List.map_cons, PyData.depthAll, ones_depth l]
    rfl
theorem ones_shaped {l : List Nat} (h : Sg l) : SeqAt.shaped (dOnes l) = true := by
  unfold SeqAt.shaped dOnes
  rw [PyData.canLay0, ones_lay h, Bool.true_and, PyData.depth, ones_depth]
  rfl
theorem ones_nil {l : List Nat} : PyData.eqv (dOnes l) (.list []) = l.isEmpty := by
  unfold dOnes
  cases l with
  | nil => simp [PyData.eqv, PyData.eqvAll]
  | cons c l => simp [PyData.eqv, PyData.eqvAll]
theorem Fx.toSame {L : Addr} {H H' : Hp} (f : Fx L H H') (n : H L = none) : Same H H' := fun b o e => f b o e (ne_of_none e n)
theorem glu_take {l : List Nat} {i c : Nat} (h : l[i]? = some c) : gluT (mkS (shortL (l.take i))) (one c) = mkS (shortL (l.take (i + 1))) := by
  unfold gluT
  rw [tl_mkS, tl_one, glu_one, ← shortL_snoc, List.take_add_one, h]
  rfl
end Sf
namespace Sf
open PySem PySem.Spec PyProof.Rows L2 TL
section
variable {P : Program} {w : World} {K : PySem.W.Frag} {mg : Str → Option Value} {base : Heap}
/-! ### _law_back, _law_short -/
def spBack : Sp := fun vs H Q _ => ∃ x : Str, vs = [.str x] ∧ Wd x ∧ x.length ≤ 50000 ∧ ∀ H', Same H H' → Q (.str (backT x)) H'
abbrev HasBack (P : Program) (w : World) (K : PySem.W.Frag) (mg : Str → Option Value) (base : Heap) : Prop := Has P w K mg base 2 "_law_back" ["_law_word_here"] spBack
def spShort : Sp := fun vs H Q _ => ∃ x : Str, vs = [.str x] ∧ Wd x ∧ x.length ≤ 50000 ∧ ∀ H', Same H H' → Q (.str (shortT x)) H'
abbrev HasShort (P : Program) (w : World) (K : PySem.W.Frag) (mg : Str → Option Value) (base : Heap) : Prop := Has P w K mg base 2 "_law_short" ["_law_word_here"] spShort
end
end Sf
namespace Sf
open PySem PySem.Spec PyProof.Rows L2 TL
section
variable {P : Program} {w : World} {K : PySem.W.Frag} {mg : Str → Option Value} {base : Heap}
theorem sc_back : FnScope ["_law_word_here", "_law_sign_here"] ["_law_word_here"] (defScope s__law_back) := ⟨rfl, rfl, rfl, by decide +kernel, rfl, by decide +kernel, by decide +kernel⟩
theorem has_back (F : FnAt K mg "_law_back" s__law_back ["_law_word_here"]) (hF : HasFlip P w K mg base) : HasBack P w K mg base := F.has fun F => by
  obtain ⟨fF, fdF, gF, kF, bF, GF⟩ := hF
  refine F.ok sc_back (fun vs H Q E h => ?_) (fun cdv A outer s H vs Q E hr h => ?_)
  · obtain ⟨x, rfl, _⟩ := h
    rfl
  · obtain ⟨x, rfl, hx, hl, q⟩ := h
    have hz : (revS x).cps.size = (tl (revS x)).length := len_tl (revS x)
    have hzl := revS_len x
    refine ⟨_, pss_one (ps_ret (pe_join pe_str (pe_lc (own := [("_law_sign_here", 1)]) (g := gName 1) (tt := tYes) (by rfl) sc_back.nd (pi_str (pe_revS (pv 0)))
      (blkOk_by (own := [("_law_sign_here", 1)]) (N := ["_law_word_here", "_law_sign_here"]) (sc := defScope s__law_back) (by decide +kernel)) (fun _ _ _ _ _ => pg_name (i := 1) sc_back.nd rfl (.inl rfl)) (fun _ _ _ _ _ => pts_nil)
      (fun _ _ _ _ _ => pe_call GF hr (by rfl) gF kF bF .nil pass0 (pa_cons (pv 1) pa_nil))))), ?_⟩
    refine ⟨⟨_, rfl⟩, _, rfl, x, rfl, line_of (by omega), revS x, rfl, fun D nD => ?_⟩
    refine lc_gen (n := (revS x).cps.size) (fun i H2 => Same H H2 ∧ H2 D = some (.lst (((tl (revS x)).take i).map fun c => V.str (one (flipC c))))) ⟨same_upd nD, upd_same⟩ (fun i H2 hi _ => hi) (fun H2 _ => Nat.le_refl _) ?_ ?_
    · rintro i v H2 H3 hi ⟨s2, hD⟩ ⟨rfl, c, hc, rfl⟩
      have hc' := getElem?_of_cps hc
      have hs := rev_wd hx c (List.mem_of_getElem? hc')
      refine ⟨rfl, yes_if ?_⟩
      refine ⟨_, rfl, c, rfl, hs, _, hD, ?_, fun a o e => ?_, ?_⟩
      · rw [List.length_map, List.length_take]
        have h3 : (revS x).length = (tl (revS x)).length := len_tl (revS x)
        exact lineLt_of (by omega)
      · rw [upd_ne (ne_of_none e nD)]
        exact s2 _ _ e
      · rw [upd_same, List.take_add_one, hc', List.map_append]
        rfl
    · rintro H2 ⟨s2, hD⟩
      have e1 : (tl (revS x)).take (revS x).cps.size = tl (revS x) := List.take_of_length_le (by rw [hz]; exact Nat.le_refl _)
      rw [e1] at hD
      have e2 : (backL (tl x)).map one = (tl (revS x)).map fun c => one (flipC c) := by
        rw [tl_revS]
        unfold backL
        rw [← List.map_reverse, List.map_map]
        rfl
      refine ⟨_, D, (backL (tl x)).map one, rfl, rfl, .inl (SqL.of ?_), join_fit ?_, ?_⟩
      · rw [hD, e2, List.map_map]
        rfl
      · unfold backL
        rw [List.length_reverse, List.length_map, ← len_tl]
        omega
      · rw [join_ones]
        exact q H2 s2
end
end Sf
namespace Sf
open PySem PySem.Spec PyProof.Rows L2 TL
section
variable {P : Program} {w : World} {K : PySem.W.Frag} {mg : Str → Option Value} {base : Heap}
theorem sc_short : FnScope ["_law_word_here", "_law_left", "_law_sign_here"] ["_law_word_here"] (defScope s__law_short) := ⟨rfl, rfl, rfl, by decide +kernel, rfl, by decide +kernel, by decide +kernel⟩
theorem has_short (F : FnAt K mg "_law_short" s__law_short ["_law_word_here"]) (hF : HasFlip P w K mg base) : HasShort P w K mg base := F.has fun F => by
  obtain ⟨fF, fdF, gF, kF, bF, GF⟩ := hF
  refine F.ok sc_short (fun vs H Q E h => ?_) (fun cdv A outer s H vs Q E hr h => ?_)
  · obtain ⟨x, rfl, _⟩ := h
    rfl
  · obtain ⟨x, rfl, hx, hl, q⟩ := h
    have hz : x.cps.size = (tl x).length := len_tl x
    have hzl : x.length = (tl x).length := len_tl x
    refine ⟨_, pss_cons (ps_set (i := 1) sc_short.nd rfl (.inl rfl) (pe_lst pa_nil))
      (pss_cons (ps_for PassesOwn.never rfl (pi_str (pv 0)) (pg_name (i := 2) sc_short.nd rfl (.inl rfl))
        (pss_one (ps_if (PW.pt (pw_and (pt_cmpR (op_neD hr.units) (pv 1) (pe_lst pa_nil) (nomark _)) (pw_and1 (pt_cmpR op_eq (pe_ix ix_list (pv 1) (pe_un un_neg pe_int) (fun _ _ => rfl)) (pe_call GF hr (by rfl) gF kF bF .nil pass0 (pa_cons (pv 2) pa_nil)) (nomark _)))))
          (pss_one (ps_expr (pe_bm0 PySem.F.plainAttrs_list PySem.F.slot_list_pop PySem.F.type_list_pop mt_pop (pv 1))))
          (pss_one (ps_expr (pe_bm PySem.F.plainAttrs_list PySem.F.slot_list_append PySem.F.type_list_append mt_append (pv 1) (pa_cons (pv 2) pa_nil)))))))
      (pss_one (ps_ret (pe_join pe_str (pv 1))))), ?_⟩
    refine ⟨(by show 0 ≤ sizeLine; decide), fun L nL => ?_⟩
    refine ⟨_, rfl, x, rfl, for_gen (n := x.cps.size) (fun i σ H1 => ∃ y : Option V, σ = [some (.str x), some (.ref L), y] ∧ Fx L H H1 ∧ H1 L = some (.lst ((shortL ((tl x).take i)).map fun c => V.str (one c)))) ⟨none, rfl, Fx.of (same_upd nL), upd_same⟩ (fun i σ H1 hi _ => hi) (fun σ H1 _ => Nat.le_refl _) ?_ ?_⟩
    · rintro i v σ H1 H2 hi ⟨y, rfl, f1, hL⟩ ⟨rfl, c, hc, rfl⟩
      have hc' := getElem?_of_cps hc
      have hs := hx c (List.mem_of_getElem? hc')
      have hSg : Sg (shortL ((tl x).take i)) := shortL_sg fun d hd => hx d (List.mem_of_mem_take hd)
      have hlen : (shortL ((tl x).take i)).length ≤ 50000 := by
        have := shortL_len ((tl x).take i)
        rw [List.length_take] at this
        omega
      have hnext : shortL ((tl x).take (i + 1)) = push (shortL ((tl x).take i)) c := by
        rw [List.take_add_one, hc', ← shortL_snoc]
        rfl
      refine ⟨_, rfl, (by show 0 ≤ sizeLine; decide), fun p np => ?_⟩
      have npL : L ≠ p := ne_of_none hL np
      have hL2 : (upd H2 p (.lst [])) L = some (.lst ((shortL ((tl x).take i)).map fun c => V.str (one c))) := by
        rw [upd_ne npL]
        exact hL
      have f2 : Fx L H (upd H2 p (.lst [])) := f1.new np
      refine ⟨dOnes (shortL ((tl x).take i)), .list [], .lst (SqL.of hL2) (dp_all _), .lst (SqL.of upd_same) .nil, ones_shaped hSg, (by decide +kernel), _, rfl, ?_⟩
      rw [ones_nil, hnext]
      generalize hl0 : shortL ((tl x).take i) = l at hL hL2 hSg hlen
      have app : push l c = l ++ [c] → ∃ v : V, some (some (V.ref L)) = some (some v) ∧ tyV K "list" v (upd H2 p (.lst [])) ∧ ∃ v2 : V, some (some (V.str (one c))) = some (some v2) ∧ ∃ (l' : Addr) (xs : List V) (y : V), v = .ref l' ∧ [v2] = [y] ∧ (upd H2 p (.lst [])) l' = some (.lst xs) ∧ xs.length < sizeLine ∧
          ∃ y' : Option V, [some (V.str x), some (.ref L), some (.str (one c))] = [some (V.str x), some (.ref L), y'] ∧ Fx L H (upd (upd H2 p (.lst [])) l' (.lst (xs ++ [y]))) ∧ (upd (upd H2 p (.lst [])) l' (.lst (xs ++ [y]))) L = some (.lst ((push l c).map fun c => V.str (one c))) := by
        intro e
        refine ⟨_, rfl, .inl ⟨rfl, _, SqL.of hL2⟩, _, rfl, L, _, _, rfl, rfl, hL2, ?_, _, rfl, f2.upd, ?_⟩
        · rw [List.length_map]
          exact lineLt_of (by omega)
        · rw [upd_same, e, List.map_append]
          rfl
      rcases List.eq_nil_or_concat l with rfl | ⟨r, d, rfl⟩
      · exact iteF (app (push_nil c))
      · rw [List.concat_eq_append] at *
        have e0 : (!(r ++ [d]).isEmpty) = true := by cases r <;> rfl
        rw [e0]
        have al : atI ((r ++ [d]).map fun c => V.str (one c)) (-1) = some (V.str (one d)) := by
          rw [List.map_append]
          exact atI_last _ _
        refine iteT ⟨_, rfl, 1, rfl, L, _, -1, _, rfl, rfl, SqL.of hL2, al, _, rfl, c, rfl, hs, rfl, _, rfl, ite2 (fun e => ?_) (fun e => ?_)⟩
        · have e3 : d = flipC c := by
            have := of_decide_eq_true e
            have h6 := congrArg tl (V.str.inj this)
            exact List.head_eq_of_cons_eq h6
          refine ⟨_, rfl, .inl ⟨rfl, _, SqL.of hL2⟩, L, _, .str (one d), rfl, rfl, hL2, ?_, _, rfl, f2.upd, ?_⟩
          · rw [List.length_map, List.length_append, List.length_singleton, Nat.add_sub_cancel, List.getElem?_map, List.getElem?_append_right (Nat.le_refl _), Nat.sub_self]
            rfl
          · rw [upd_same, push_last, if_pos e3, List.map_append, List.map_singleton, List.dropLast_concat]
        · have e3 : d ≠ flipC c := fun z => e (decide_eq_true (by rw [z]))
          refine app ?_
          rw [push_last, if_neg e3]
    · rintro σ H1 ⟨y, rfl, f1, hL⟩
      rw [List.take_of_length_le (by rw [hz]; exact Nat.le_refl _)] at hL
      have h3 := shortL_len (tl x)
      refine ⟨⟨_, rfl⟩, _, rfl, _, L, (shortL (tl x)).map one, rfl, rfl, .inl (SqL.of ?_), join_fit (by omega), ?_⟩
      · rw [hL, List.map_map]
        rfl
      · rw [join_ones]
        exact q H1 (f1.toSame nL)
end
end Sf
namespace Sf
open PySem PySem.Spec PyProof.Rows L2 TL
/-- a great letter goes against the small one -/
def Inv1 (st : Nat → Int → Option Int) : Prop := ∀ c x y, sgn c = true → st c x = some y → st (flipC c) y = some x
theorem LM_uniq {n : Int} {ms : List Mv} (h : WOk n ms) {c : Nat} (hc : sgn c = true) : ∀ p ∈ LM ms c, ∀ q ∈ LM ms c, p.1 = q.1 → p = q := by
  intro p hp q hq e
  obtain ⟨m, hm, em⟩ := LM_mem.mp hp
  obtain ⟨k, hk, ek⟩ := LM_mem.mp hq
  have rm := h.rg m hm
  have rk := h.rg k hk
  rw [sgn_iff] at hc
  have key : m = k := by
    obtain ⟨i, hi, rfl⟩ := List.getElem_of_mem hm
    obtain ⟨j, hj, rfl⟩ := List.getElem_of_mem hk
    by_cases hij : i = j
    · subst hij; rfl
    · exfalso
      have pw := List.pairwise_iff_getElem.mp h.pw
      have hl : ms[i].1 = ms[j].1 := by
        rcases em with ⟨h1, _⟩ | ⟨_, h1, _⟩ <;> rcases ek with ⟨h2, _⟩ | ⟨_, h2, _⟩ <;> omega
      rcases Nat.lt_or_gt_of_ne hij with hlt | hlt
      · have := pw i j hi hj hlt hl
        rcases em with ⟨h1, h2, h3⟩ | ⟨h0, h1, h2, h3⟩ <;> rcases ek with ⟨g1, g2, g3⟩ | ⟨g0, g1, g2, g3⟩
        · exact this.1 (by rw [h2, g2, e])
        · omega
        · omega
        · exact this.2 (by rw [h2, g2, e])
      · have := pw j i hj hi hlt hl.symm
        rcases em with ⟨h1, h2, h3⟩ | ⟨h0, h1, h2, h3⟩ <;> rcases ek with ⟨g1, g2, g3⟩ | ⟨g0, g1, g2, g3⟩
        · exact this.1 (by rw [h2, g2, e])
        · omega
        · omega
        · exact this.2 (by rw [h2, g2, e])
  subst key
  refine Prod.ext e ?_
  rcases em with ⟨h1, h2, h3⟩ | ⟨h0, h1, h2, h3⟩ <;> rcases ek with ⟨g1, g2, g3⟩ | ⟨g0, g1, g2, g3⟩
  · rw [← h3, ← g3]
  · exact absurd h1 g0
  · exact absurd g1 h0
  · rw [← h3, ← g3]
theorem LM_flip {n : Int} {ms : List Mv} (h : WOk n ms) {c : Nat} (hc : sgn c = true) {x y : Int} (hp : (x, y) ∈ LM ms c) : (y, x) ∈ LM ms (flipC c) := by
  obtain ⟨m, hm, em⟩ := LM_mem.mp hp
  have rm := h.rg m hm
  rw [sgn_iff] at hc
  refine LM_mem.mpr ⟨m, hm, ?_⟩
  unfold flipC
  rcases em with ⟨h1, h2, h3⟩ | ⟨h0, h1, h2, h3⟩
  · rw [if_pos (by omega)]
    exact .inr ⟨by omega, by omega, h3, h2⟩
  · rw [if_neg (by omega)]
    exact .inl ⟨h1, h3, h2⟩
theorem inv_world {n : Int} {ms : List Mv} (h : WOk n ms) : Inv1 (stp (LM ms)) := fun c x y hc e => lk_of (LM_uniq h (flip_sgn hc)) (LM_flip h hc (lk_mem e))
/-- a word undone leads back -/
theorem led_back {st : Nat → Int → Option Int} (hi : Inv1 st) : ∀ {l : List Nat} {p q : Int}, Sg l → ledM st l p = some q → ledM st (backL l) q = some p
  | [], p, q, _, h => by cases h; rfl
  | c :: r, p, q, hl, h => by
    cases e : st c p with
    | none => rw [ledM, e] at h; cases h
    | some m =>
      rw [ledM, e] at h
      have ih := led_back hi (l := r) (fun x hx => hl x (List.mem_cons_of_mem _ hx)) h
      have e2 := hi c p m (hl c (List.mem_cons_self ..)) e
      have eb : backL (c :: r) = backL r ++ [flipC c] := by unfold backL; rw [List.map_cons, List.reverse_cons]
      rw [eb, ledM_app, ih]
      show ledM st [flipC c] m = some p
      rw [ledM, e2]
      rfl
theorem led_inj {st : Nat → Int → Option Int} (hi : Inv1 st) {l : List Nat} {p p' q : Int} (hl : Sg l) (h : ledM st l p = some q) (h' : ledM st l p' = some q) : p = p' := by
  have a := led_back hi hl h
  rw [led_back hi hl h'] at a
  cases a
  rfl
/-- words lead to places -/
theorem led_in {n : Int} {ms : List Mv} (h : WOk n ms) : ∀ {l : List Nat} {p q : Int}, 0 ≤ p → p < n → ledM (stp (LM ms)) l p = some q → 0 ≤ q ∧ q < n
  | [], p, q, h0, h1, e => by cases e; exact ⟨h0, h1⟩
  | c :: r, p, q, h0, h1, e => by
    cases e1 : stp (LM ms) c p with
    | none => rw [ledM, e1] at e; cases e
    | some m =>
      rw [ledM, e1] at e
      obtain ⟨k, hk, ek⟩ := LM_mem.mp (lk_mem e1)
      have rk := h.rg k hk
      refine led_in h (p := m) ?_ ?_ e
      · rcases ek with ⟨_, _, z⟩ | ⟨_, _, _, z⟩ <;> (have z : _ = m := z; omega)
      · rcases ek with ⟨_, _, z⟩ | ⟨_, _, _, z⟩ <;> (have z : _ = m := z; omega)
theorem count_one {α : Type} {P : α → Bool} : ∀ {l : List α}, l.Nodup → (∀ x ∈ l, ∀ y ∈ l, P x = true → P y = true → x = y) → l.countP P ≤ 1
  | [], _, _ => by rw [List.countP_nil]; omega
  | a :: l, hn, h => by
    rw [List.countP_cons]
    have hn := List.nodup_cons.mp hn
    have ih := count_one hn.2 fun x hx y hy => h x (List.mem_cons_of_mem _ hx) y (List.mem_cons_of_mem _ hy)
    by_cases e : P a = true
    · have z : l.countP P = 0 := List.countP_eq_zero.mpr fun x hx hp => by
        have := h a (List.mem_cons_self ..) x (List.mem_cons_of_mem _ hx) e hp
        subst this
        exact hn.1 hx
      rw [z, if_pos e]
      omega
    · rw [if_neg e]
      omega
end Sf
namespace Sf
open PySem PySem.Spec PyProof.Rows L2 TL
/-! ### reduced words as a group -/
def Rdc (x : Str) : Prop := Wd x ∧ RedS (tl x).reverse
theorem runS_short {s : List Nat} (h : RedS s) (hs : Sg s) : ∀ (n : Nat) (w : List Nat), w.length = n → Sg w → runS s (shortL w) = runS s w := by
  intro n
  induction n with
  | zero =>
    intro w hw _
    rw [List.eq_nil_of_length_eq_zero hw]
    rfl
  | succ n ih =>
    intro w hw hg
    rcases List.eq_nil_or_concat w with rfl | ⟨u, c, rfl⟩
    · rfl
    · rw [List.concat_eq_append] at *
      have hu : Sg u := fun d hd => hg d (List.mem_append_left _ hd)
      have hc : sgn c = true := hg c (List.mem_append_right _ (List.mem_singleton.mpr rfl))
      have hl : u.length = n := by
        rw [List.length_append, List.length_singleton] at hw
        omega
      have ihu := ih u hl hu
      rw [shortL_snoc, runS_app]
      show runS s (push (shortL u) c) = pushS (runS s u) c
      rw [← ihu]
      rcases List.eq_nil_or_concat (shortL u) with e | ⟨r, d, e⟩
      · rw [e]
        rfl
      · rw [List.concat_eq_append] at e
        have hd : sgn d = true := shortL_sg hu d (by rw [e]; simp)
        have hr : Sg r := fun z hz => shortL_sg hu z (by rw [e]; exact List.mem_append_left _ hz)
        rw [e, push_last]
        by_cases q : d = flipC c
        · rw [if_pos q, runS_app]
          show runS s r = pushS (pushS (runS s r) d) c
          have hinv := pushS_inv (s := runS s r) (c := d) (runS_red h) (runS_sg hs hr) hd
          have e2 : flipC d = c := by rw [q, flip2 hc]
          rw [e2] at hinv
          exact hinv.symm
        · rw [if_neg q, runS_app s (r ++ [d]) [c]]
          rfl
theorem run_self {x : Str} (h : Rdc x) : runS [] (tl x) = (tl x).reverse := by
  have := run_of_red (w := tl x) (s := []) (by rw [List.append_nil]; exact h.2)
  rw [List.append_nil] at this
  exact this
theorem tl_glu {x y : Str} (hx : Rdc x) (hy : Rdc y) : tl (gluT x y) = (runS (tl x).reverse (tl y)).reverse := by
  unfold gluT
  rw [tl_mkS, glS_run hy.2 hx.2]
theorem glu_rdc {x y : Str} (hx : Rdc x) (hy : Rdc y) : Rdc (gluT x y) := by
  refine ⟨gluT_wd hx.1 hy.1, ?_⟩
  rw [tl_glu hx hy, List.reverse_reverse]
  exact runS_red hx.2
theorem rev_sg {x : Str} (h : Wd x) : Sg (tl x).reverse := fun c hc => h c (List.mem_reverse.mp hc)
theorem glu_short {x y : Str} (hx : Rdc x) (hy : Rdc y) : tl (gluT x y) = shortL (tl x ++ tl y) := by
  rw [tl_glu hx hy]
  unfold shortL
  rw [runS_app, run_self hx]
theorem glu_assoc {x y z : Str} (hx : Rdc x) (hy : Rdc y) (hz : Rdc z) : gluT (gluT x y) z = gluT x (gluT y z) := by
  refine ext_tl ?_
  rw [tl_glu (glu_rdc hx hy) hz, tl_glu hx (glu_rdc hy hz), tl_glu hx hy, List.reverse_reverse, glu_short hy hz]
  rw [runS_short hx.2 (rev_sg hx.1) _ _ rfl (fun c hc => (List.mem_append.mp hc).elim (hy.1 c) (hz.1 c)), runS_app]
theorem rdc_nil : Rdc (Str.ofString "") := ⟨wd_nil, by rw [tl_empty]; exact True.intro⟩
theorem glu_nil {x : Str} : gluT x (Str.ofString "") = x := by
  refine ext_tl ?_
  unfold gluT
  rw [tl_mkS, tl_empty]
  cases h : (tl x).reverse with
  | nil =>
    rw [List.reverse_eq_nil_iff] at h
    rw [h]
    rfl
  | cons a l =>
    show (a :: l).reverse = _
    rw [← h, List.reverse_reverse]
theorem nil_glu {x : Str} (hx : Rdc x) : gluT (Str.ofString "") x = x := by
  refine ext_tl ?_
  rw [tl_glu rdc_nil hx, tl_empty]
  show (runS [] (tl x)).reverse = _
  rw [run_self hx, List.reverse_reverse]
theorem red_npc2 : ∀ {l : List Nat}, RedS l.reverse → Sg l → RedS (l.map flipC)
  | [], _, _ => True.intro
  | [_], _, _ => True.intro
  | x :: y :: t, h, hs => by
    rw [List.reverse_cons] at h
    have h1 : RedS (y :: t).reverse := glS_run.RedS.prefix h
    rw [List.reverse_cons, List.append_assoc] at h
    have h2 : RedS [y, x] := RedS.suffix (a := t.reverse) h
    have hx := hs x (List.mem_cons_self ..)
    have ih := red_npc2 (l := y :: t) h1 (fun c hc => hs c (List.mem_cons_of_mem _ hc))
    refine ⟨?_, ih⟩
    intro e
    rw [flip2 hx] at e
    exact h2.1 e.symm
theorem back_rdc {x : Str} (hx : Rdc x) : Rdc (backT x) := by
  refine ⟨backT_wd hx.1, ?_⟩
  show RedS (backL (tl x)).reverse
  unfold backL
  rw [List.reverse_reverse]
  exact red_npc2 hx.2 hx.1
theorem glu_back {x : Str} (hx : Rdc x) : gluT x (backT x) = Str.ofString "" := by
  refine ext_tl ?_
  rw [tl_glu hx (back_rdc hx), tl_empty]
  show (runS (tl x).reverse (backL (tl x))).reverse = []
  rw [← run_self hx, run_back (s := []) True.intro (fun _ z => by cases z) hx.1]
  rfl
theorem back_glu {x : Str} (hx : Rdc x) : gluT (backT x) x = Str.ofString "" := by
  have h := glu_back (back_rdc hx)
  rw [backT_back hx.1] at h
  exact h
theorem glu_cancel {e s : Str} (he : Rdc e) (hs : Rdc s) : gluT (backT e) (gluT e s) = s := by
  rw [← glu_assoc (back_rdc he) he hs, back_glu he, nil_glu hs]
theorem glu_cancel2 {e s : Str} (he : Rdc e) (hs : Rdc s) : gluT e (gluT (backT e) s) = s := by
  rw [← glu_assoc he (back_rdc he) hs, glu_back he, nil_glu hs]
theorem glu_inj {e s t : Str} (he : Rdc e) (hs : Rdc s) (ht : Rdc t) (h : gluT e s = gluT e t) : s = t := by
  rw [← glu_cancel he hs, ← glu_cancel he ht, h]
theorem back_of_glu {x y : Str} (hx : Rdc x) (hy : Rdc y) : backT (gluT x y) = gluT (backT y) (backT x) := by
  have h1 := glu_rdc hx hy
  have h2 := glu_rdc (back_rdc hy) (back_rdc hx)
  have e : gluT (gluT x y) (gluT (backT y) (backT x)) = Str.ofString "" := by
    rw [glu_assoc hx hy h2, glu_cancel2 hy (back_rdc hx), glu_back hx]
  have e2 := glu_cancel (s := gluT (backT y) (backT x)) h1 h2
  rw [e, glu_nil] at e2
  exact e2
theorem short_rdc {w : List Nat} (h : Sg w) : Rdc (mkS (shortL w)) := by
  refine ⟨shortL_sg h, ?_⟩
  rw [tl_mkS]
  unfold shortL
  rw [List.reverse_reverse]
  exact runS_red (s := []) True.intro
/-! ### lists without doubles -/
theorem nodup_le : ∀ {ks ms : List Str}, ks.Nodup → (∀ s ∈ ks, s ∈ ms) → ks.length ≤ ms.length
  | [], _, _, _ => Nat.zero_le _
  | k :: ks, ms, hn, h => by
    obtain ⟨a, b, rfl⟩ := List.append_of_mem (h k (List.mem_cons_self ..))
    have hk := (List.nodup_cons.mp hn)
    have ih := nodup_le (ks := ks) (ms := a ++ b) hk.2 (fun s hs => by
      have h1 := h s (List.mem_cons_of_mem _ hs)
      rcases List.mem_append.mp h1 with h1 | h1
      · exact List.mem_append_left _ h1
      · rcases List.mem_cons.mp h1 with rfl | h1
        · exact absurd hs hk.1
        · exact List.mem_append_right _ h1)
    rw [List.length_append] at ih
    rw [List.length_append, List.length_cons, List.length_cons]
    omega
theorem nodup_len {ks ms : List Str} (h1 : ks.Nodup) (h2 : ms.Nodup) (h : ∀ s, s ∈ ks ↔ s ∈ ms) : ks.length = ms.length :=
  Nat.le_antisymm (nodup_le h1 fun s hs => (h s).mp hs) (nodup_le h2 fun s hs => (h s).mpr hs)
theorem nodup_map_glu {e : Str} (he : Rdc e) : ∀ {ks : List Str}, (∀ s ∈ ks, Rdc s) → ks.Nodup → (ks.map (gluT e)).Nodup
  | [], _, _ => List.nodup_nil
  | k :: ks, hr, hn => by
    have hk := List.nodup_cons.mp hn
    rw [List.map_cons, List.nodup_cons]
    refine ⟨fun hm => ?_, nodup_map_glu he (fun s hs => hr s (List.mem_cons_of_mem _ hs)) hk.2⟩
    obtain ⟨t, ht, e2⟩ := List.mem_map.mp hm
    have := glu_inj he (hr t (List.mem_cons_of_mem _ ht)) (hr k (List.mem_cons_self ..)) e2
    rw [this] at ht
    exact hk.1 ht
/-! ### dicts of spots -/
def dOf (ks : List Str) : List (Key × V) := ks.map fun s => (Sum.inr s, V.bl true)
theorem dOf_len (ks : List Str) : (dOf ks).length = ks.length := List.length_map ..
def addS (l : List Str) (s : Str) : List Str := if s ∈ l then l else l ++ [s]
theorem any_dOf (l : List Str) (s : Str) : ((dOf l).any fun kv => decide (kv.1 = (Sum.inr s : Key))) = decide (s ∈ l) := by
  unfold dOf
  rw [List.any_map, Bool.eq_iff_iff, List.any_eq_true, decide_eq_true_eq]
  constructor
  · rintro ⟨t, ht, e⟩
    have e1 : (Sum.inr t : Key) = Sum.inr s := of_decide_eq_true e
    cases e1
    exact ht
  · intro h
    exact ⟨s, h, decide_eq_true rfl⟩
theorem put_dOf (l : List Str) (s : Str) : putK (dOf l) (Sum.inr s) (.bl true) = dOf (addS l s) := by
  unfold putK addS
  rw [any_dOf]
  by_cases h : s ∈ l
  · rw [if_pos (decide_eq_true h), if_pos h]
    unfold dOf
    rw [List.map_map]
    refine List.map_congr_left fun t _ => ?_
    show (if (Sum.inr t : Key) = Sum.inr s then ((Sum.inr t : Key), V.bl true) else (Sum.inr t, V.bl true)) = _
    split <;> rfl
  · rw [if_neg (by rw [decide_eq_false h]; exact Bool.false_ne_true), if_neg h]
    unfold dOf
    rw [List.map_append]
    rfl
theorem addS_mem {l : List Str} {s t : Str} : t ∈ addS l s ↔ t ∈ l ∨ t = s := by
  unfold addS
  by_cases h : s ∈ l
  · rw [if_pos h]
    constructor
    · exact .inl
    · rintro (h1 | rfl)
      · exact h1
      · exact h
  · rw [if_neg h, List.mem_append, List.mem_singleton]
theorem addS_nodup {l : List Str} {s : Str} (h : l.Nodup) : (addS l s).Nodup := by
  unfold addS
  by_cases hs : s ∈ l
  · rw [if_pos hs]
    exact h
  · rw [if_neg hs, List.nodup_append]
    refine ⟨h, by simp, ?_⟩
    intro a ha b hb
    rw [List.mem_singleton] at hb
    subst hb
    exact fun e => hs (e ▸ ha)
theorem addS_len (l : List Str) (s : Str) : (addS l s).length ≤ l.length + 1 := by
  unfold addS
  by_cases hs : s ∈ l
  · rw [if_pos hs]
    omega
  · rw [if_neg hs, List.length_append, List.length_singleton]
    exact Nat.le_refl _
def uni (l m : List Str) : List Str := m.foldl addS l
theorem merge_dOf : ∀ (l m : List Str), mergeV (dOf l) (dOf m) = dOf (uni l m)
  | _, [] => rfl
  | l, s :: m => by
    show mergeV (putK (dOf l) (Sum.inr s) (.bl true)) (dOf m) = _
    rw [put_dOf, merge_dOf]
    rfl
theorem uni_mem : ∀ {m l : List Str} {t : Str}, t ∈ uni l m ↔ t ∈ l ∨ t ∈ m
  | [], l, t => by simp [uni]
  | s :: m, l, t => by
    show t ∈ uni (addS l s) m ↔ _
    rw [uni_mem, addS_mem, List.mem_cons, or_assoc]
theorem uni_nodup : ∀ {m l : List Str}, l.Nodup → (uni l m).Nodup
  | [], _, h => h
  | _ :: m, _, h => uni_nodup (m := m) (addS_nodup h)
theorem uni_len : ∀ (m l : List Str), (uni l m).length ≤ l.length + m.length
  | [], l => by simp [uni]
  | s :: m, l => by
    have h1 := uni_len m (addS l s)
    have h2 := addS_len l s
    show (uni (addS l s) m).length ≤ _
    rw [List.length_cons]
    omega
theorem dOf_nil : dOf [] = [] := rfl
theorem val_dOf {l : List Str} {s : Str} (h : s ∈ l) : valV (dOf l) (Sum.inr s) = some (.bl true) := by
  induction l with
  | nil => cases h
  | cons t l ih =>
    by_cases e : t = s
    · rw [e]
      exact valV_pos rfl
    · have e2 : ¬ ((Sum.inr t : Key) = Sum.inr s) := fun z => e (Sum.inr.inj z)
      show valV ((Sum.inr t, V.bl true) :: dOf l) _ = _
      rw [valV_neg e2]
      exact ih ((List.mem_cons.mp h).resolve_left fun z => e z.symm)
theorem val_dOf_none {l : List Str} {s : Str} (h : s ∉ l) : valV (dOf l) (Sum.inr s) = none := by
  induction l with
  | nil => rfl
  | cons t l ih =>
    have e2 : ¬ ((Sum.inr t : Key) = Sum.inr s) := fun z => h (by rw [Sum.inr.inj z]; exact List.mem_cons_self ..)
    show valV ((Sum.inr t, V.bl true) :: dOf l) _ = _
    rw [valV_neg e2]
    exact ih fun z => h (List.mem_cons_of_mem _ z)
end Sf
namespace Sf
open PySem PySem.Spec PyProof.Rows L2 TL
def spotP (x : Str) : Str → Prop := fun s => ∃ i, i ≤ (tl x).length ∧ s = mkS (shortL ((tl x).take i))
end Sf
namespace Sf
open PySem PySem.Spec PyProof.Rows L2 TL
/-! ### tracks of words put behind one another and undone -/
theorem glu_shortL {u v : List Nat} (hu : Sg u) (hv : Sg v) : gluT (mkS (shortL u)) (mkS (shortL v)) = mkS (shortL (u ++ v)) := by
  refine eq_mkS ?_
  rw [glu_short (short_rdc hu) (short_rdc hv), tl_mkS, tl_mkS]
  have n0 : Sg ([] : List Nat) := fun _ z => by cases z
  have r0 : RedS ([] : List Nat) := True.intro
  have e1 := runS_short r0 n0 _ u rfl hu
  unfold shortL at e1 ⊢
  rw [runS_app, runS_app, e1]
  have e2 := runS_short (runS_red (w := u) r0) (runS_sg n0 hu) _ v rfl hv
  unfold shortL at e2
  rw [e2]
theorem glu_shortT {x y : Str} (hx : Wd x) (hy : Wd y) : gluT (shortT x) (shortT y) = shortT (x ++ y) := by
  unfold shortT
  rw [glu_shortL hx hy, tl_append]
theorem short_undo {u : List Nat} (hu : Sg u) : shortL (u ++ backL u) = [] := by
  unfold shortL
  rw [runS_app, run_back (s := []) True.intro (fun _ z => by cases z) hu]
  rfl
theorem back_shortL {u : List Nat} (hu : Sg u) : backT (mkS (shortL u)) = mkS (shortL (backL u)) := by
  have ha := short_rdc hu
  have hb := short_rdc (backL_sg hu)
  have e : gluT (mkS (shortL u)) (mkS (shortL (backL u))) = Str.ofString "" := by
    rw [glu_shortL hu (backL_sg hu), short_undo hu]
    decide +kernel
  have e2 := glu_cancel ha hb
  rw [e, glu_nil] at e2
  exact e2
theorem back_shortT {x : Str} (hx : Wd x) : backT (shortT x) = shortT (backT x) := by
  unfold shortT
  rw [back_shortL hx]
  rfl
section
def joinP (S T : Str → Prop) (e : Str) : Str → Prop := fun s => S s ∨ ∃ t, T t ∧ s = gluT e t
def backP (S : Str → Prop) (e : Str) : Str → Prop := fun s => ∃ t, S t ∧ s = gluT (backT e) t
theorem spot_join {x y : Str} (hx : Wd x) (hy : Wd y) : ∀ s, joinP (spotP x) (spotP y) (shortT x) s ↔ spotP (x ++ y) s := fun s => by
  have hsx : ∀ j, Sg ((tl x).take j) := fun j c hc => hx c (List.mem_of_mem_take hc)
  have hsy : ∀ j, Sg ((tl y).take j) := fun j c hc => hy c (List.mem_of_mem_take hc)
  unfold joinP spotP
  rw [tl_append, List.length_append]
  constructor
  · rintro (⟨j, hj, rfl⟩ | ⟨t, ⟨j, hj, rfl⟩, rfl⟩)
    · exact ⟨j, by omega, by rw [List.take_append_of_le_length hj]⟩
    · refine ⟨(tl x).length + j, by omega, ?_⟩
      unfold shortT
      rw [glu_shortL hx (hsy j), List.take_append, List.take_of_length_le (l := tl x) (by omega), Nat.add_sub_cancel_left]
  · rintro ⟨i, hi, rfl⟩
    by_cases h : i ≤ (tl x).length
    · exact .inl ⟨i, h, by rw [List.take_append_of_le_length h]⟩
    · refine .inr ⟨_, ⟨i - (tl x).length, by omega, rfl⟩, ?_⟩
      unfold shortT
      rw [glu_shortL hx (hsy _), List.take_append, List.take_of_length_le (l := tl x) (by omega)]
theorem short_mid {u v : List Nat} (hu : Sg u) (hv : Sg v) : shortL (u ++ backL v ++ v) = shortL u := by
  have n0 : Sg ([] : List Nat) := fun _ z => by cases z
  unfold shortL
  rw [runS_app, runS_app]
  have h := run_back (w := backL v) (runS_red (w := u) (s := []) True.intro) (runS_sg n0 hu) (backL_sg hv)
  rw [backL_back hv] at h
  rw [h]
theorem spot_back {x : Str} (hx : Wd x) : ∀ s, backP (spotP x) (shortT x) s ↔ spotP (backT x) s := fun s => by
  have key : ∀ j, j ≤ (tl x).length → gluT (backT (shortT x)) (mkS (shortL ((tl x).take j))) = mkS (shortL ((tl (backT x)).take ((tl x).length - j))) := fun j hj => by
    have ht : Sg ((tl x).take j) := fun c hc => hx c (List.mem_of_mem_take hc)
    have hd : Sg ((tl x).drop j) := fun c hc => hx c (List.mem_of_mem_drop hc)
    have e1 : backL (tl x) = backL ((tl x).drop j) ++ backL ((tl x).take j) := by
      rw [← backL_app, List.take_append_drop]
    have e2 : (tl (backT x)).take ((tl x).length - j) = backL ((tl x).drop j) := by
      show (backL (tl x)).take _ = _
      rw [e1]
      refine List.take_left' ?_
      unfold backL
      rw [List.length_reverse, List.length_map, List.length_drop]
    rw [e2]
    unfold shortT
    rw [back_shortL hx, glu_shortL (backL_sg hx) ht, e1, short_mid (backL_sg hd) ht]
  have el : (tl (backT x)).length = (tl x).length := by
    show (backL (tl x)).length = _
    unfold backL
    rw [List.length_reverse, List.length_map]
  constructor
  · rintro ⟨t, ⟨j, hj, rfl⟩, rfl⟩
    exact ⟨(tl x).length - j, by omega, key j hj⟩
  · rintro ⟨i, hi, rfl⟩
    rw [el] at hi
    refine ⟨_, ⟨(tl x).length - i, by omega, rfl⟩, ?_⟩
    rw [key _ (by omega)]
    congr 4
    omega
end
end Sf
namespace Sf
open PySem PySem.Spec PyProof.Rows L2 TL
/-! ### words with one track do the same in every world -/
section
variable {st : Nat → Int → Option Int}
theorem led_one (c : Nat) (x : Int) : ledM st [c] x = st c x := by
  show (st c x).bind (fun z => some z) = st c x
  cases st c x <;> rfl
theorem led_push (hi : Inv1 st) {l : List Nat} {c : Nat} {p r : Int} (hl : Sg l) (hc : sgn c = true) (h : ledM st l p = some r) : ledM st (push l c) p = (st c r) ∨ (ledM st (push l c) p ≠ none ∧ ledM st (push l c) p = st c r) := by
  rcases List.eq_nil_or_concat l with rfl | ⟨m, x, rfl⟩
  · rw [push_nil, led_one]
    cases h
    exact .inl rfl
  · rw [List.concat_eq_append] at h ⊢
    rw [push_last]
    by_cases e : x = flipC c
    · rw [if_pos e]
      rw [ledM_app] at h
      cases hm : ledM st m p with
      | none => rw [hm] at h; cases h
      | some r' =>
        rw [hm] at h
        have h : ledM st [x] r' = some r := h
        rw [led_one, e] at h
        have h2 := hi (flipC c) r' r (flip_sgn hc) h
        rw [flip2 hc] at h2
        exact .inl h2.symm
    · rw [if_neg e, ledM_app, h]
      exact .inl (led_one c r)
/-- the word led is the reduced word led, where it leads -/
theorem led_short (hi : Inv1 st) {w : List Nat} (hw : Sg w) {p : Int} : ∀ i, i ≤ w.length → ((∃ q, ledM st (w.take i) p = some q ∧ ledM st (shortL (w.take i)) p = some q ∧ ∀ j, j ≤ i → ledM st (shortL (w.take j)) p ≠ none) ∨ (ledM st (w.take i) p = none ∧ ∃ j, j ≤ i ∧ ledM st (shortL (w.take j)) p = none)) := by
  intro i
  induction i with
  | zero =>
    intro _
    refine .inl ⟨p, by rw [List.take_zero]; rfl, by rw [List.take_zero]; rfl, fun j hj => ?_⟩
    have : j = 0 := by omega
    rw [this, List.take_zero]
    intro z
    cases z
  | succ i ih =>
    intro hlt
    have hg : w[i]? = some w[i] := List.getElem?_eq_getElem hlt
    have hc : sgn w[i] = true := hw _ (List.getElem_mem hlt)
    have e1 := ledM_snoc (st := st) (x := p) hg
    rcases ih (by omega) with ⟨q, h1, h2, h3⟩ | ⟨h1, j, hj, h2⟩
    · rw [h1] at e1
      have e1 : ledM st (w.take (i + 1)) p = st w[i] q := e1
      have e2 : ledM st (shortL (w.take (i + 1))) p = st w[i] q := by
        rw [take_snoc hg, shortL_snoc]
        rcases led_push hi (shortL_sg fun c hc => hw c (List.mem_of_mem_take hc)) hc h2 with h | h
        · exact h
        · exact h.2
      cases e3 : st w[i] q with
      | none => exact .inr ⟨by rw [e1, e3], i + 1, Nat.le_refl _, by rw [e2, e3]⟩
      | some r =>
        refine .inl ⟨r, by rw [e1, e3], by rw [e2, e3], fun j hj => ?_⟩
        by_cases hji : j ≤ i
        · exact h3 j hji
        · have : j = i + 1 := by omega
          rw [this, e2, e3]
          intro z
          cases z
    · rw [h1] at e1
      exact .inr ⟨e1, j, by omega, h2⟩
theorem munn (hi : Inv1 st) {x y : Str} (hx : Wd x) (hy : Wd y) (hS : ∀ s, spotP x s → spotP y s) (he : shortT x = shortT y) (hS' : ∀ s, spotP y s → spotP x s) (p : Int) : ledM st (tl x) p = ledM st (tl y) p := by
  have hsh : shortL (tl x) = shortL (tl y) := by
    have := congrArg tl he
    exact this
  have ax := led_short hi hx (p := p) (tl x).length (Nat.le_refl _)
  have ay := led_short hi hy (p := p) (tl y).length (Nat.le_refl _)
  rw [List.take_length] at ax ay
  rcases ax with ⟨q, h1, h2, h3⟩ | ⟨h1, j, hj, h2⟩
  · rcases ay with ⟨q', g1, g2, g3⟩ | ⟨g1, j, hj, g2⟩
    · rw [hsh, g2] at h2
      rw [h1, g1, ← h2]
    · exfalso
      obtain ⟨i, hi', e⟩ := hS' (mkS (shortL ((tl y).take j))) ⟨j, hj, rfl⟩
      have : shortL ((tl y).take j) = shortL ((tl x).take i) := congrArg tl e
      rw [this] at g2
      exact h3 i hi' g2
  · rcases ay with ⟨q', g1, g2, g3⟩ | ⟨g1, _⟩
    · exfalso
      obtain ⟨i, hi', e⟩ := hS (mkS (shortL ((tl x).take j))) ⟨j, hj, rfl⟩
      have : shortL ((tl x).take j) = shortL ((tl y).take i) := congrArg tl e
      rw [this] at h2
      exact g3 i hi' h2
    · rw [h1, g1]
end
end Sf
namespace Sf
open PySem PySem.Spec PyProof.Rows L2 TL
/-! ### worlds that are alike -/
structure Iso (D : Int → Prop) (φ : Int → Int) (L L' : Nat → List (Int × Int)) : Prop where
  inj : ∀ x y, D x → D y → φ x = φ y → x = y
  cl : ∀ c ∈ sgs, ∀ x, D x → ∀ e, stp L c x = some e → D e
  st : ∀ c ∈ sgs, ∀ x, D x → stp L' c (φ x) = (stp L c x).map φ
def phF (φ : Int → Int) (fs : List Fd) : List Fd := fs.map fun k => (φ k.1, k.2)
theorem phF_keys (φ : Int → Int) (fs : List Fd) : (phF φ fs).map (·.1) = (fs.map (·.1)).map φ := by
  unfold phF
  rw [List.map_map, List.map_map]
  rfl
theorem phF_words (φ : Int → Int) (fs : List Fd) : (phF φ fs).map (·.2) = fs.map (·.2) := by
  unfold phF
  rw [List.map_map]
  rfl
section
variable {D : Int → Prop} {φ : Int → Int} {L L' : Nat → List (Int × Int)}
theorem Iso.mem (I : Iso D φ L L') {ks : List Int} (hk : ∀ x ∈ ks, D x) {e : Int} (he : D e) : φ e ∈ ks.map φ ↔ e ∈ ks := by
  constructor
  · intro h
    obtain ⟨y, hy, e2⟩ := List.mem_map.mp h
    rw [← I.inj y e (hk y hy) he e2]
    exact hy
  · exact fun h => List.mem_map.mpr ⟨e, h, rfl⟩
theorem Iso.ex1 (I : Iso D φ L L') {k : Fd} {fs : List Fd} {c : Nat} (hc : c ∈ sgs) (hk : D k.1) (hf : ∀ x ∈ fs.map (·.1), D x) :
    ex1 L' (φ k.1, k.2) (phF φ fs) c = phF φ (ex1 L k fs c) ∧ ∀ x ∈ (ex1 L k fs c).map (·.1), D x := by
  have h1 := I.st c hc k.1 hk
  unfold Sf.ex1
  rw [show stp L' c (φ k.1, k.2).1 = (stp L c k.1).map φ from h1]
  cases e : stp L c k.1 with
  | none => exact ⟨rfl, hf⟩
  | some y =>
    have hy := I.cl c hc k.1 hk y e
    show (if φ y ∈ (phF φ fs).map (·.1) then phF φ fs else phF φ fs ++ [(φ y, k.2 ++ one c)]) = phF φ (if y ∈ fs.map (·.1) then fs else fs ++ [(y, k.2 ++ one c)]) ∧ ∀ x ∈ (if y ∈ fs.map (·.1) then fs else fs ++ [(y, k.2 ++ one c)]).map (·.1), D x
    have hm := I.mem hf hy
    rw [phF_keys]
    by_cases hin : y ∈ fs.map (·.1)
    · rw [if_pos hin, if_pos (hm.mpr hin)]
      exact ⟨rfl, hf⟩
    · rw [if_neg hin, if_neg (fun z => hin (hm.mp z))]
      refine ⟨by unfold phF; rw [List.map_append]; rfl, fun x hx => ?_⟩
      rw [List.map_append] at hx
      rcases List.mem_append.mp hx with z | z
      · exact hf x z
      · rw [List.mem_singleton.mp z]
        exact hy
theorem Iso.exS (I : Iso D φ L L') {k : Fd} (hk : D k.1) : ∀ (cs : List Nat) (fs : List Fd), (∀ c ∈ cs, c ∈ sgs) → (∀ x ∈ fs.map (·.1), D x) →
    exS L' (φ k.1, k.2) (phF φ fs) cs = phF φ (exS L k fs cs) ∧ ∀ x ∈ (exS L k fs cs).map (·.1), D x
  | [], fs, _, hf => ⟨rfl, hf⟩
  | c :: cs, fs, hc, hf => by
    have h1 := I.ex1 (hc c List.mem_cons_self) hk hf
    have h2 := I.exS hk cs (Sf.ex1 L k fs c) (fun d hd => hc d (List.mem_cons_of_mem _ hd)) h1.2
    refine ⟨?_, h2.2⟩
    show Sf.exS L' (φ k.1, k.2) (Sf.ex1 L' (φ k.1, k.2) (phF φ fs) c) cs = _
    rw [h1.1]
    exact h2.1
theorem Iso.bfs (I : Iso D φ L L') {p : Int} (hp : D p) : ∀ i, bfs L' (φ p) i = phF φ (bfs L p i) ∧ ∀ x ∈ (bfs L p i).map (·.1), D x
  | 0 => ⟨rfl, fun x hx => by rw [List.mem_singleton.mp hx]; exact hp⟩
  | i + 1 => by
    have ih := I.bfs hp i
    have e1 : (Sf.bfs L' (φ p) i)[i]? = ((Sf.bfs L p i)[i]?).map fun k => (φ k.1, k.2) := by
      rw [ih.1]
      unfold phF
      rw [List.getElem?_map]
    cases h : (Sf.bfs L p i)[i]? with
    | none =>
      rw [h] at e1
      rw [bfs_stop (List.getElem?_eq_none_iff.mp h), bfs_stop (List.getElem?_eq_none_iff.mp e1)]
      exact ih
    | some k =>
      rw [h] at e1
      have hk : D k.1 := ih.2 k.1 (List.mem_map.mpr ⟨k, List.mem_of_getElem? h, rfl⟩)
      have e1 : (Sf.bfs L' (φ p) i)[i]? = some (φ k.1, k.2) := e1
      rw [bfs_succ h, bfs_succ e1, ih.1]
      exact I.exS hk sgs _ (fun _ h => h) ih.2
theorem Iso.fin (I : Iso D φ L L') {p : Int} (hp : D p) {fs fs' : List Fd} (h : FinB L p fs) (h' : FinB L' (φ p) fs') : fs' = phF φ fs ∧ ∀ x ∈ fs.map (·.1), D x := by
  obtain ⟨N, rfl, hN⟩ := h
  have hb := I.bfs hp N
  refine ⟨h'.one ⟨N, hb.1.symm, ?_⟩, hb.2⟩
  unfold phF
  rw [List.length_map]
  exact hN
theorem Iso.led (I : Iso D φ L L') : ∀ (l : List Nat) (x : Int), (∀ c ∈ l, c ∈ sgs) → D x → ledM (stp L') l (φ x) = (ledM (stp L) l x).map φ ∧ ∀ e, ledM (stp L) l x = some e → D e
  | [], x, _, hx => ⟨rfl, fun e h => by cases h; exact hx⟩
  | c :: l, x, hl, hx => by
    have h1 := I.st c (hl c List.mem_cons_self) x hx
    show (stp L' c (φ x)).bind (ledM (stp L') l) = ((stp L c x).bind (ledM (stp L) l)).map φ ∧ ∀ e, (stp L c x).bind (ledM (stp L) l) = some e → D e
    rw [h1]
    cases e : stp L c x with
    | none => exact ⟨rfl, fun e h => nomatch h⟩
    | some y => exact I.led l y (fun d hd => hl d (List.mem_cons_of_mem _ hd)) (I.cl c (hl c List.mem_cons_self) x hx y e)
/-! numbers -/
theorem lk_phi {φ : Int → Int} {x : Int} : ∀ {l : List (Int × Int)}, (∀ q ∈ l, φ q.1 = φ x → q.1 = x) → lk (l.map fun q => (φ q.1, q.2)) (φ x) = lk l x
  | [], _ => rfl
  | (a, b) :: r, h => by
    have ih := lk_phi (l := r) fun q hq => h q (List.mem_cons_of_mem _ hq)
    unfold lk at ih ⊢
    rw [List.map_cons, List.find?_cons, List.find?_cons]
    by_cases e : a = x
    · subst e
      rw [decide_eq_true rfl, decide_eq_true rfl]
      rfl
    · rw [decide_eq_false e, decide_eq_false (show ¬ φ a = φ x from fun z => e (h (a, b) List.mem_cons_self z))]
      exact ih
theorem numF_phi (φ : Int → Int) : ∀ (ks : List Int) (o : Int), numF o (ks.map φ) = (numF o ks).map fun q => (φ q.1, q.2)
  | [], _ => rfl
  | k :: ks, o => by
    show (φ k, o) :: numF (o + 1) (ks.map φ) = (φ k, o) :: (numF (o + 1) ks).map _
    rw [numF_phi φ ks (o + 1)]
theorem rk_phi {φ : Int → Int} {ks : List Int} {x : Int} (inj : ∀ y ∈ ks, φ y = φ x → y = x) : rk (ks.map φ) (φ x) = rk ks x := by
  unfold rk numL
  rw [numF_phi, lk_phi fun q hq e => inj q.1 ?_ e]
  have : q.1 ∈ (numF 0 ks).map (·.1) := List.mem_map.mpr ⟨q, hq, rfl⟩
  rw [numF_keys] at this
  exact this
theorem rk_head (x : Int) (ks : List Int) : rk (x :: ks) x = 0 := by
  unfold rk lk numL numF
  rw [List.find?_cons, decide_eq_true rfl]
  rfl
/-- the world that is seen is one that is alike -/
theorem iso_ren {ks : List Int} {L : Nat → List (Int × Int)} (hN : LNd L) (hcl : ∀ c ∈ sgs, ∀ q ∈ L c, q.1 ∈ ks → q.2 ∈ ks) : Iso (· ∈ ks) (rk ks) L (renL ks L) where
  inj := fun x y hx hy e => rk_inj hx hy e
  cl := fun c hc x hx e h => hcl c hc _ (lk_mem h) hx
  st := fun c hc x hx => by
    have un := uniq_of (hN c hc)
    have un2 : ∀ p ∈ renL ks L c, ∀ q ∈ renL ks L c, p.1 = q.1 → p = q := fun a ha b hb e => by
      unfold renL renM at ha hb
      obtain ⟨u, hu, rfl⟩ := List.mem_map.mp ha
      obtain ⟨v, hv, rfl⟩ := List.mem_map.mp hb
      rw [List.mem_filter] at hu hv
      rw [un u hu.1 v hv.1 (rk_inj (of_decide_eq_true hu.2) (of_decide_eq_true hv.2) e)]
    cases e : stp L c x with
    | some y =>
      refine lk_of un2 ?_
      unfold renL renM
      exact List.mem_map.mpr ⟨(x, y), List.mem_filter.mpr ⟨lk_mem e, decide_eq_true hx⟩, rfl⟩
    | none =>
      refine lk_none fun p hp z => ?_
      unfold renL renM at hp
      obtain ⟨u, hu, rfl⟩ := List.mem_map.mp hp
      rw [List.mem_filter] at hu
      have e2 : u.1 = x := rk_inj (of_decide_eq_true hu.2) hx z
      have : stp L c x = some u.2 := lk_of un (by rw [← e2]; exact hu.1)
      rw [e] at this
      cases this
theorem ren_none {ks : List Int} {L : Nat → List (Int × Int)} {c : Nat} {j : Int} (h : ∀ x ∈ ks, rk ks x ≠ j) : stp (renL ks L) c j = none := lk_none fun p hp z => by
  unfold renL renM at hp
  obtain ⟨u, hu, rfl⟩ := List.mem_map.mp hp
  rw [List.mem_filter] at hu
  exact h u.1 (of_decide_eq_true hu.2) z
theorem ren_nd {ks : List Int} {L : Nat → List (Int × Int)} (hN : LNd L) : LNd (renL ks L) := fun c hc => by
  have h := hN c hc
  unfold renL renM
  rw [List.map_map]
  unfold List.Nodup at h ⊢
  rw [List.pairwise_map] at h ⊢
  refine ((h.sublist List.filter_sublist).imp_of_mem (l := (L c).filter _) fun {a b} ha hb hab z => hab ?_)
  exact rk_inj (of_decide_eq_true (List.mem_filter.mp ha).2) (of_decide_eq_true (List.mem_filter.mp hb).2) z
theorem Iso.ren (I : Iso D φ L L') {ks : List Int} (hk : ∀ x ∈ ks, D x) (hN : LNd L) (hN' : LNd L') (hcl : ∀ c ∈ sgs, ∀ q ∈ L c, q.1 ∈ ks → q.2 ∈ ks) (hcl' : ∀ c ∈ sgs, ∀ q ∈ L' c, q.1 ∈ ks.map φ → q.2 ∈ ks.map φ) {c : Nat} (hc : c ∈ sgs) (j : Int) : stp (renL (ks.map φ) L') c j = stp (renL ks L) c j := by
  have rkp : ∀ x ∈ ks, rk (ks.map φ) (φ x) = rk ks x := fun x hx => rk_phi fun y hy e => I.inj y x (hk y hy) (hk x hx) e
  by_cases h : ∃ x ∈ ks, rk ks x = j
  · obtain ⟨x, hx, rfl⟩ := h
    rw [(iso_ren hN hcl).st c hc x hx, ← rkp x hx, (iso_ren hN' hcl').st c hc (φ x) (List.mem_map.mpr ⟨x, hx, rfl⟩), I.st c hc x (hk x hx)]
    cases e : stp L c x with
    | none => rfl
    | some y =>
      have hy := (iso_ren hN hcl).cl c hc x hx y e
      show some (rk (ks.map φ) (φ y)) = some (rk ks y)
      rw [rkp y hy]
  · rw [ren_none fun x hx z => h ⟨x, hx, z⟩, ren_none fun y hy z => ?_]
    obtain ⟨x, hx, rfl⟩ := List.mem_map.mp hy
    exact h ⟨x, hx, by rw [← rkp x hx]; exact z⟩
end
/-! words to places -/
theorem ex1_led {L : Nat → List (Int × Int)} {p : Int} {k : Fd} (hk : ledM (stp L) (tl k.2) p = some k.1) {fs : List Fd} {c : Nat} (h : ∀ q ∈ fs, ledM (stp L) (tl q.2) p = some q.1) : ∀ q ∈ ex1 L k fs c, ledM (stp L) (tl q.2) p = some q.1 := fun q hq => by
  unfold ex1 at hq
  split at hq
  · rename_i e he
    split at hq
    · exact h q hq
    · rcases List.mem_append.mp hq with z | z
      · exact h q z
      · rw [List.mem_singleton.mp z]
        show ledM (stp L) (tl (k.2 ++ one c)) p = some e
        rw [tl_append, tl_one, ledM_app, hk]
        show (stp L c k.1).bind (fun y => some y) = some e
        rw [he]
        rfl
  · exact h q hq
theorem exS_led {L : Nat → List (Int × Int)} {p : Int} {k : Fd} (hk : ledM (stp L) (tl k.2) p = some k.1) : ∀ (cs : List Nat) (fs : List Fd), (∀ q ∈ fs, ledM (stp L) (tl q.2) p = some q.1) → ∀ q ∈ exS L k fs cs, ledM (stp L) (tl q.2) p = some q.1
  | [], fs, h => h
  | c :: cs, fs, h => exS_led hk cs _ (ex1_led hk h)
theorem bfs_led {L : Nat → List (Int × Int)} {p : Int} : ∀ i, ∀ q ∈ bfs L p i, ledM (stp L) (tl q.2) p = some q.1
  | 0 => fun q hq => by
    rw [List.mem_singleton.mp hq]
    show ledM (stp L) (tl (Str.ofString "")) p = some p
    rw [show tl (Str.ofString "") = [] by decide +kernel]
    rfl
  | i + 1 => by
    cases h : (bfs L p i)[i]? with
    | none => rw [bfs_stop (List.getElem?_eq_none_iff.mp h)]; exact bfs_led i
    | some k => rw [bfs_succ h]; exact exS_led (bfs_led i k (List.mem_of_getElem? h)) sgs _ (bfs_led i)
theorem FinB.led {L : Nat → List (Int × Int)} {p : Int} {fs : List Fd} (h : FinB L p fs) : ∀ q ∈ fs, ledM (stp L) (tl q.2) p = some q.1 := by
  obtain ⟨N, rfl, _⟩ := h
  exact bfs_led N
theorem FinB.head {L : Nat → List (Int × Int)} {p : Int} {fs : List Fd} (h : FinB L p fs) : ∃ t, fs = (p, Str.ofString "") :: t := by
  obtain ⟨N, rfl, _⟩ := h
  obtain ⟨t, ht⟩ := bfs_mono (L := L) (p := p) (Nat.zero_le N)
  exact ⟨t, ht.symm⟩
theorem exS_wd {L : Nat → List (Int × Int)} {k : Fd} (hk : Wd k.2) : ∀ (cs : List Nat) (fs : List Fd), (∀ c ∈ cs, c ∈ sgs) → (∀ q ∈ fs, Wd q.2) → ∀ q ∈ exS L k fs cs, Wd q.2
  | [], fs, _, h => h
  | c :: cs, fs, hc, h => exS_wd hk cs _ (fun d hd => hc d (List.mem_cons_of_mem _ hd)) fun q hq => by
    unfold ex1 at hq
    split at hq
    · split at hq
      · exact h q hq
      · rcases List.mem_append.mp hq with z | z
        · exact h q z
        · rw [List.mem_singleton.mp z]
          intro d hd
          have hd : d ∈ tl (k.2 ++ one c) := hd
          rw [tl_append, tl_one] at hd
          rcases List.mem_append.mp hd with y | y
          · exact hk d y
          · rw [List.mem_singleton.mp y]
            exact sgs_iff.mp (hc c List.mem_cons_self)
    · exact h q hq
theorem bfs_wd {L : Nat → List (Int × Int)} {p : Int} : ∀ i, ∀ q ∈ bfs L p i, Wd q.2
  | 0 => fun q hq => by
    rw [List.mem_singleton.mp hq]
    intro d hd
    have hd : d ∈ tl (Str.ofString "") := hd
    rw [show tl (Str.ofString "") = [] by decide +kernel] at hd
    cases hd
  | i + 1 => by
    cases h : (bfs L p i)[i]? with
    | none => rw [bfs_stop (List.getElem?_eq_none_iff.mp h)]; exact bfs_wd i
    | some k => rw [bfs_succ h]; exact exS_wd (bfs_wd i k (List.mem_of_getElem? h)) sgs _ (fun _ h => h) (bfs_wd i)
theorem FinB.wd {L : Nat → List (Int × Int)} {p : Int} {fs : List Fd} (h : FinB L p fs) : ∀ q ∈ fs, Wd q.2 := by
  obtain ⟨N, rfl, _⟩ := h
  exact bfs_wd N
end Sf
namespace Sf
open PySem PySem.Spec PyProof.Rows L2 TL
/-! ### the ways of a round make a tree -/
section
variable {L : Nat → List (Int × Int)} {p : Int}
def TreeF (L : Nat → List (Int × Int)) (fs : List Fd) : Prop := ∀ (j : Nat) (k : Fd), fs[j]? = some k → (j = 0 ∧ k.2 = Str.ofString "") ∨ ∃ (i : Nat) (k' : Fd) (c : Nat), i < j ∧ fs[i]? = some k' ∧ c ∈ sgs ∧ stp L c k'.1 = some k.1 ∧ k.2 = k'.2 ++ one c
theorem ex1_tree {k : Fd} {fs : List Fd} {c : Nat} (hk : ∃ i : Nat, fs[i]? = some k) (hc : c ∈ sgs) (h : TreeF L fs) : TreeF L (ex1 L k fs c) := by
  unfold ex1
  split
  · rename_i e he
    split
    · exact h
    · intro j q hq
      by_cases hj : j < fs.length
      · rw [List.getElem?_append_left hj] at hq
        rcases h j q hq with z | ⟨i, k', d, a1, a2, a3⟩
        · exact .inl z
        · exact .inr ⟨i, k', d, a1, by rw [List.getElem?_append_left (by omega)]; exact a2, a3⟩
      · obtain ⟨i, hi⟩ := hk
        have hil : i < fs.length := (List.getElem?_eq_some_iff.mp hi).1
        rw [List.getElem?_append_right (by omega)] at hq
        have hj0 : j - fs.length = 0 := by
          have := (List.getElem?_eq_some_iff.mp hq).1
          rw [List.length_singleton] at this
          omega
        rw [hj0] at hq
        cases hq
        exact .inr ⟨i, k, c, by omega, by rw [List.getElem?_append_left hil]; exact hi, hc, he, rfl⟩
  · exact h
theorem exS_tree {k : Fd} : ∀ (cs : List Nat) (fs : List Fd), (∀ c ∈ cs, c ∈ sgs) → (∃ i : Nat, fs[i]? = some k) → TreeF L fs → TreeF L (exS L k fs cs)
  | [], _, _, _, h => h
  | c :: cs, fs, hc, hk, h => exS_tree cs _ (fun d hd => hc d (List.mem_cons_of_mem _ hd)) (hk.elim fun i hi => ⟨i, pre_get (ex1_pre k fs c) hi⟩) (ex1_tree hk (hc c List.mem_cons_self) h)
theorem bfs_tree : ∀ i, TreeF L (bfs L p i)
  | 0 => fun j k hk => by
    have hj : j = 0 := by
      have := (List.getElem?_eq_some_iff.mp hk).1
      have : j < 1 := this
      omega
    subst hj
    cases hk
    exact .inl ⟨rfl, rfl⟩
  | i + 1 => by
    cases h : (bfs L p i)[i]? with
    | none => rw [bfs_stop (List.getElem?_eq_none_iff.mp h)]; exact bfs_tree i
    | some k => rw [bfs_succ h]; exact exS_tree sgs _ (fun _ h => h) ⟨i, h⟩ (bfs_tree i)
theorem FinB.tree {fs : List Fd} (h : FinB L p fs) : TreeF L fs := by
  obtain ⟨N, rfl, _⟩ := h
  exact bfs_tree N
theorem fd_at {fs : List Fd} (nd : (fs.map (·.1)).Nodup) {i j : Nat} {k k' : Fd} (hi : fs[i]? = some k) (hj : fs[j]? = some k') (e : k.1 = k'.1) : i = j := by
  have h1 : (fs.map (·.1))[i]? = some k.1 := by rw [List.getElem?_map, hi]; rfl
  have h2 : (fs.map (·.1))[j]? = some k.1 := by rw [List.getElem?_map, hj, e]; rfl
  exact nd_atI nd h1 h2
/-- one word leads to one place -/
theorem FinB.way {fs : List Fd} (h : FinB L p fs) (nd : (fs.map (·.1)).Nodup) {i j : Nat} {k k' : Fd} (hi : fs[i]? = some k) (hj : fs[j]? = some k') (e : k.2 = k'.2) : i = j := by
  refine fd_at nd hi hj ?_
  have h1 := h.led k (List.mem_of_getElem? hi)
  have h2 := h.led k' (List.mem_of_getElem? hj)
  rw [e, h2] at h1
  exact (Option.some.inj h1).symm
theorem snoc_inj {x y : Str} {c d : Nat} (h : x ++ one c = y ++ one d) : x = y ∧ c = d := by
  have e := congrArg tl h
  rw [tl_append, tl_append, tl_one, tl_one] at e
  obtain ⟨e1, e2⟩ := List.append_inj' e rfl
  exact ⟨ext_tl e1, by cases e2; rfl⟩
theorem snoc_ne {x : Str} {c : Nat} : x ++ one c ≠ Str.ofString "" := fun h => by
  have e := congrArg tl h
  rw [tl_append, tl_one, show tl (Str.ofString "") = [] by decide +kernel] at e
  exact List.append_ne_nil_of_right_ne_nil _ (by simp) e
/-- the ways are reduced -/
theorem FinB.rdc {fs : List Fd} (h : FinB L p fs) (hi : Inv1 (stp L)) (nd : (fs.map (·.1)).Nodup) : ∀ (j : Nat) (k : Fd), fs[j]? = some k → Rdc k.2 := by
  intro j
  induction j using Nat.strongRecOn with
  | _ j ih =>
    intro k hk
    rcases h.tree j k hk with ⟨_, e⟩ | ⟨i, k', c, hij, hk', hc, hs, e⟩
    · rw [e]; exact rdc_nil
    · obtain ⟨w1, r1⟩ := ih i hij k' hk'
      refine ⟨h.wd k (List.mem_of_getElem? hk), ?_⟩
      rw [e, tl_append, tl_one, List.reverse_append]
      show RedS (c :: (tl k'.2).reverse)
      cases hr : (tl k'.2).reverse with
      | nil => exact True.intro
      | cons d t =>
        rw [hr] at r1
        refine ⟨fun z => ?_, r1⟩
        rcases h.tree i k' hk' with ⟨_, e0⟩ | ⟨a, k2, b, hai, hk2, hb, hs2, e2⟩
        · rw [e0, show tl (Str.ofString "") = [] by decide +kernel] at hr
          cases hr
        · rw [e2, tl_append, tl_one, List.reverse_append] at hr
          have hbd : b = d := by
            have : b :: (tl k2.2).reverse = d :: t := hr
            exact (List.cons.inj this).1
          have hback := hi b k2.1 k'.1 (sgs_iff.mp hb) hs2
          rw [hbd, z, flip2 (sgs_iff.mp hc), hs] at hback
          have := fd_at nd hk hk2 (Option.some.inj hback)
          omega
/-! ### the moves of the tree -/
def mvW (c a j : Nat) : Mv := if 97 ≤ c then (c, (a : Int), (j : Int)) else (c + 32, (j : Int), (a : Int))
def TrAt (fs : List Fd) (i : Nat) (m : Mv) : Prop := ∃ (j a c : Nat) (k k' : Fd), 1 ≤ j ∧ j ≤ i ∧ a < j ∧ fs[j]? = some k ∧ fs[a]? = some k' ∧ c ∈ sgs ∧ k.2 = k'.2 ++ one c ∧ m = mvW c a j
theorem TrAt.zero {fs : List Fd} {m : Mv} : ¬ TrAt fs 0 m := fun ⟨j, a, c, k, k', h1, h2, _⟩ => by omega
theorem TrAt.mono {fs : List Fd} {i : Nat} {m : Mv} : TrAt fs i m → TrAt fs (i + 1) m := fun ⟨j, a, c, k, k', h1, h2, h3⟩ => ⟨j, a, c, k, k', h1, by omega, h3⟩
theorem mvW_new {fs : List Fd} {i a c : Nat} (ha : a < i + 1) (hc : c ∈ sgs) : ¬ TrAt fs i (mvW c a (i + 1)) := fun ⟨j, a', c', k, k', h1, h2, h3, _, _, hc', _, e⟩ => by
  have b1 := sgn_iff.mp (sgs_iff.mp hc)
  have b2 := sgn_iff.mp (sgs_iff.mp hc')
  unfold mvW at e
  split at e <;> split at e
  · have := (Prod.mk.inj (Prod.mk.inj e).2).2
    omega
  · have := (Prod.mk.inj (Prod.mk.inj e).2).2
    omega
  · have := (Prod.mk.inj (Prod.mk.inj e).2).1
    omega
  · have := (Prod.mk.inj (Prod.mk.inj e).2).1
    omega
theorem TrAt.succ {fs : List Fd} {i a c : Nat} {k k' : Fd} (ha : a < i + 1) (hk : fs[i + 1]? = some k) (hk' : fs[a]? = some k') (hc : c ∈ sgs) (e : k.2 = k'.2 ++ one c) (nd : ∀ {x y : Nat} {q q' : Fd}, fs[x]? = some q → fs[y]? = some q' → q.2 = q'.2 → x = y) {m : Mv} : TrAt fs (i + 1) m ↔ TrAt fs i m ∨ m = mvW c a (i + 1) := by
  constructor
  · rintro ⟨j, b, d, q, q', h1, h2, h3, h4, h5, h6, h7, h8⟩
    by_cases hj : j = i + 1
    · subst hj
      rw [hk] at h4
      cases h4
      obtain ⟨e1, e2⟩ := snoc_inj (e.symm.trans h7)
      have := nd hk' h5 e1
      subst this e2
      exact .inr h8
    · exact .inl ⟨j, b, d, q, q', h1, by omega, h3, h4, h5, h6, h7, h8⟩
  · rintro (z | rfl)
    · exact z.mono
    · exact ⟨i + 1, a, c, k, k', by omega, Nat.le_refl _, ha, hk, hk', hc, e, rfl⟩
/-- the moves of the tree, told by the words -/
theorem fin_trAt {fs : List Fd} (h : FinB L p fs) (nd : (fs.map (·.1)).Nodup) {l s e : Nat} {ks ke : Fd} (hl : l ∈ smls) (hs : fs[s]? = some ks) (he : fs[e]? = some ke) :
    TrAt fs (fs.length - 1) (l, (s : Int), (e : Int)) ↔ ke.2 = ks.2 ++ one l ∨ ks.2 = ke.2 ++ one (l - 32) := by
  have hl' := smls_iff.mp hl
  constructor
  · rintro ⟨j, a, c, k, k', h1, h2, h3, h4, h5, hc, h7, h8⟩
    unfold mvW at h8
    split at h8
    · obtain ⟨e1, e2⟩ := Prod.mk.inj h8
      obtain ⟨e2, e3⟩ := Prod.mk.inj e2
      have e2 : s = a := by omega
      have e3 : e = j := by omega
      subst e1 e2 e3
      rw [hs] at h5
      rw [he] at h4
      cases h5
      cases h4
      exact .inl h7
    · obtain ⟨e1, e2⟩ := Prod.mk.inj h8
      obtain ⟨e2, e3⟩ := Prod.mk.inj e2
      have e2 : s = j := by omega
      have e3 : e = a := by omega
      subst e1 e2 e3
      rw [hs] at h4
      rw [he] at h5
      cases h5
      cases h4
      rw [Nat.add_sub_cancel]
      exact .inr h7
  · rintro (z | z)
    · rcases h.tree e ke he with ⟨_, e0⟩ | ⟨a, k', c, hae, hk', hc, _, e1⟩
      · exact absurd (z.symm.trans e0) snoc_ne
      · obtain ⟨e2, e3⟩ := snoc_inj (z.symm.trans e1)
        have := h.way nd hs hk' e2
        subst this e3
        have hlen := (List.getElem?_eq_some_iff.mp he).1
        exact ⟨e, s, l, ke, k', by omega, by omega, hae, he, hk', hc, e1, by unfold mvW; rw [if_pos hl'.1]⟩
    · rcases h.tree s ks hs with ⟨_, e0⟩ | ⟨a, k', c, hae, hk', hc, _, e1⟩
      · exact absurd (z.symm.trans e0) snoc_ne
      · obtain ⟨e2, e3⟩ := snoc_inj (z.symm.trans e1)
        have := h.way nd he hk' e2
        subst this e3
        have hlen := (List.getElem?_eq_some_iff.mp hs).1
        refine ⟨s, e, l - 32, ks, k', by omega, by omega, hae, hs, hk', hc, e1, ?_⟩
        unfold mvW
        rw [if_neg (by omega), show l - 32 + 32 = l by omega]
/-! ### the makers -/
def mkT (x : Str) (c : Nat) (y : Str) : Str := shortT (x ++ one c ++ backT y)
theorem rdc_short {t : Str} (h : Rdc t) : shortT t = t := by
  show mkS (shortL (tl t)) = t
  unfold shortL
  rw [run_self h, List.reverse_reverse, mkS_tl]
theorem one_rdc {c : Nat} (hc : sgn c = true) : Rdc (one c) := ⟨wd_one hc, by rw [tl_one]; exact True.intro⟩
theorem mk_glued {x y : Str} {c : Nat} (hx : Rdc x) (hy : Rdc y) (hc : sgn c = true) : gluT (gluT x (one c)) (backT y) = mkT x c y := by
  have h1 : gluT x (one c) = shortT (x ++ one c) := by
    have := glu_shortT hx.1 (wd_one hc)
    rw [rdc_short hx, rdc_short (one_rdc hc)] at this
    exact this
  have hb := back_rdc hy
  have h3 := glu_shortT (hx.1.app (wd_one hc)) hb.1
  rw [rdc_short hb, ← h1] at h3
  exact h3
/-- the word of a maker leads home -/
theorem mk_home {x y : Str} {c : Nat} {s e : Int} (hi : Inv1 (stp L)) (hx : Wd x) (hy : Wd y) (hc : sgn c = true) (h1 : ledM (stp L) (tl x) p = some s) (h2 : stp L c s = some e) (h3 : ledM (stp L) (tl y) p = some e) : ledM (stp L) (tl (mkT x c y)) p = some p := by
  have hb : ledM (stp L) (backL (tl y)) e = some p := led_back hi hy h3
  have hw : ledM (stp L) (tl (x ++ one c ++ backT y)) p = some p := by
    rw [tl_append, tl_append, tl_one, ledM_app, ledM_app, h1]
    show (((stp L c s).bind fun z => some z).bind _) = _
    rw [h2]
    exact hb
  have hW : Wd (x ++ one c ++ backT y) := (hx.app (wd_one hc)).app (backT_wd hy)
  unfold mkT
  generalize x ++ one c ++ backT y = v at hw hW
  have key : ∀ (n : Nat) (l : List Nat) (q : Int), l.length = n → Sg l → ledM (stp L) l p = some q → ledM (stp L) (shortL l) p = some q := by
    intro n
    induction n with
    | zero =>
      intro l q hl _ h
      have : l = [] := List.eq_nil_of_length_eq_zero hl
      subst this
      exact h
    | succ n ih =>
      intro l q hl hs h
      rcases List.eq_nil_or_concat l with rfl | ⟨m, d, rfl⟩
      · cases hl
      · rw [List.concat_eq_append] at h hl hs ⊢
        rw [List.length_append] at hl
        rw [ledM_app] at h
        obtain ⟨r, h4, h5⟩ := Option.bind_eq_some_iff.mp h
        have h5 : stp L d r = some q := by rw [← led_one (st := stp L)]; exact h5
        have hm : Sg m := fun z hz => hs z (List.mem_append_left _ hz)
        have hd : sgn d = true := hs d (List.mem_append_right _ (List.mem_singleton.mpr rfl))
        rw [shortL_snoc]
        rcases led_push hi (shortL_sg hm) hd (ih m r (by simpa using hl) hm h4) with z | ⟨_, z⟩ <;> rw [z, h5]
  exact key _ _ _ rfl hW hw
end
end Sf
namespace Sf
open PySem PySem.Spec PyProof.Rows L2 TL
/-! ### dicts whose keys are motions: tuples of ints and None -/
abbrev Mot := List Leaf
abbrev lfO : Leaf → Leaf := fun x => x
def lV : Leaf → V
  | .none => .non
  | .num i => .int i
  | .text x => .str x
theorem lfs_inj {a b : Mot} (h : a.map lfO = b.map lfO) : a = b := by
  rw [show a.map lfO = a from List.map_id' a, show b.map lfO = b from List.map_id' b] at h
  exact h
abbrev mK (P : Program) (w : World) : HeapKind P w (List Leaf) := tupleKind (leafKind P w)
/-- an entry: the key, where its tuple stands, the value -/
abbrev DE := Mot × Addr × V
def DEr (p : DE) (q : List Leaf × Addr × Value) : Prop := p.1.map lfO = q.1 ∧ p.2.1 = q.2.1 ∧ RelV p.2.2 q.2.2
def DN (P : Program) (w : World) (d : Addr) (xs : List DE) : HO := .ext fun h => xs.length ≤ sizeLine ∧ (d == sysModules) = false ∧ (xs.map (·.1)).Nodup ∧ ∃ ys, Paired DEr xs ys ∧ ∃ o es ep, h.get? d = some o ∧ o.ExactDict ∧ o.data = .dict es ep ∧ es.toList = ys.map (entryOfKey (mK P w))
/-- the keys' tuples are tracked beside the dict -/
def KeysAt (H : Hp) (xs : List DE) : Prop := ∀ x ∈ xs, H x.2.1 = some (.tup (x.1.map lV))
theorem KeysAt.tps {H H' : Hp} {xs : List DE} (h : KeysAt H xs) (t : ∀ c ys, H c = some (.tup ys) → H' c = some (.tup ys)) : KeysAt H' xs := fun x hx => t _ _ (h x hx)
theorem KeysAt.snoc {H : Hp} {xs : List DE} (h : KeysAt H xs) {m : Mot} {a : Addr} {v : V} (e : H a = some (.tup (m.map lV))) : KeysAt H (xs ++ [(m, a, v)]) := fun x hx => by
  rcases List.mem_append.mp hx with hx | hx
  · exact h x hx
  · rw [List.mem_singleton.mp hx]; exact e
theorem oV_leaf {a : Leaf} {u : Value} (r : RelV (lV a) u) : Leaf.isOf (lfO a) u = true := by
  cases a with
  | none =>
    have : u = .none := r
    subst this
    rfl
  | num i =>
    obtain ⟨t, rfl⟩ : ∃ t, u = .int i t := r
    exact decide_eq_true rfl
  | text x =>
    obtain ⟨t, rfl⟩ : ∃ t, u = .str x t := r
    exact decide_eq_true rfl
theorem items_leaf {P : Program} {w : World} : ∀ {m : Mot} {us : List Value}, Vals (m.map lV) us → ItemsAre (leafKind P w) (m.map lfO) us
  | [], _, r => by rw [List.map_nil] at r; cases r; exact .nil
  | _ :: _, _, r => by
    rw [List.map_cons] at r
    cases r with
    | cons h t => exact .cons (oV_leaf h) (items_leaf t)
section
variable {P : Program} {w : World} {H : Hp} {h : Heap} {a d : Addr} {m : Mot} {xs : List DE}
theorem key_mot (ok : HOk P w H h) (e : H a = some (.tup (m.map lV))) : (mK P w).is h (m.map lfO) a := by
  obtain ⟨_, its, r, o, h1, h2, n, h3⟩ := (show ObjOk P w H h a (.tup (m.map lV)) from ok a _ e)
  exact ⟨o, its.toArray, n, h1, h2, h3, by simpa using items_leaf r⟩
theorem der_keys {xs : List DE} {ys : List (List Leaf × Addr × Value)} (r : Paired DEr xs ys) : ys.map (·.1) = (xs.map (·.1)).map fun m => m.map lfO := by
  induction r with
  | nil => rfl
  | cons h t ih => rw [List.map_cons, List.map_cons, List.map_cons, ih, h.1]
theorem nodup_lf {ms : List Mot} (h : ms.Nodup) : (ms.map fun (m : Mot) => m.map lfO).Nodup := List.pairwise_map.mpr (h.imp fun ne e => ne (lfs_inj e))
theorem der_mem {xs : List DE} {ys : List (List Leaf × Addr × Value)} (r : Paired DEr xs ys) : ∀ y ∈ ys, ∃ x ∈ xs, DEr x y := by
  induction r with
  | nil => intro y hy; cases hy
  | cons h t ih =>
    intro y hy
    rcases List.mem_cons.mp hy with rfl | hy
    · exact ⟨_, List.mem_cons_self, h⟩
    · obtain ⟨x, hx, hr⟩ := ih y hy
      exact ⟨x, List.mem_cons_of_mem _ hx, hr⟩
theorem dn_of (ok : HOk P w H h) (e : H d = some (DN P w d xs)) (hk : KeysAt H xs) : xs.length ≤ sizeLine ∧ (d == sysModules) = false ∧ (xs.map (·.1)).Nodup ∧ ∃ ys, Paired DEr xs ys ∧ h.DictOfH (mK P w) d ys := by
  obtain ⟨⟨hl, hd, hn, ys, r, o, es, ep, h1, h2, h3, h4⟩, _, _⟩ := (show ObjOk P w H h d (DN P w d xs) from ok d _ e)
  refine ⟨hl, hd, hn, ys, r, o, es, ep, h1, h2, h3, h4, fun y hy => ?_, ?_⟩
  · obtain ⟨x, hx, e1, e2, _⟩ := der_mem r y hy
    rw [← e1, ← e2]
    exact key_mot ok (hk x hx)
  · rw [der_keys r]
    exact nodup_lf hn
theorem dn_ok {H' : Hp} {h' : Heap} {ys : List (List Leaf × Addr × Value)} (hl : xs.length ≤ sizeLine) (hd : (d == sysModules) = false) (hn : (xs.map (·.1)).Nodup) (r : Paired DEr xs ys) (dd : h'.DictOfH (mK P w) d ys) : ObjOk P w H' h' d (DN P w d xs) := by
  obtain ⟨o, es, ep, h1, h2, h3, h4, _, _⟩ := dd
  refine ⟨⟨hl, hd, hn, ys, r, o, es, ep, h1, h2, h3, h4⟩, ⟨o, h1⟩, fun g1 g2 ⟨a1, a2, a3, zs, a4, o', es', ep', b1, b2, b3, b4⟩ st => ⟨a1, a2, a3, zs, a4, o', es', ep', st _ b1, b2, b3, b4⟩⟩
/-- where the key stands, and its value -/
def valN (xs : List DE) (m : Mot) : Option (Addr × V) := (xs.find? fun x => decide (x.1 = m)).map (·.2)
theorem valN_rel {xs : List DE} {ys : List (List Leaf × Addr × Value)} (r : Paired DEr xs ys) (m : Mot) : (valN xs m = none ∧ atKey ys (m.map lfO) = none) ∨ ∃ p q, valN xs m = some p ∧ atKey ys (m.map lfO) = some q ∧ p.1 = q.1 ∧ RelV p.2 q.2 := by
  induction r with
  | nil => exact .inl ⟨rfl, rfl⟩
  | @cons p q ps qs h t ih =>
    obtain ⟨e1, e2, e3⟩ := h
    by_cases e : p.1 = m
    · have e' : q.1 = m.map lfO := by rw [← e1, e]
      refine .inr ⟨p.2, q.2, ?_, ?_, e2, e3⟩
      · unfold valN; rw [List.find?_cons, decide_eq_true e]; rfl
      · unfold atKey; rw [List.find?_cons, decide_eq_true e']; rfl
    · have e' : ¬ q.1 = m.map lfO := fun z => e (lfs_inj (e1.trans z))
      have v1 : valN (p :: ps) m = valN ps m := by unfold valN; rw [List.find?_cons, decide_eq_false e]
      have v2 : atKey (q :: qs) (m.map lfO) = atKey qs (m.map lfO) := by unfold atKey; rw [List.find?_cons, decide_eq_false e']
      rw [v1, v2]
      exact ih
theorem valN_none {xs : List DE} {m : Mot} : valN xs m = none ↔ m ∉ xs.map (·.1) := by
  unfold valN
  rw [Option.map_eq_none_iff, List.find?_eq_none]
  constructor
  · intro h z
    obtain ⟨x, hx, rfl⟩ := List.mem_map.mp z
    exact h x hx (decide_eq_true rfl)
  · intro h x hx z
    exact h (List.mem_map.mpr ⟨x, hx, of_decide_eq_true z⟩)
end
/-! the rules -/
section
variable {X : Cx} {pins : List (Addr × Obj)} {σ : L2.St} {H : Hp} {s : Shared} {d b : Addr} {m : Mot} {xs : List DE} {A : Around} {E : Value → Shared → Prop}
theorem d_notInN {Q : Value → Shared → Prop} (hu : A.units + 1 < cLine) (I : Inv X pins σ H s) (e : H d = some (DN X.prog X.w d xs)) (hk : KeysAt H xs) (eb : H b = some (.tup (m.map lV))) (h : ∀ s', Inv X pins σ H s' → Q (.bool (!(valN xs m).isSome)) s') :
    wpAny (model X.prog X.w) A (compareOp .NotIn (.ref b) (.ref d)) Q E s := by
  obtain ⟨hl, hd, hn, ys, r, dd⟩ := dn_of I.hok e hk
  refine wpAny_notIn_heap (tupleKind_room_in1 hu) (key_mot I.hok eb) hd dd ?_
  have := h _ (I.tok (s.toks + (mK X.prog X.w).draws (m.map lfO)))
  rcases valN_rel r m with ⟨v1, v2⟩ | ⟨p, q, v1, v2, _⟩ <;> (rw [v1] at this; rw [v2]; exact this)
theorem d_getN {Q : Value → Shared → Prop} {p : Addr × V} (hu : A.units + 1 < cLine) (I : Inv X pins σ H s) (e : H d = some (DN X.prog X.w d xs)) (hk : KeysAt H xs) (eb : H b = some (.tup (m.map lV))) (hv : valN xs m = some p) (h : ∀ u s', Inv X pins σ H s' → RelV p.2 u → Q u s') :
    wpAny (model X.prog X.w) A (getItem (.ref d) (.ref b)) Q E s := by
  obtain ⟨hl, hd, hn, ys, r, dd⟩ := dn_of I.hok e hk
  rcases valN_rel r m with ⟨v1, _⟩ | ⟨p', q, v1, v2, _, rv⟩
  · rw [v1] at hv; cases hv
  · rw [v1] at hv
    cases hv
    exact wpAny_getItem_heap (tupleKind_room_in1 hu) (key_mot I.hok eb) dd v2 (h _ _ (I.tok _) rv)
/-- d[k] = v, a new key -/
theorem d_putN {Q : Unit → Shared → Prop} {v : V} {u : Value} (hu : A.units + 1 < cLine) (I : Inv X pins σ H s) (e : H d = some (DN X.prog X.w d xs)) (hk : KeysAt H xs) (eb : H b = some (.tup (m.map lV))) (hv : valN xs m = none) (hl : xs.length < sizeLine) (rv : RelV v u)
    (h : ∀ s', Inv X pins σ (upd H d (DN X.prog X.w d (xs ++ [(m, b, v)]))) s' → Q () s') : wpAny (model X.prog X.w) A (setItem (.ref d) (.ref b) u) Q E s := by
  obtain ⟨_, hd, hn, ys, r, dd⟩ := dn_of I.hok e hk
  have v2 : atKey ys (m.map lfO) = none := by
    rcases valN_rel r m with ⟨_, v2⟩ | ⟨p, q, v1, _⟩
    · exact v2
    · rw [v1] at hv; cases hv
  have ly := Paired.length r
  refine wpAny_setItem_heap (hsz := by omega) (tupleKind_room_in1 hu) (key_mot I.hok eb) dd fun h' dd' hs => h _ ?_
  rw [storedH_new v2] at dd'
  have r' : Paired DEr (xs ++ [(m, b, v)]) (ys ++ [(m.map lfO, b, u)]) := Paired.snoc r ⟨rfl, rfl, rv⟩
  have hn' : ((xs ++ [(m, b, v)]).map (·.1)).Nodup := by
    rw [List.map_append, List.nodup_append]
    refine ⟨hn, List.pairwise_singleton _ _, fun x hx y hy z => ?_⟩
    rw [z, List.mem_singleton.mp hy] at hx
    exact valN_none.mp hv hx
  obtain ⟨q, hq⟩ : ∃ q, h'.get? d = some q := let ⟨q, _, _, hq, _⟩ := dd'; ⟨q, hq⟩
  exact d_write I (by rw [e]; exact True.intro) hs ⟨q, hq⟩ (dn_ok (by rw [List.length_append]; show xs.length + 1 ≤ _; omega) hd hn' r' dd')
end
end Sf
namespace Sf
open PySem PySem.Spec PyProof.Rows L2 TL
theorem paired_atN {α β : Type} {R : α → β → Prop} : ∀ {as : List α} {bs : List β} {i : Nat} {a : α}, Paired R as bs → as[i]? = some a → ∃ b, bs[i]? = some b ∧ R a b
  | _, _, _, _, .nil, e => by simp at e
  | _, _, 0, _, .cons r _, e => by simp at e; subst e; exact ⟨_, rfl, r⟩
  | _, _, i + 1, x, .cons _ t, e => by
    obtain ⟨u, h1, h2⟩ := paired_atN (i := i) (a := x) t (by simpa using e)
    exact ⟨u, by simpa using h1, h2⟩
/-! ### the rules as readings -/
def kNotInN (P : Program) (w : World) (y x : V) (Q : VK) : Hp → Prop := fun H2 => ∃ (d b : Addr) (xs : List DE) (m : Mot), x = .ref d ∧ y = .ref b ∧ H2 d = some (DN P w d xs) ∧ KeysAt H2 xs ∧ H2 b = some (.tup (m.map lV)) ∧ Q (.bl (!(valN xs m).isSome)) H2
def tNotInN (P : Program) (w : World) (ty td : TE) : TE := fun σ H Q => ty σ H fun y H1 => td σ H1 fun x H2 => kNotInN P w y x Q H2
def kGetN (P : Program) (w : World) (x y : V) (Q : VK) : Hp → Prop := fun H2 => ∃ (d b : Addr) (xs : List DE) (m : Mot) (p : Addr × V), x = .ref d ∧ y = .ref b ∧ H2 d = some (DN P w d xs) ∧ KeysAt H2 xs ∧ H2 b = some (.tup (m.map lV)) ∧ valN xs m = some p ∧ Q p.2 H2
def tGetN (P : Program) (w : World) (td ty : TE) : TE := fun σ H Q => td σ H fun x H1 => ty σ H1 fun y H2 => kGetN P w x y Q H2
def kPutN (P : Program) (w : World) (n : L2.St → Hp → Prop) (σ : L2.St) (x y v : V) : Hp → Prop := fun H3 => ∃ (d b : Addr) (xs : List DE) (m : Mot), x = .ref d ∧ y = .ref b ∧ H3 d = some (DN P w d xs) ∧ KeysAt H3 xs ∧ H3 b = some (.tup (m.map lV)) ∧ valN xs m = none ∧ xs.length < sizeLine ∧ n σ (upd H3 d (DN P w d (xs ++ [(m, b, v)])))
def sPutN (P : Program) (w : World) (td ty tv : TE) : TS := fun D σ H => tv σ H fun v H1 => td σ H1 fun x H2 => ty σ H2 fun y H3 => kPutN P w D.nx σ x y v H3
def tDispN (P : Program) (w : World) (tk tv : TE) : TE := fun σ H Q => ∀ p, H p = none → tk σ (upd H p (DN P w p [])) fun x H1 => tv σ H1 fun y H2 => H2 p = some (DN P w p []) ∧ ∃ (b : Addr) (m : Mot), x = .ref b ∧ H2 b = some (.tup (m.map lV)) ∧ Q (.ref p) (upd H2 p (DN P w p [(m, b, y)]))
section
variable {X : Cx} {o i value k v : Expr} {td ty tv tk : TE} {pos pos' : Pos}
theorem dn_type {pins : List (Addr × Obj)} {σ : L2.St} {H : Hp} {s : Shared} {d : Addr} {xs : List DE} (I : Inv X pins σ H s) (e : H d = some (DN X.prog X.w d xs)) : s.TypeIs (.ref d) "dict" := by
  obtain ⟨⟨_, _, _, _, _, o, _, _, h1, h2, _⟩, _, _⟩ := (show ObjOk X.prog X.w H s.heap d (DN X.prog X.w d xs) from I.hok d _ e)
  exact ⟨o, h1, h2.1⟩
theorem pc_notInN (hu : X.A.units + 1 < cLine) (hi : PE X i ty) (ho : PE X o td) : PC X .NotIn i o (tNotInN X.prog X.w ty td) := by
  refine ⟨fun pins s σ H Q I h => thn (hi.run pins s σ H _ I h) fun iv s1 ⟨y, H1, I1, ry, q1⟩ => thn (ho.run pins s1 σ H1 _ I1 q1) fun u s2 ⟨x, H2, I2, rx, q2⟩ => ?_⟩
  obtain ⟨d, b, xs, m, rfl, rfl, e, hk, eb, q⟩ := q2
  cases rx
  cases ry
  exact d_notInN hu I2 e hk eb fun s3 I3 => ⟨.bl _, H2, I3, rfl, q⟩
theorem pe_getN (hu : X.A.units + 1 < cLine) (ho : PE X o td) (hi : PE X i ty) (hs : NoSl i) : PE X (.Subscript o i pos) (tGetN X.prog X.w td ty) := by
  refine ⟨fun pins s σ H Q I h => subD_of PySem.F.slot_dict_getitem.lookup hs (thn (ho.run pins s σ H _ I h) fun u s1 ⟨x, H1, I1, rx, q1⟩ => thn (hi.run pins s1 σ H1 _ I1 q1) fun iv s2 ⟨y, H2, I2, ry, q2⟩ => ?_)⟩
  obtain ⟨d, b, xs, m, p, rfl, rfl, e, hk, eb, hv, q⟩ := q2
  cases rx
  cases ry
  exact ⟨dn_type I2 e, d_getN hu I2 e hk eb hv fun u s3 I3 ru => ⟨_, H2, I3, ru, q⟩⟩
theorem ps_putN (hu : X.A.units + 1 < cLine) (ho : PE X o td) (hi : PE X i ty) (hv : PE X value tv) (hs : swapsWith value (some (.Subscript o i pos')) pos.line X.env = pure false) :
    PS X (.Assign [.Subscript o i pos'] value pos) (sPutN X.prog X.w td ty tv) := by
  refine ⟨fun pins s σ H D I h => wpAny_Assign_Subscript (thn (hv.run pins s σ H _ I h) fun r s1 ⟨v, H1, I1, rv, q1⟩ => thn (ho.run pins s1 σ H1 _ I1 q1) fun u s2 ⟨x, H2, I2, rx, q2⟩ => thn (hi.run pins s2 σ H2 _ I2 q2) fun iv s3 ⟨y, H3, I3, ry, q3⟩ => ?_) hs⟩
  obtain ⟨d, b, xs, m, rfl, rfl, e, hk, eb, hn, hl, q⟩ := q3
  cases rx
  cases ry
  exact d_putN hu I3 e hk eb hn hl rv fun s4 I4 => ⟨σ, _, I4, q⟩
theorem dn_new {P : Program} {w : World} {H : Hp} (h : Heap) (hb : sysModules < h.objs.size) : ObjOk P w H (h.push { cls := .type "dict", data := .dict #[] }) h.objs.size (DN P w h.objs.size []) :=
  dn_ok (Nat.zero_le _) (beq_eq_false_iff_ne.mpr (Ne.symm (Nat.ne_of_lt hb))) List.nodup_nil .nil (Heap.DictOfH.new h)
theorem pe_dispN (hu : X.A.units + 1 < cLine) (hk : PE X k tk) (hv : PE X v tv) : PE X (.Dict [some k] [v] pos) (tDispN X.prog X.w tk tv) := by
  refine ⟨fun pins s σ H Q I q => ?_⟩
  have hn := I.hok.fresh (Nat.le_refl s.heap.objs.size)
  have I1 := I.laid (a := s.heap.objs.size) (o := DN X.prog X.w s.heap.objs.size []) (h' := s.heap.push { cls := .type "dict", data := .dict #[] }) (t' := s.toks) (fun _ _ q => Heap.get?_push_of_some _ q) (Nat.le_refl _) (dn_new s.heap I.big)
  rw [arm_eval_Dict, zip_pairTrees [some k] [v] X.env pos rfl rfl, dictDisplay_pairs (pairTrees [some k] [v] X.env pos) (fun z => by cases z) (by rw [pairTrees_length _ _ _ _ rfl rfl]; show 1 < 17; decide)]
  refine wpAny_bind (wpAny_standAt (wpAny_bind (wpAny_subDictH (knd := mK X.prog X.w) (show X.A.units < cLine by omega) (by rw [pairTrees_length _ _ _ _ rfl rfl]; show 1 ≤ 15; decide) ?_)))
  refine pairTrees_cons_walk (thn (hk.run pins _ σ _ _ I1 (q _ hn)) fun u s1 ⟨x, H1, I2, rx, q1⟩ => thn (hv.run pins s1 σ H1 _ I2 q1) fun u2 s2 ⟨y, H2, I3, ry, e, b, m, ex, eb, q2⟩ => pairTrees_nil_walk ?_)
  subst ex
  cases rx
  obtain ⟨_, hd, _, ys, r, dd⟩ := dn_of I3.hok e (fun x hx => by cases hx)
  cases r
  refine ⟨[(m.map lfO, b, u2)], ⟨rfl, rfl, key_mot I3.hok eb, trivial⟩, dd, fun h' tk dd' hs => wpAny_pure ⟨.ref s.heap.objs.size, _, ?_, rfl, q2⟩⟩
  obtain ⟨w', hw⟩ : ∃ w', h'.get? s.heap.objs.size = some w' := let ⟨w', _, _, hw, _⟩ := dd'; ⟨w', hw⟩
  exact d_write I3 (by rw [e]; exact True.intro) hs ⟨w', hw⟩ (dn_ok (xs := [(m, b, y)]) (by show 1 ≤ sizeLine; decide) hd (List.pairwise_singleton _ _) (.cons ⟨rfl, rfl, ry⟩ .nil) dd')
/-! len(d), list(d) -/
def rLenN (P : Program) (w : World) : List V → Hp → VK → Prop := fun vs H Q => ∃ (d : Addr) (xs : List DE), vs = [.ref d] ∧ H d = some (DN P w d xs) ∧ KeysAt H xs ∧ Q (.int ((xs.length : Nat) : Int)) H
theorem call_lenN : CallR X (.builtin "len") (rLenN X.prog X.w) := by
  intro pins s σ H vs us Q I r h
  obtain ⟨d, xs, rfl, e, hk, q⟩ := h
  obtain ⟨u, rfl, rx⟩ := r.one
  cases rx
  obtain ⟨hl, hd, _, ys, rr, dd⟩ := dn_of I.hok e hk
  have ly := Paired.length rr
  refine call_len_dictH hd dd (by rw [← ly]; rw [sizeLine_eq] at hl; omega) ?_
  rw [← ly]
  exact ⟨.int ((xs.length : Nat) : Int), H, I.tok _, ⟨_, rfl⟩, q⟩
def rListN (P : Program) (w : World) : List V → Hp → VK → Prop := fun vs H Q => ∃ (d : Addr) (xs : List DE), vs = [.ref d] ∧ H d = some (DN P w d xs) ∧ ∀ p, H p = none → Q (.ref p) (upd H p (.lst (xs.map fun x => .ref x.2.1)))
theorem call_listN (hc : X.calm = true) : CallR X (.type "list") (rListN X.prog X.w) := by
  intro pins s σ H vs us Q I r h
  obtain ⟨d, xs, rfl, e, q⟩ := h
  obtain ⟨u, rfl, rx⟩ := r.one
  cases rx
  obtain ⟨⟨hl, hd, _, ys, rr, o, es, ep, h1, h2, h3, h4⟩, _, _⟩ := (show ObjOk X.prog X.w H s.heap d (DN X.prog X.w d xs) from I.hok d _ e)
  have le : es.size = ys.length := by rw [← Array.length_toList, h4, List.length_map]
  have ly := Paired.length rr
  refine PySem.W.kdl_call (kdl_raw hd h2 h3) (I.ok.hd hc) h1 (by omega) fun h' tk acc' c' kp e2 it => ?_
  have ea : acc'.toList = (xs.map fun x => x.2.1).map Value.ref := by
    have hlen : acc'.toList.length = xs.length := by rw [Array.length_toList, it.1, le, ly]
    apply List.ext_getElem?
    intro j
    cases hj : acc'.toList[j]? with
    | none =>
      have := List.getElem?_eq_none_iff.mp hj
      rw [List.getElem?_eq_none (by rw [List.length_map, List.length_map]; omega)]
    | some v =>
      have hjl : j < xs.length := by rw [← hlen]; exact (List.getElem?_eq_some_iff.mp hj).1
      obtain ⟨en, hen, hv⟩ := it.2 j v (by rw [← Array.getElem?_toList]; exact hj)
      rw [← Array.getElem?_toList, h4, List.getElem?_map] at hen
      obtain ⟨y, hy, rfl⟩ := Option.map_eq_some_iff.mp hen
      have hx : xs[j]? = some xs[j] := List.getElem?_eq_getElem hjl
      obtain ⟨y', hy', hr⟩ : ∃ y', ys[j]? = some y' ∧ DEr xs[j] y' := paired_atN rr hx
      rw [hy] at hy'
      cases hy'
      rw [List.getElem?_map, List.getElem?_map, hx, hv]
      show some (Value.ref y.2.1) = some (Value.ref (xs[j]).2.1)
      rw [hr.2.1]
  have rv : ∀ l : List DE, Vals (l.map fun x => V.ref x.2.1) ((l.map fun x => x.2.1).map Value.ref) := fun l => by
    induction l with
    | nil => exact .nil
    | cons x l ih => exact .cons rfl ih
  refine ⟨.ref s.heap.objs.size, _, I.laid (t' := tk) (o := .lst (xs.map fun x => V.ref x.2.1)) kp (Nat.le_refl _) ?_, rfl, q _ (I.hok.fresh (Nat.le_refl _))⟩
  exact ⟨by rw [List.length_map]; exact hl, acc'.toList, c', by rw [ea]; exact rv xs, by rw [Array.toArray_toList]; exact e2⟩
/-! {} -/
def tDNewN (P : Program) (w : World) : TE := fun _ H Q => ∀ p, H p = none → Q (.ref p) (upd H p (DN P w p []))
theorem pe_dnewN : PE X (.Dict [] [] pos) (tDNewN X.prog X.w) := ⟨fun pins s σ H Q I h =>
  wpAny_Dict_empty ⟨.ref s.heap.objs.size, _, I.laid (a := s.heap.objs.size) (o := DN X.prog X.w s.heap.objs.size []) (t' := s.toks) (fun _ _ q => Heap.get?_push_of_some _ q) (Nat.le_refl _) (dn_new s.heap I.big), rfl, h _ (I.hok.fresh (Nat.le_refl _))⟩⟩
end
section
variable {σ : L2.St} {H : Hp} {Q : VK} {P : Program} {w : World} {d b : Addr} {xs : List DE} {m : Mot}
theorem w_dnewN (k : ∀ p H1, H1 p = some (DN P w p []) → Nw p H H1 → Q (.ref p) H1) : tDNewN P w σ H Q := fun _ n => k _ _ upd_same (.mk' n)
theorem w_notInN {ty td : TE} (q : ty σ H fun y H1 => td σ H1 fun x H2 => kNotInN P w y x Q H2) : tNotInN P w ty td σ H Q := q
theorem w_kNotInN (e : H d = some (DN P w d xs)) (hk : KeysAt H xs) (eb : H b = some (.tup (m.map lV))) (q : Q (.bl (!(valN xs m).isSome)) H) : kNotInN P w (.ref b) (.ref d) Q H := ⟨d, b, xs, m, rfl, rfl, e, hk, eb, q⟩
theorem w_getN {ty td : TE} (q : td σ H fun x H1 => ty σ H1 fun y H2 => kGetN P w x y Q H2) : tGetN P w td ty σ H Q := q
theorem w_kGetN {p : Addr × V} (e : H d = some (DN P w d xs)) (hk : KeysAt H xs) (eb : H b = some (.tup (m.map lV))) (hv : valN xs m = some p) (q : Q p.2 H) : kGetN P w (.ref d) (.ref b) Q H := ⟨d, b, xs, m, p, rfl, rfl, e, hk, eb, hv, q⟩
theorem w_putN {td ty tv : TE} {n : L2.St → Hp → Prop} {rt : VK} {bk ct : L2.St → Hp → Prop} (q : tv σ H fun v H1 => td σ H1 fun x H2 => ty σ H2 fun y H3 => kPutN P w n σ x y v H3) : sPutN P w td ty tv ⟨n, rt, bk, ct⟩ σ H := q
theorem w_kPutN {n : L2.St → Hp → Prop} {v : V} (e : H d = some (DN P w d xs)) (hk : KeysAt H xs) (eb : H b = some (.tup (m.map lV))) (hv : valN xs m = none) (hl : xs.length < sizeLine) (q : n σ (upd H d (DN P w d (xs ++ [(m, b, v)])))) : kPutN P w n σ (.ref d) (.ref b) v H := ⟨d, b, xs, m, rfl, rfl, e, hk, eb, hv, hl, q⟩
end
end Sf
namespace Sf
open PySem PySem.Spec PyProof.Rows L2 TL
section
variable {X : Cx} {σ : L2.St} {H : Hp} {Q : VK} {K : PySem.W.Frag}
def rIslow : V → List V → Hp → VK → Prop := fun x xs H Q => ∃ a, x = .str a ∧ xs = [] ∧ True ∧ Q (.bl (Txt.islower a)) H
theorem mt_islowerN : MtR X "str.islower" rIslow := mt_islower
theorem isl_one {c : Nat} (h : sgn c = true) : Txt.islower (one c) = decide (97 ≤ c) := by
  have hs := sgs_iff.mpr h
  have key : ∀ c ∈ sgs, Txt.islower (one c) = decide (97 ≤ c) := by decide +kernel
  exact key c hs
theorem w_isl {c : Nat} (h : sgn c = true) (q : Q (.bl (decide (97 ≤ c))) H) : rIslow (.str (one c)) [] H Q := ⟨_, rfl, rfl, trivial, by rw [isl_one h]; exact q⟩
theorem ixN_n {n j : Nat} (hj : j < n) : ixN n ((j : Nat) : Int) = some j := by
  unfold ixN
  rw [if_pos (by omega), if_pos (by omega), Int.toNat_natCast]
end
end Sf
namespace Sf
open PySem PySem.Spec PyProof.Rows L2 TL
section
variable {P : Program} {w : World} {K : PySem.W.Frag} {mg : Str → Option Value} {base : Heap} {C CN : Addr}
/-! ### tree_of -/
def keyM (m : Mv) : Mot := [.text (one m.1), .num m.2.1, .num m.2.2]
theorem keyM_inj {a b : Mv} (h : keyM a = keyM b) : a = b := by
  unfold keyM at h
  injection h with h1 h2
  injection h2 with h2 h3
  injection h3 with h3 _
  injection h1 with h1
  injection h2 with h2
  injection h3 with h3
  obtain ⟨a1, a2, a3⟩ := a
  obtain ⟨b1, b2, b3⟩ := b
  have e := one_inj h1
  simp only at e h2 h3
  subst e h2 h3
  rfl
theorem w_dcEl {a : Addr} {xs : List V} {σ : L2.St} {H : Hp} {Q : VK} {g : TG} {tt : TT} {tk tv : TE} {vs : List Nat} (Pv : Addr → Nat → Hp → Prop) (h0 : ∀ p H1, H1 p = some (.dK []) → Nw p H H1 → Pv p 0 H1) (hl : ∀ p i H, Pv p i H → H a = some (.lst xs))
    (hs : ∀ p i x t H H1, xs[i]? = some x → Pv p i H → H1 t = some (.tup [.int (i : Nat), x]) → Nw t H H1 → g (.ref t) (wipe σ vs) H1 (kEachD tt tk tv vs σ p (Pv p (i + 1)))) (hd : ∀ p H, Pv p xs.length H → Q (.ref p) H) : kDc g tt tk tv vs σ Q (Ite K a) H := by
  refine w_dcG (n := xs.length) Pv h0 (fun p i H hi h => ⟨xs, xs[i], SqL.of (hl p i H h), List.getElem?_eq_getElem hi⟩) (fun p H h => ⟨xs, SqL.of (hl p _ H h), Nat.le_refl _⟩) ?_ hd
  rintro p i v H H' hi h ⟨t, x, rfl, nt, rfl, hx⟩
  exact hs p i x t H _ (hx xs (SqL.of (hl p i H h))) h upd_same (.mk' nt)
def DiW (fs : List Fd) : Prop := ∀ {i j : Nat} {k k' : Fd}, fs[i]? = some k → fs[j]? = some k' → k.2 = k'.2 → i = j
theorem wy_at {fs : List Fd} {i : Nat} {v : V} (h : (wyV fs)[i]? = some v) : ∃ k, fs[i]? = some k ∧ v = .str k.2 := by
  unfold wyV at h
  rw [List.getElem?_map, Option.map_eq_some_iff] at h
  obtain ⟨k, hk, rfl⟩ := h
  exact ⟨k, hk, rfl⟩
theorem wyV_len (fs : List Fd) : (wyV fs).length = fs.length := List.length_map ..
theorem cutV_tail (us : List V) : cutV us (some 1) none = us.drop 1 := by
  unfold cutV
  rw [show (some (1 : Int)) = some (((1 : Nat) : Int)) from rfl, HT.sIx_nat, HT.sIx_none]
  cases us with
  | nil => rfl
  | cons a us =>
    rw [Nat.min_eq_left (by simp)]
    exact List.take_of_length_le (by simp)
theorem cut_snoc {x : Str} {c : Nat} : cutS (x ++ one c) none (some (-1)) = x := by
  refine ext_tl ?_
  rw [tl_cut, HT.sIx_none, List.drop_zero, Nat.sub_zero]
  unfold HT.sIx
  dsimp only
  rw [if_pos (by decide), tl_append, tl_one, len_app, len_one]
  have hl : x.length = (tl x).length := len_tl x
  rw [show ((-1 : Int) + ((x.length + 1 : Nat) : Int)).toNat = (tl x).length by omega]
  exact List.take_left
theorem last_snoc {x : Str} {c : Nat} : atI (x ++ one c).cps.toList (-1) = some c := by
  show atI (tl (x ++ one c)) (-1) = some c
  rw [tl_append, tl_one]
  exact atI_last _ _
theorem w_par3 {σ : L2.St} {H : Hp} {i j l : Nat} {ta : TA} {n : L2.St → Hp → Prop} {rt : VK} {bk ct : L2.St → Hp → Prop} (q : ta σ H fun vs H1 => ∃ u v w, vs = [u, v, w] ∧ n (((σ.set i (some u)).set j (some v)).set l (some w)) H1) : tPar3 i j l ta ⟨n, rt, bk, ct⟩ σ H := q
def spTo (P : Program) (w : World) : Sp := fun vs H Q _ => ∃ (a : Addr) (fs : List Fd) (L : Nat → List (Int × Int)), vs = [.ref a] ∧ H a = some (.lst (wyV fs)) ∧ TreeF L fs ∧ DiW fs ∧ (∀ k ∈ fs, Wd k.2 ∧ k.2.length ≤ 1000) ∧ fs.length ≤ 1000 ∧
  ∀ (d : Addr) (xs : List DE) (H' : Hp), H d = none → Same H H' → H' d = some (DN P w d xs) → KeysAt H' xs → (∀ m : Mot, m ∈ xs.map (·.1) ↔ ∃ v, TrAt fs (fs.length - 1) v ∧ m = keyM v) → Q (.ref d) H'
theorem sc_to : FnScope ["ways", "number", "way", "numbers", "tree", "sign", "near", "far", "move"] ["ways"] (defScope s_tree_of) := ⟨rfl, rfl, rfl, by decide +kernel, rfl, by decide +kernel, by decide +kernel⟩
theorem has_to (F : FnAt K mg "tree_of" s_tree_of ["ways"]) (Be : mg "enumerate" = none) : Has P w K mg base 1 "tree_of" ["ways"] (spTo P w) := F.has fun F => by
  refine F.ok sc_to (fun vs H Q E h => ?_) (fun cdv A outer s H vs Q E hr h => ?_)
  · obtain ⟨a, fs, L, rfl, _⟩ := h
    rfl
  · obtain ⟨a, fs, L, rfl, ha, hT, hD, hW, hl, q⟩ := h
    refine ⟨_, (pss_cons (ps_setDc (i := 3) (own := [("number", 1), ("way", 2)]) (g := gTup K 2 (gCons (gName 1) (gCons (gName 2) gNil))) (tt := tYes) (by rfl) sc_to.nd rfl rfl (swD_true rfl rfl rfl (by decide +kernel)) (pi_enum (by rfl) Be (pa_cons (pv 0) pa_nil)) (blkOk_by (own := [("number", 1), ("way", 2)]) (N := ["ways", "number", "way", "numbers", "tree", "sign", "near", "far", "move"]) (sc := defScope s_tree_of) (by decide +kernel)) (fun _ _ _ _ _ => pg_tup rfl (pgs_cons (pg_name (i := 1) sc_to.nd rfl (.inl rfl)) (pgs_cons (pg_name (i := 2) sc_to.nd rfl (.inl rfl)) pgs_nil))) (fun _ _ _ _ _ => pts_nil) (fun _ _ _ _ _ => (pv 2)) (fun _ _ _ _ _ => (pv 1))) (pss_cons (ps_set (i := 4) sc_to.nd rfl (.inl rfl) pe_dnewN) (pss_cons (ps_for PassesOwn.never rfl (pi_list (pe_slice sl_list (pv 0) (po_some pe_int) po_none)) (pg_name (i := 2) sc_to.nd rfl (.inl rfl)) (pss_cons (ps_par3 (i := 5) (j := 6) (l := 7) (by rfl) sc_to.nd rfl rfl rfl (by decide) (by decide) (by decide) rfl rfl rfl (pa_cons (pe_ix ix_str (pv 2) (pe_un un_neg pe_int) (fun _ _ => rfl)) (pa_cons (pe_dget (hu_of hr) (pv 3) (pe_slice sl_str (pv 2) po_none (po_some (pe_un un_neg pe_int))) (fun _ _ => rfl)) (pa_cons (pe_dget (hu_of hr) (pv 3) (pv 2) (fun _ _ => rfl)) pa_nil))) (by rfl)) (pss_cons (ps_set (i := 8) sc_to.nd rfl (.inl rfl) (pe_ifExp (pt_val (pe_m0 PySem.F.slot_str_islower PySem.F.type_str_islower mt_islowerN (pv 5))) (pe_tup (pa_cons (pv 5) (pa_cons (pv 6) (pa_cons (pv 7) pa_nil)))) (pe_tup (pa_cons (pe_m0 PySem.F.slot_str_lower PySem.F.type_str_lower mt_loN (pv 5)) (pa_cons (pv 7) (pa_cons (pv 6) pa_nil)))))) (pss_one (ps_putN (hu_of hr) (pv 4) (pv 8) pe_bl rfl))))) (pss_one (ps_ret (pv 4)))))), ?_⟩
    have wl := wyV_len fs
    walk_at "go"
    refine w_dcEl (xs := wyV fs) (fun r i H1 => ∃ kvs, Same H H1 ∧ H r = none ∧ H1 r = some (.dK kvs) ∧ kvs.length ≤ i ∧ i ≤ fs.length ∧ ∀ (j : Nat) (k : Fd), j < i → fs[j]? = some k → valV kvs (Sum.inr k.2) = some (.int ((j : Nat) : Int))) (fun r H1 hr nr => ⟨[], nr.same, nr.nn, hr, Nat.le_refl _, Nat.zero_le _, fun j k hj => by omega⟩) (fun r i H1 ⟨_, s1, _⟩ => s1.at ha) ?_ ?_
    · rintro r i v t H1 H2 hv ⟨kvs, s1, nr, hr1, hkl, hil, hval⟩ ht nt
      obtain ⟨k, hk, rfl⟩ := wy_at hv
      have hi : i < fs.length := (List.getElem?_eq_some_iff.mp hk).1
      walk_at "go"
      refine w_kItDS (nt.at hr1) (lineLt_of (by omega)) (fun H3 h3 o3 => ⟨_, (s1.nw nt).off o3 nr, nr, h3, ?_, by omega, fun j k' hj hk' => ?_⟩)
      · have := DSub.putK_len kvs (Sum.inr k.2 : Key) (.int ((i : Nat) : Int))
        omega
      · rw [valV_put]
        by_cases e : (Sum.inr k'.2 : Key) = Sum.inr k.2
        · rw [if_pos e, hD hk' hk (Sum.inr.inj e)]
        · rw [if_neg e]
          have : j ≠ i := fun z => by
            subst z
            rw [hk] at hk'
            cases hk'
            exact e rfl
          exact hval j k' (by omega) hk'
    · rintro nb H1 ⟨kvs, s1, nnb, hnb, hkl, _, hval⟩
      rw [wl] at hval
      walk_at "go"
      refine w_dnewN (fun d H2 hd nd => ?_)
      walk_at "go"
      have ndb : d ≠ nb := (nd.ne hnb).symm
      have nd0 : H d = none := s1.free nd.nn
      refine w_slL (nd.at (s1.at ha)) (fun us H3 hus nus => ?_)
      rw [cutV_tail] at hus
      walk_at "go"
      have s3 : Same H H3 := (s1.nw nd).nw nus
      have hdl : (wyV fs).drop 1 = wyV (fs.drop 1) := by unfold wyV; rw [List.map_drop]
      refine w_list (xs := (wyV fs).drop 1) (fun i σ H4 => ∃ (xs : List DE) (y1 y2 y5 y6 y7 y8 : Option V), σ = [some (.ref a), y1, y2, some (.ref nb), some (.ref d), y5, y6, y7, y8] ∧ Same H H4 ∧ H4 nb = some (.dK kvs) ∧ H4 us = some (.lst ((wyV fs).drop 1)) ∧ us ≠ d ∧ H4 d = some (DN P w d xs) ∧ KeysAt H4 xs ∧ xs.length ≤ i ∧ ∀ m : Mot, m ∈ xs.map (·.1) ↔ ∃ v, TrAt fs i v ∧ m = keyM v) ?_ (fun i σ H4 _ ⟨_, _, _, _, _, _, _, _, _, _, h, _⟩ => h) ?_ ?_
      · exact ⟨[], _, _, _, _, _, _, rfl, s3, nus.at (nd.at hnb), hus, fun z => by rw [← z] at hd; exact absurd hd (by rw [nus.nn]; exact fun z => nomatch z), nus.at hd, (by intro x hx; cases hx), Nat.le_refl _, fun m => ⟨(by intro z; cases z), fun ⟨v, z, _⟩ => absurd z TrAt.zero⟩⟩
      · rintro i v σ H4 hv ⟨xs, y1, y2, y5, y6, y7, y8, rfl, s4, hnb4, hus4, nud, hd4, hk4, hxl, hm4⟩
        rw [List.getElem?_drop] at hv
        obtain ⟨k, hk, rfl⟩ := wy_at hv
        rw [Nat.add_comm] at hk
        have hi : i + 1 < fs.length := (List.getElem?_eq_some_iff.mp hk).1
        rcases hT (i + 1) k hk with ⟨z, _⟩ | ⟨p, k', c, hpi, hk', hc, _, ek⟩
        · omega
        have hcs := sgs_iff.mp hc
        have hkm := hW k (List.mem_of_getElem? hk)
        have v1 := hval p k' (by omega) hk'
        have v2 := hval (i + 1) k hi hk
        obtain ⟨k1, k2⟩ := k
        have ek : k2 = k'.2 ++ one c := ek
        subst ek
        walk_at "go"
        have hkl2 : (k'.2 ++ one c).length ≤ 1000 := hkm.2
        refine w_par3 ?_
        walk_at "go"
        refine w_ixS (line_of (Nat.le_trans hkl2 (by decide))) last_snoc ?_
        walk_at "go"
        refine w_slS (line_of (Nat.le_trans hkl2 (by decide))) ?_
        rw [cut_snoc]
        refine w_kDGetS hnb4 v1 ?_
        walk_at "go"
        refine w_kDGetS hnb4 v2 ?_
        walk_at "go"
        refine ⟨_, _, _, rfl, ?_⟩
        walk_at "go"
        refine w_isl hcs ?_
        walk_at "go"
        have fin : ∀ (t : Addr) (H5 H6 : Hp), Nw t H4 H5 → H5 t = some (.tup ((keyM (mvW c p (i + 1))).map lV)) → H6 = upd H5 d (DN P w d (xs ++ [(keyM (mvW c p (i + 1)), t, .bl true)])) → Same H H6 ∧ H6 nb = some (.dK kvs) ∧ H6 us = some (.lst ((wyV fs).drop 1)) ∧ H6 d = some (DN P w d (xs ++ [(keyM (mvW c p (i + 1)), t, .bl true)])) ∧ KeysAt H6 (xs ++ [(keyM (mvW c p (i + 1)), t, .bl true)]) ∧ (xs ++ [(keyM (mvW c p (i + 1)), t, V.bl true)]).length ≤ i + 1 ∧ ∀ m : Mot, m ∈ (xs ++ [(keyM (mvW c p (i + 1)), t, V.bl true)]).map (·.1) ↔ ∃ v, TrAt fs (i + 1) v ∧ m = keyM v := by
          rintro t H5 _ nt ht rfl
          have o6 : Of d H5 (upd H5 d (DN P w d (xs ++ [(keyM (mvW c p (i + 1)), t, .bl true)]))) := .mk'
          have hd5 := nt.at hd4
          have T5 : Tps H5 (upd H5 d (DN P w d (xs ++ [(keyM (mvW c p (i + 1)), t, .bl true)]))) := fun x ys hx => o6.at (fun z => by rw [z, hd5] at hx; cases hx) hx
          refine ⟨(s4.nw nt).off o6 nd0, o6.at (fun z => ndb z.symm) (nt.at hnb4), o6.at nud (nt.at hus4), upd_same, ?_, by rw [List.length_append]; show xs.length + 1 ≤ _; omega, fun m => ?_⟩
          · refine KeysAt.snoc ((hk4.tps fun x ys hx => nt.same x _ hx).tps T5) (T5 _ _ ht)
          · rw [List.map_append, List.mem_append, hm4, List.map_cons, List.map_nil, List.mem_singleton]
            constructor
            · rintro (⟨v, hv, e⟩ | e)
              · exact ⟨v, (TrAt.succ hpi hk hk' hc rfl hD).mpr (.inl hv), e⟩
              · exact ⟨_, (TrAt.succ hpi hk hk' hc rfl hD).mpr (.inr rfl), e⟩
            · rintro ⟨v, hv, e⟩
              rcases (TrAt.succ hpi hk hk' hc rfl hD).mp hv with z | z
              · exact .inl ⟨v, z, e⟩
              · exact .inr (by rw [e, z])
        have hnew : valN xs (keyM (mvW c p (i + 1))) = none := valN_none.mpr fun z => by
          obtain ⟨v, hv, e⟩ := (hm4 _).mp z
          rw [← keyM_inj e] at hv
          exact mvW_new hpi hc hv
        by_cases hlow : 97 ≤ c
        · rw [decide_eq_true hlow]
          walk_at "go"
          refine w_newT (by walk_at "sz") (fun t H5 ht nt => ?_)
          have e : keyM (mvW c p (i + 1)) = [.text (one c), .num ((p : Nat) : Int), .num ((i + 1 : Nat) : Int)] := by unfold mvW; rw [if_pos hlow]; rfl
          have ht' : H5 t = some (.tup ((keyM (mvW c p (i + 1))).map lV)) := by rw [e]; exact ht
          walk_at "go"
          refine w_putN ?_
          walk_at "go"
          refine w_kPutN (nt.at hd4) (hk4.tps fun x ys hx => nt.same x _ hx) ht' hnew (lineLt_of (by omega)) ?_
          obtain ⟨f1, f2, f3, f4, f5, f6, f7⟩ := fin t H5 _ nt ht' rfl
          exact ⟨_, _, _, _, _, _, _, rfl, f1, f2, f3, nud, f4, f5, f6, f7⟩
        · rw [decide_eq_false hlow]
          walk_at "go"
          refine w_lo1 (by have := sgn_iff.mp hcs; omega) ?_
          walk_at "go"
          refine w_newT (by walk_at "sz") (fun t H5 ht nt => ?_)
          have e : keyM (mvW c p (i + 1)) = [.text (one (c + 32)), .num ((i + 1 : Nat) : Int), .num ((p : Nat) : Int)] := by unfold mvW; rw [if_neg hlow]; rfl
          have ht' : H5 t = some (.tup ((keyM (mvW c p (i + 1))).map lV)) := by rw [e]; exact ht
          walk_at "go"
          refine w_putN ?_
          walk_at "go"
          refine w_kPutN (nt.at hd4) (hk4.tps fun x ys hx => nt.same x _ hx) ht' hnew (lineLt_of (by omega)) ?_
          obtain ⟨f1, f2, f3, f4, f5, f6, f7⟩ := fin t H5 _ nt ht' rfl
          exact ⟨_, _, _, _, _, _, _, rfl, f1, f2, f3, nud, f4, f5, f6, f7⟩
      · rintro σ H4 ⟨xs, y1, y2, y5, y6, y7, y8, rfl, s4, hnb4, hus4, nud, hd4, hk4, hxl, hm4⟩
        rw [List.length_drop, wl] at hm4
        walk_at "go"
        exact q d xs H4 nd0 s4 hd4 hk4 hm4
/-! ### makers -/
def wyI (fs : List Fd) (i : Int) : Str := ((fs[i.toNat]?).map (·.2)).getD (Str.ofString "")
theorem wyI_at {fs : List Fd} {j : Nat} {k : Fd} (h : fs[j]? = some k) : wyI fs ((j : Nat) : Int) = k.2 := by
  unfold wyI
  rw [Int.toNat_natCast, h]
  try rfl
def mk1 (fs : List Fd) (m : Mv) : Option Str := if wyI fs m.2.2 = wyI fs m.2.1 ++ one m.1 ∨ wyI fs m.2.1 = wyI fs m.2.2 ++ one (m.1 - 32) then none else some (mkT (wyI fs m.2.1) m.1 (wyI fs m.2.2))
def mksL (fs : List Fd) (ms : List Mv) : List Str := ms.filterMap (mk1 fs)
theorem mksL_len (fs : List Fd) (ms : List Mv) : (mksL fs ms).length ≤ ms.length := List.length_filterMap_le _ _
theorem mksL_snoc (fs : List Fd) (ms : List Mv) (m : Mv) : mksL fs (ms ++ [m]) = mksL fs ms ++ (mk1 fs m).toList := by
  unfold mksL
  rw [List.filterMap_append]
  rw [List.filterMap_cons]
  cases mk1 fs m <;> rfl
theorem ren_rg {L : Nat → List (Int × Int)} {ks : List Int} (hcl : ∀ c ∈ sgs, ∀ q ∈ L c, q.1 ∈ ks → q.2 ∈ ks) : LRg (ks.length : Int) (renL ks L) := fun c hc q hq => by
  obtain ⟨r, hr, rfl⟩ := List.mem_map.mp hq
  rw [List.mem_filter] at hr
  have h1 := of_decide_eq_true hr.2
  have a := rk_rg h1
  have b := rk_rg (hcl c hc r hr.1 h1)
  exact ⟨a.1, a.2, b.1, b.2⟩
theorem bk_len (x : Str) : (backT x).length = x.length := by
  show (mkS (backL (tl x))).length = _
  rw [mkS_len]
  unfold backL
  rw [List.length_reverse, List.length_map]
  exact (len_tl x).symm
theorem mvs_few {L : Nat → List (Int × Int)} (h : ∀ c ∈ smls, (L c).length ≤ 10000) : (mvsOf L).length ≤ 100000 := by
  have h1 := h 97 (by decide)
  have h2 := h 98 (by decide)
  have h3 := h 99 (by decide)
  have h4 := h 100 (by decide)
  have h5 := h 101 (by decide)
  have h6 := h 102 (by decide)
  have h7 := h 103 (by decide)
  have h8 := h 104 (by decide)
  unfold mvsOf mvC smls
  simp only [List.flatMap_cons, List.flatMap_nil, List.length_append, List.length_map, List.length_nil]
  omega
def spMks (C : Addr) : Sp := fun vs H Q _ => ∃ (p : Addr) (n : Int) (L : Nat → List (Int × Int)), vs = [.ref p] ∧ WAt C H p n L ∧ LRg n L ∧ LNd L ∧ Inv1 (stp L) ∧ (∀ c ∈ sgs, (L c).length ≤ 10000) ∧ 0 < n ∧ n ≤ 1000 ∧
  ∀ (r : Addr) (H' : Hp) (fs : List Fd), H r = none → Same H H' → H' r = some (.lst ((mksL fs (sortM (mvsOf (renL (fs.map (·.1)) L)))).map V.str)) → FinB L 0 fs → FsOk n fs → Q (.ref r) H'
theorem sc_mks : FnScope ["world", "seen", "ways", "tree", "told", "letter", "start", "end"] ["world"] (defScope s_makers) := ⟨rfl, rfl, rfl, by decide +kernel, rfl, by decide +kernel, by decide +kernel⟩
theorem has_mks {dv dw : Tok} (F : FnAt K mg "makers" s_makers ["world"]) (T_World : WC K mg C) (h_Tu : HasTurned P w K mg base) (hG : HasGlued P w K mg base) (h_To : Has P w K mg base 1 "tree_of" ["ways"] (spTo P w)) (h_Mv : HasM P w K mg base C 1 "moves" ["self"] (spMvs C))
    (h_Se : HasMXD P w K mg base C 7 "seen" ["self", "place"] (.int 0 dv) (spSeX C CN)) (h_Wy : HasMXD P w K mg base C 5 "ways" ["self", "place"] (.int 0 dw) (spWyX C CN)) : Has P w K mg base 8 "makers" ["world"] (spMks C) := F.has fun F => by
  have h_Gl := hG
  obtain ⟨f_Tu, fd_Tu, g_Tu, k_Tu, b_Tu, G_Tu⟩ := h_Tu
  obtain ⟨f_Gl, fd_Gl, g_Gl, k_Gl, b_Gl, G_Gl⟩ := h_Gl
  obtain ⟨f_To, fd_To, g_To, k_To, b_To, G_To⟩ := h_To
  obtain ⟨f_Mv, fd_Mv, m_Mv, b_Mv, G_Mv⟩ := h_Mv
  obtain ⟨f_Se, fd_Se, m_Se, b_Se, bd_Se, G_Se⟩ := h_Se
  obtain ⟨f_Wy, fd_Wy, m_Wy, b_Wy, bd_Wy, G_Wy⟩ := h_Wy
  refine F.ok sc_mks (fun vs H Q E h => ?_) (fun cdv A outer s H vs Q E hr h => ?_)
  · obtain ⟨p, n, L, rfl, _⟩ := h
    rfl
  · obtain ⟨p, n, L, rfl, hW, hL, hN, hI, hsz, n0, hn, q⟩ := h
    refine ⟨_, (pss_cons (ps_set (i := 1) sc_mks.nd rfl (.inl rfl) (pe_meth0 (pv 0) T_World.cl m_Se G_Se (hr.mono (by decide)) bd_Se vals_i (passes_call (E := E0) takes0 (fun _ _ _ _ h => h)))) (pss_cons (ps_set (i := 2) sc_mks.nd rfl (.inl rfl) (pe_meth0 (pv 1) T_World.cl m_Wy G_Wy (hr.mono (by decide)) bd_Wy vals_i (passes_call (E := E0) takes0 (fun _ _ _ _ h => h)))) (pss_cons (ps_set (i := 3) sc_mks.nd rfl (.inl rfl) (pe_call G_To (hr.mono (by decide)) (by rfl) g_To k_To b_To .nil pass0 (pa_cons (pv 2) pa_nil))) (pss_cons (ps_set (i := 4) sc_mks.nd rfl (.inl rfl) (pe_lst pa_nil)) (pss_cons (ps_for PassesOwn.never rfl (pi_list (pe_meth0 (pv 1) T_World.cl m_Mv G_Mv (hr.mono (by decide)) b_Mv .nil pass0)) (pg_tup rfl (pgs_cons (pg_name (i := 5) sc_mks.nd rfl (.inl rfl)) (pgs_cons (pg_name (i := 6) sc_mks.nd rfl (.inl rfl)) (pgs_cons (pg_name (i := 7) sc_mks.nd rfl (.inl rfl)) pgs_nil)))) (pss_one (ps_if (pt_cmp (pc_notInN (hu_of hr) (pe_tup (pa_cons (pv 5) (pa_cons (pv 6) (pa_cons (pv 7) pa_nil)))) (pv 3))) (pss_one (ps_expr (pe_bm PySem.F.plainAttrs_list PySem.F.slot_list_append PySem.F.type_list_append mt_append (pv 4) (pa_cons (pe_call G_Gl (hr.mono (by decide)) (by rfl) g_Gl k_Gl b_Gl .nil pass0 (pa_cons (pe_call G_Gl (hr.mono (by decide)) (by rfl) g_Gl k_Gl b_Gl .nil pass0 (pa_cons (pe_ix ix_list (pv 2) (pv 6) (fun _ _ => rfl)) (pa_cons (pv 5) pa_nil))) (pa_cons (pe_call G_Tu (hr.mono (by decide)) (by rfl) g_Tu k_Tu b_Tu .nil pass0 (pa_cons (pe_ix ix_list (pv 2) (pv 7) (fun _ _ => rfl)) pa_nil)) pa_nil))) pa_nil)))) pss_nil))) (pss_one (ps_ret (pv 4)))))))), ?_⟩
    obtain ⟨dx, pl, ld, d, hp, hpl, hl⟩ := id hW
    walk_at "go"
    refine w_kMeth hp (wf_no _ _ (by decide +kernel) (by decide +kernel)) ?_
    walk_at "go"
    refine ⟨p, n, 0, L, rfl, hW, hL, hN, hsz, hn, by decide, by decide, fun h => absurd ⟨Int.le_refl 0, n0⟩ h, fun _ r1 H1 fs nr1 s1 hW1 fin ok => ?_⟩
    have hcl : ∀ c ∈ sgs, ∀ q ∈ L c, q.1 ∈ fs.map (·.1) → q.2 ∈ fs.map (·.1) := fun c hc => fin.cl hN hc
    have len := ok.len
    have hne : 0 < fs.length := by
      obtain ⟨t, e⟩ := fin.head
      rw [e]
      exact Nat.succ_pos _
    have rg1 : LRg (fs.length : Int) (renL (fs.map (·.1)) L) := by
      have := ren_rg hcl
      rw [List.length_map] at this
      exact this
    obtain ⟨dx1, pl1, ld1, d1, hp1, _⟩ := id hW1
    walk_at "go"
    refine w_kMeth hp1 (wf_no _ _ (by decide +kernel) (by decide +kernel)) ?_
    walk_at "go"
    refine ⟨r1, (fs.length : Int), 0, renL (fs.map (·.1)) L, rfl, hW1, rg1, by omega, by decide, by decide, fun h => absurd ⟨Int.le_refl 0, by omega⟩ h, fun _ wy H2 fs1 nwy s2 hwy fin1 ok1 => ?_⟩
    have ew : wyV fs1 = wyV fs := by
      have hx : (0 : Int) ∈ fs.map (·.1) := by
        obtain ⟨t, e⟩ := fin.head
        rw [e]
        exact List.mem_cons_self
      have e0 : rk (fs.map (·.1)) 0 = 0 := by
        obtain ⟨t, e⟩ := fin.head
        rw [e]
        exact rk_head _ _
      have := (Iso.fin (iso_ren hN hcl) hx fin (by rw [e0]; exact fin1)).1
      rw [this]
      unfold wyV phF
      rw [List.map_map]
      rfl
    rw [ew] at hwy
    have hdi : DiW fs := fun hi hj e => fin.way ok.nd hi hj e
    have hwd : ∀ k ∈ fs, Wd k.2 ∧ k.2.length ≤ 1000 := fun k hk => ⟨fin.wd k hk, by have := ok.wl k hk; omega⟩
    walk_at "go"
    refine ⟨wy, fs, L, rfl, hwy, fin.tree, hdi, hwd, by omega, fun td xs H3 ntd s3 htd hkx hmx => ?_⟩
    walk_at "go"
    refine w_newL (by walk_at "sz") (fun tl1 H4 htl ntl => ?_)
    have hwlen := wyV_len fs
    have hwy3 := s3.at hwy
    have s4 : Same H1 H4 := (s2.trans s3).nw ntl
    have hsz1 : ∀ c ∈ sgs, (renL (fs.map (·.1)) L c).length ≤ 10000 := fun c hc => Nat.le_trans (renM_len _ _) (hsz c hc)
    generalize hL1 : renL (fs.map (·.1)) L = L1 at hW1 rg1 hsz1
    have nd1 : LNd L1 := by rw [← hL1]; exact ren_nd hN
    walk_at "go"
    refine w_kMeth (s4.at hp1) (wf_no _ _ (by decide +kernel) (by decide +kernel)) ?_
    walk_at "go"
    refine ⟨r1, (fs.length : Int), L1, rfl, hW1.same s4, fun c hc => hsz1 c (smls_sgs c hc), fun mr H5 us nmr s5 hmr hms => ?_⟩
    have ntl0 : H tl1 = none := s1.free ((s2.trans s3).free ntl.nn)
    have tlw : tl1 ≠ wy := (ntl.ne (s3.at hwy)).symm
    have tlt : tl1 ≠ td := (ntl.ne htd).symm
    have tlm : tl1 ≠ mr := fun z => by
      rw [← z] at nmr
      rw [htl] at nmr
      cases nmr
    have hul : us.length = (sortM (mvsOf L1)).length := Paired.length hms
    walk_at "go"
    refine w_list (xs := us) (fun i σ H6 => ∃ (y5 y6 y7 : Option V), σ = [some (.ref p), some (.ref r1), some (.ref wy), some (.ref td), some (.ref tl1), y5, y6, y7] ∧ Same H H6 ∧ Same H3 H6 ∧ H6 mr = some (.lst us) ∧ MvsAt H6 us (sortM (mvsOf L1)) ∧ H6 tl1 = some (.lst ((mksL fs ((sortM (mvsOf L1)).take i)).map V.str))) ?_ (fun i σ H6 _ ⟨_, _, _, _, _, _, h, _⟩ => h) ?_ ?_
    · exact ⟨_, _, _, rfl, (s1.trans s4).trans s5, ntl.same.trans s5, hmr, hms, by rw [List.take_zero]; exact s5.at htl⟩
    · rintro i v σ H6 hv ⟨y5, y6, y7, rfl, s6, s36, hm6, hms6, ht6⟩
      obtain ⟨m, hmi, t, rfl, ht⟩ := paired_get hms6 hv
      have hil : i < (sortM (mvsOf L1)).length := (List.getElem?_eq_some_iff.mp hmi).1
      have hmm : m ∈ mvsOf L1 := sortM_mem.mp (List.mem_of_getElem? hmi)
      obtain ⟨l, ms, me⟩ := m
      obtain ⟨hl, hrg⟩ : l ∈ smls ∧ 0 ≤ ms ∧ ms < (fs.length : Int) ∧ 0 ≤ me ∧ me < (fs.length : Int) := by
        unfold mvsOf mvC at hmm
        obtain ⟨c, hc, h⟩ := List.mem_flatMap.mp hmm
        obtain ⟨q, hq, e⟩ := List.mem_map.mp h
        cases e
        exact ⟨hc, rg1 l (smls_sgs l hc) q hq⟩
      obtain ⟨s0, rfl⟩ : ∃ s0 : Nat, ms = (s0 : Int) := ⟨ms.toNat, by omega⟩
      obtain ⟨e0, rfl⟩ : ∃ e0 : Nat, me = (e0 : Int) := ⟨me.toNat, by omega⟩
      obtain ⟨ks, hks⟩ : ∃ k, fs[s0]? = some k := ⟨_, List.getElem?_eq_getElem (by omega)⟩
      obtain ⟨ke, hke⟩ : ∃ k, fs[e0]? = some k := ⟨_, List.getElem?_eq_getElem (by omega)⟩
      have hlg : sgn l = true := sgs_iff.mp (smls_sgs l hl)
      have rs := fin.rdc hI ok.nd s0 ks hks
      have re := fin.rdc hI ok.nd e0 ke hke
      have ws := hwd ks (List.mem_of_getElem? hks)
      have we := hwd ke (List.mem_of_getElem? hke)
      have hsn : mksL fs ((sortM (mvsOf L1)).take (i + 1)) = mksL fs ((sortM (mvsOf L1)).take i) ++ (mk1 fs (l, (s0 : Int), (e0 : Int))).toList := by rw [take_snoc hmi, mksL_snoc]
      have hm1 : mk1 fs (l, (s0 : Int), (e0 : Int)) = if ke.2 = ks.2 ++ one l ∨ ks.2 = ke.2 ++ one (l - 32) then none else some (mkT ks.2 l ke.2) := by
        unfold mk1
        rw [wyI_at hks, wyI_at hke]
      walk_at "go"
      refine w_notInN ?_
      walk_at "go"
      refine w_newT (by walk_at "sz") (fun t7 H7 ht7 nt7 => ?_)
      have T7 : Same H3 H7 := s36.nw nt7
      walk_at "go"
      refine w_kNotInN (m := keyM (l, (s0 : Int), (e0 : Int))) (T7.at htd) (hkx.tps fun x ys hx => T7 x _ hx) ht7 ?_
      have hin : (valN xs (keyM (l, (s0 : Int), (e0 : Int)))).isSome = decide (ke.2 = ks.2 ++ one l ∨ ks.2 = ke.2 ++ one (l - 32)) := by
        cases hv : valN xs (keyM (l, (s0 : Int), (e0 : Int))) with
        | none =>
          have := valN_none.mp hv
          rw [hmx] at this
          refine (decide_eq_false fun z => this ⟨_, (fin_trAt fin ok.nd hl hks hke).mpr z, rfl⟩).symm
        | some y =>
          have hmem : keyM (l, (s0 : Int), (e0 : Int)) ∈ xs.map (·.1) := by
            by_cases z : keyM (l, (s0 : Int), (e0 : Int)) ∈ xs.map (·.1)
            · exact z
            · rw [valN_none.mpr z] at hv
              cases hv
          obtain ⟨v, hv1, e⟩ := (hmx _).mp hmem
          rw [← keyM_inj e] at hv1
          exact (decide_eq_true ((fin_trAt fin ok.nd hl hks hke).mp hv1)).symm
      rw [hin]
      walk_at "go"
      refine w_ifN2 (fun h1 => ?_) (fun h1 => ?_)
      · rw [if_neg h1] at hm1
        walk_at "go"
        refine w_ixL (T7.at hwy3) (v := .str ks.2) (atI_nat (by unfold wyV; rw [List.getElem?_map, hks]; rfl)) ?_
        walk_at "go"
        have g1 := gluT_len ks.2 (one l)
        rw [len_one] at g1
        have b1 : (backT ke.2).length = ke.2.length := bk_len ke.2
        refine ⟨ks.2, one l, rfl, ws.1, wd_one hlg, by rw [len_one]; omega, ?_⟩
        walk_at "go"
        refine w_ixL (T7.at hwy3) (v := .str ke.2) (atI_nat (by unfold wyV; rw [List.getElem?_map, hke]; rfl)) ?_
        walk_at "go"
        refine ⟨ke.2, rfl, we.1, by omega, ?_⟩
        walk_at "go"
        refine ⟨gluT ks.2 (one l), backT ke.2, rfl, gluT_wd ws.1 (wd_one hlg), backT_wd we.1, by omega, ?_⟩
        rw [mk_glued rs re hlg]
        have hml := mksL_len fs ((sortM (mvsOf L1)).take i)
        have hsl : (sortM (mvsOf L1)).length ≤ 100000 := by
          rw [sortM_len]
          exact mvs_few fun c hc => hsz1 c (smls_sgs c hc)
        rw [List.length_take] at hml
        walk_at "go"
        refine w_append (nt7.at ht6) (by rw [List.length_map]; exact lineLt_of (by omega)) (fun H8 h8 o8 => ?_)
        walk_at "go"
        have n3 : H3 tl1 = none := ntl.nn
        refine ⟨_, _, _, rfl, (s6.nw nt7).off o8 ntl0, T7.off o8 n3, o8.at (fun z => tlm z.symm) (nt7.at hm6), (hms6.tps (.of nt7.same)).tps (Tps.refl.off (nt7.at ht6) o8), ?_⟩
        rw [hsn, hm1, List.map_append]
        exact h8
      · rw [if_pos h1] at hm1
        rw [hm1] at hsn
        walk_at "go"
        refine ⟨_, _, _, rfl, s6.nw nt7, T7, nt7.at hm6, hms6.tps (.of nt7.same), ?_⟩
        rw [hsn]
        show H7 tl1 = some (.lst ((_ ++ []).map V.str))
        rw [List.append_nil]
        exact nt7.at ht6
    · rintro σ H6 ⟨y5, y6, y7, rfl, s6, s36, hm6, hms6, ht6⟩
      rw [hul, List.take_length] at ht6
      walk_at "go"
      refine q tl1 H6 fs ntl0 s6 ?_ fin ok
      rw [hL1]
      exact ht6
end
end Sf
namespace Sf
open PySem PySem.Spec PyProof.Rows L2 TL
/-! ### claims of papers: the mathematics -/
abbrev Clm := Str × Str
def startsL (x y : Str) : Bool := decide ((tl x).take (tl y).length = tl y)
def endsL (x y : Str) : Bool := decide ((tl y).length ≤ (tl x).length ∧ (tl x).drop ((tl x).length - (tl y).length) = tl y)
theorem subAt_eq (x y : Str) (i : Nat) : Builtin.Str.subAt x y i = decide (((tl x).drop i).take (tl y).length = tl y) := by
  unfold Builtin.Str.subAt
  rw [Bool.eq_iff_iff, decide_eq_true_eq, beq_iff_eq]
  have e1 : (x.cps.extract i (i + y.length)).toList = ((tl x).drop i).take (tl y).length := by
    rw [Array.toList_extract, List.extract_eq_take_drop, show i + y.length - i = y.length by omega, len_tl]
  constructor
  · intro h
    rw [← e1, h]
  · intro h
    exact Array.toList_inj.mp (e1.trans h)
theorem starts_eq (x y : Str) : Txt.startswith x y = startsL x y := by
  unfold Txt.startswith startsL
  rw [subAt_eq, List.drop_zero, Bool.eq_iff_iff, Bool.and_eq_true]
  simp only [decide_eq_true_eq]
  constructor
  · exact And.right
  · intro h
    refine ⟨?_, h⟩
    have := congrArg List.length h
    rw [List.length_take] at this
    rw [len_tl, len_tl]
    omega
theorem ends_eq (x y : Str) : Txt.endswith x y = endsL x y := by
  unfold Txt.endswith endsL
  rw [subAt_eq, Bool.eq_iff_iff, Bool.and_eq_true]
  simp only [decide_eq_true_eq]
  rw [len_tl, len_tl]
  constructor
  · rintro ⟨h1, h2⟩
    refine ⟨by omega, ?_⟩
    rw [List.take_of_length_le (by rw [List.length_drop]; omega)] at h2
    exact h2
  · rintro ⟨h1, h2⟩
    refine ⟨by omega, ?_⟩
    rw [List.take_of_length_le (by rw [List.length_drop]; omega)]
    exact h2
def numV (v : V) (n : Nat) : Option Nat := if upB v ((n : Int) - 1) = true then (match v with | .int i => some i.toNat | _ => none) else none
theorem numV_some {v : V} {n k : Nat} (h : numV v n = some k) : v = .int (k : Int) ∧ k < n := by
  unfold numV at h
  split at h
  · rename_i hu
    cases v with
    | int i =>
      unfold upB at hu
      rw [Bool.and_eq_true, decide_eq_true_eq, decide_eq_true_eq] at hu
      have h : i.toNat = k := Option.some.inj h
      exact ⟨by congr 1; omega, by omega⟩
    | _ => cases hu
  · cases h
theorem numV_up {v : V} {n : Nat} : upB v ((n : Int) - 1) = (numV v n).isSome := by
  unfold numV
  cases e : upB v ((n : Int) - 1) with
  | false => rfl
  | true =>
    rw [if_pos rfl]
    cases v with
    | int i => rfl
    | _ => cases e
theorem numV_int {i : Int} {n : Nat} : numV (.int i) n = if 0 ≤ i ∧ i < n then some i.toNat else none := by
  have eu : upB (.int i) ((n : Int) - 1) = (decide (0 ≤ i) && decide (i ≤ (n : Int) - 1)) := rfl
  unfold numV
  rw [eu]
  by_cases h : 0 ≤ i ∧ i < n
  · rw [if_pos h, if_pos (by rw [decide_eq_true h.1, decide_eq_true (show i ≤ (n : Int) - 1 by omega)]; rfl)]
  · rw [if_neg h, if_neg]
    intro z
    rw [Bool.and_eq_true, decide_eq_true_eq, decide_eq_true_eq] at z
    exact h (by omega)
def cutB (x : Str) (k : Nat) : Str := mkS ((tl x).take k)
def cutF (x : Str) (k : Nat) : Str := mkS ((tl x).drop k)
def lastC (x : Str) : Nat := (tl x).getLastD 0
def onM (a b : Clm) : Option Clm := if startsL b.1 a.2 = true then some (a.1 ++ cutF b.1 a.2.length, b.2) else none
def homeM (a : Clm) : Option Clm := if a.1 = Str.ofString "" then none else some (a.1 ++ one (flipC (lastC a.1)), cutB a.1 (a.1.length - 1))
def oldS (l : Clm) : Bool → Str
  | true => l.1
  | false => l.2
def newS (l : Clm) : Bool → Str
  | true => l.2
  | false => l.1
def likeM (a l : Clm) (v : V) : Option Clm := match v with
  | .bl t => if endsL a.1 (oldS l t) = true then some (cutB a.1 (a.1.length - (oldS l t).length) ++ newS l t, a.2) else none
  | _ => none
def partM (a : Clm) (v : V) : Option Clm := (numV v (a.1.length + 1)).map fun k => (cutB a.1 k, cutB a.1 k)
def at1 (cs : List Clm) (v : V) : Option Clm := (numV v cs.length).bind fun k => cs[k]?
/-- the claim of a step -/
def claimM (F L cs : List Clm) (z : Str) (as : List V) : Option Clm :=
  if z = Str.ofString "start" then (match as with | [] => some (Str.ofString "", Str.ofString "") | _ => none)
  else if z = Str.ofString "fact" then (match as with | [a] => at1 F a | _ => none)
  else if z = Str.ofString "turn" then (match as with | [a] => (at1 cs a).map fun c => (c.2, c.1) | _ => none)
  else if z = Str.ofString "on" then (match as with | [a, b] => (at1 cs a).bind fun c => (at1 cs b).bind fun d => onM c d | _ => none)
  else if z = Str.ofString "home" then (match as with | [a] => (at1 cs a).bind homeM | _ => none)
  else if z = Str.ofString "like" then (match as with | [a, b, t] => (at1 cs a).bind fun c => (at1 L b).bind fun l => likeM c l t | _ => none)
  else if z = Str.ofString "part" then (match as with | [a, b] => (at1 cs a).bind fun c => partM c b | _ => none)
  else none
def Bnd (M : Nat) (cs : List Clm) : Prop := ∀ c ∈ cs, Wd c.1 ∧ Wd c.2 ∧ c.1.length ≤ M ∧ c.2.length ≤ M
theorem Bnd.mono {M N : Nat} {cs : List Clm} (h : Bnd M cs) (hn : M ≤ N) : Bnd N cs := fun c hc => by
  obtain ⟨h1, h2, h3, h4⟩ := h c hc
  exact ⟨h1, h2, by omega, by omega⟩
theorem at1_mem {cs : List Clm} {v : V} {c : Clm} (h : at1 cs v = some c) : c ∈ cs := by
  unfold at1 at h
  obtain ⟨k, _, h⟩ := Option.bind_eq_some_iff.mp h
  exact List.mem_of_getElem? h
theorem cutB_wd {x : Str} (h : Wd x) (k : Nat) : Wd (cutB x k) := fun c hc => h c (by
  unfold cutB at hc
  rw [tl_mkS] at hc
  exact List.mem_of_mem_take hc)
theorem cutF_wd {x : Str} (h : Wd x) (k : Nat) : Wd (cutF x k) := fun c hc => h c (by
  unfold cutF at hc
  rw [tl_mkS] at hc
  exact List.mem_of_mem_drop hc)
theorem cutB_len (x : Str) (k : Nat) : (cutB x k).length ≤ x.length := by
  unfold cutB
  rw [len_tl, tl_mkS, List.length_take, len_tl]
  omega
theorem cutF_len (x : Str) (k : Nat) : (cutF x k).length ≤ x.length := by
  unfold cutF
  rw [len_tl, tl_mkS, List.length_drop, len_tl]
  omega
theorem last_sg {x : Str} (h : Wd x) (hn : x ≠ Str.ofString "") : sgn (lastC x) = true ∧ (tl x).getLast? = some (lastC x) := by
  unfold lastC
  have hne : tl x ≠ [] := fun e => hn (ext_tl (by rw [e, tl_empty]))
  rw [List.getLastD_eq_getLast?, List.getLast?_eq_some_getLast hne]
  exact ⟨h _ (List.getLast_mem hne), rfl⟩
theorem likeM_some {a l : Clm} {v : V} {c : Clm} (h : likeM a l v = some c) : ∃ t, v = .bl t ∧ endsL a.1 (oldS l t) = true ∧ c = (cutB a.1 (a.1.length - (oldS l t).length) ++ newS l t, a.2) := by
  cases v with
  | bl t =>
    have h : (if endsL a.1 (oldS l t) = true then some (cutB a.1 (a.1.length - (oldS l t).length) ++ newS l t, a.2) else none) = some c := h
    by_cases e : endsL a.1 (oldS l t) = true
    · rw [if_pos e] at h
      exact ⟨t, rfl, e, (Option.some.inj h).symm⟩
    · rw [if_neg e] at h
      cases h
  | _ => cases h
theorem claim_bnd {F L cs : List Clm} {z : Str} {as : List V} {c : Clm} {M : Nat} (hF : Bnd M F) (hL : Bnd M L) (hc : Bnd M cs) (hM : 1 ≤ M) (h : claimM F L cs z as = some c) : Wd c.1 ∧ Wd c.2 ∧ c.1.length ≤ 2 * M ∧ c.2.length ≤ 2 * M := by
  have le0 : (Str.ofString "").length = 0 := len_empty
  unfold claimM at h
  split at h
  · split at h
    · cases h
      exact ⟨wd_nil, wd_nil, by rw [le0]; omega, by rw [le0]; omega⟩
    · cases h
  split at h
  · split at h
    · obtain ⟨h1, h2, h3, h4⟩ := hF c (at1_mem h)
      exact ⟨h1, h2, by omega, by omega⟩
    · cases h
  split at h
  · split at h
    · obtain ⟨d, hd, rfl⟩ := Option.map_eq_some_iff.mp h
      obtain ⟨h1, h2, h3, h4⟩ := hc d (at1_mem hd)
      exact ⟨h2, h1, by show d.2.length ≤ _; omega, by show d.1.length ≤ _; omega⟩
    · cases h
  split at h
  · split at h
    · obtain ⟨d, hd, h⟩ := Option.bind_eq_some_iff.mp h
      obtain ⟨e, he, h⟩ := Option.bind_eq_some_iff.mp h
      obtain ⟨h1, h2, h3, h4⟩ := hc d (at1_mem hd)
      obtain ⟨g1, g2, g3, g4⟩ := hc e (at1_mem he)
      unfold onM at h
      split at h
      · cases h
        have := cutF_len e.1 d.2.length
        exact ⟨h1.app (cutF_wd g1 _), g2, by show (d.1 ++ _).length ≤ _; rw [len_app]; omega, by show e.2.length ≤ _; omega⟩
      · cases h
    · cases h
  split at h
  · split at h
    · obtain ⟨d, hd, h⟩ := Option.bind_eq_some_iff.mp h
      obtain ⟨h1, h2, h3, h4⟩ := hc d (at1_mem hd)
      unfold homeM at h
      split at h
      · cases h
      · rename_i hn
        cases h
        have := cutB_len d.1 (d.1.length - 1)
        exact ⟨h1.app (wd_one (flip_sgn (last_sg h1 hn).1)), cutB_wd h1 _, by show (d.1 ++ one _).length ≤ _; rw [len_app, len_one]; omega, by show (cutB d.1 _).length ≤ _; omega⟩
    · cases h
  split at h
  · split at h
    · obtain ⟨d, hd, h⟩ := Option.bind_eq_some_iff.mp h
      obtain ⟨e, he, h⟩ := Option.bind_eq_some_iff.mp h
      obtain ⟨h1, h2, h3, h4⟩ := hc d (at1_mem hd)
      obtain ⟨g1, g2, g3, g4⟩ := hL e (at1_mem he)
      obtain ⟨t, _, _, rfl⟩ := likeM_some h
      have := cutB_len d.1 (d.1.length - (oldS e t).length)
      have hw : Wd (newS e t) ∧ (newS e t).length ≤ M := by
        cases t
        · exact ⟨g1, g3⟩
        · exact ⟨g2, g4⟩
      exact ⟨(cutB_wd h1 _).app hw.1, h2, by show (cutB d.1 _ ++ _).length ≤ _; rw [len_app]; omega, by show d.2.length ≤ _; omega⟩
    · cases h
  split at h
  · split at h
    · obtain ⟨d, hd, h⟩ := Option.bind_eq_some_iff.mp h
      obtain ⟨h1, h2, h3, h4⟩ := hc d (at1_mem hd)
      unfold partM at h
      obtain ⟨k, _, rfl⟩ := Option.map_eq_some_iff.mp h
      have := cutB_len d.1 k
      exact ⟨cutB_wd h1 _, cutB_wd h1 _, by show (cutB d.1 k).length ≤ _; omega, by show (cutB d.1 k).length ≤ _; omega⟩
    · cases h
  · cases h
/-- all claims of a paper, None where a step makes none -/
def runM (F L : List Clm) : List (Str × List V) → List Clm → Option (List Clm)
  | [], cs => some cs
  | r :: rs, cs => (claimM F L cs r.1 r.2).bind fun c => runM F L rs (cs ++ [c])
end Sf
namespace Sf
open PySem PySem.Spec PyProof.Rows L2 TL
/-- a step of a paper: its word and what stands behind it -/
abbrev Row := Str × List V
def RwAt (H : Hp) (v : V) (r : Row) : Prop := ∃ t, v = .ref t ∧ H t = some (.tup (.str r.1 :: r.2))
theorem rw_tps {H H' : Hp} (s : Tps H H') {vs : List V} {rs : List Row} (h : Paired (RwAt H) vs rs) : Paired (RwAt H') vs rs := Paired.mapP h fun v m ⟨t, e, ht⟩ => ⟨t, e, s _ _ ht⟩
end Sf
namespace Sf
open PySem PySem.Spec PyProof.Rows L2 TL
/-! ### trails: steps and their claims -/
theorem runM_snoc {F L : List Clm} {r : Row} : ∀ (rs : List Row) (c0 cs : List Clm) (c : Clm), runM F L rs c0 = some cs → claimM F L cs r.1 r.2 = some c → runM F L (rs ++ [r]) c0 = some (cs ++ [c])
  | [], c0, cs, c, h, hc => by
    cases h
    show (claimM F L c0 r.1 r.2).bind (fun c => runM F L [] (c0 ++ [c])) = _
    rw [hc]
    rfl
  | q :: rs, c0, cs, c, h, hc => by
    obtain ⟨d, h1, h2⟩ := Option.bind_eq_some_iff.mp (show (claimM F L c0 q.1 q.2).bind (fun c => runM F L rs (c0 ++ [c])) = some cs from h)
    show (claimM F L c0 q.1 q.2).bind (fun c => runM F L (rs ++ [r]) (c0 ++ [c])) = _
    rw [h1]
    exact runM_snoc rs _ cs c h2 hc
theorem runM_len {F L : List Clm} : ∀ (rs : List Row) (c0 cs : List Clm), runM F L rs c0 = some cs → cs.length = c0.length + rs.length
  | [], c0, cs, h => by cases h; rfl
  | q :: rs, c0, cs, h => by
    obtain ⟨d, h1, h2⟩ := Option.bind_eq_some_iff.mp (show (claimM F L c0 q.1 q.2).bind (fun c => runM F L rs (c0 ++ [c])) = some cs from h)
    have := runM_len rs _ cs h2
    rw [List.length_append] at this
    have e : [d].length = 1 := rfl
    show cs.length = c0.length + (rs.length + 1)
    omega
/-- the step that made a claim, and the claims ahead of it -/
theorem runM_at {F L : List Clm} : ∀ (rs : List Row) (c0 cs : List Clm), runM F L rs c0 = some cs → ∀ i r, rs[i]? = some r → ∃ pre c, pre <+: cs ∧ pre.length = c0.length + i ∧ claimM F L pre r.1 r.2 = some c ∧ cs[c0.length + i]? = some c
  | q :: rs, c0, cs, h, i, r, hi => by
    obtain ⟨d, h1, h2⟩ := Option.bind_eq_some_iff.mp (show (claimM F L c0 q.1 q.2).bind (fun c => runM F L rs (c0 ++ [c])) = some cs from h)
    have pre : ∀ (rs : List Row) (c0 cs : List Clm), runM F L rs c0 = some cs → c0 <+: cs := fun rs => by
      induction rs with
      | nil => intro c0 cs h; cases h; exact List.prefix_refl _
      | cons q rs ih =>
        intro c0 cs h
        obtain ⟨d, h1, h2⟩ := Option.bind_eq_some_iff.mp (show (claimM F L c0 q.1 q.2).bind (fun c => runM F L rs (c0 ++ [c])) = some cs from h)
        exact (List.prefix_append c0 [d]).trans (ih _ _ h2)
    cases i with
    | zero =>
      cases hi
      refine ⟨c0, d, (List.prefix_append c0 [d]).trans (pre _ _ _ h2), rfl, h1, ?_⟩
      obtain ⟨t, rfl⟩ := pre _ _ _ h2
      rw [List.append_assoc, Nat.add_zero, List.getElem?_append_right (Nat.le_refl _), Nat.sub_self]
      rfl
    | succ i =>
      obtain ⟨p, c, g1, g2, g3, g4⟩ := runM_at rs _ cs h2 i r hi
      rw [List.length_append] at g2 g4
      have e : [d].length = 1 := rfl
      rw [e] at g2 g4
      exact ⟨p, c, g1, by omega, g3, by rw [show c0.length + (i + 1) = c0.length + 1 + i by omega]; exact g4⟩
/-- what is kept by the steps that need neither facts nor likenesses -/
structure Clo (Φ : Clm → Prop) : Prop where
  start : Φ (Str.ofString "", Str.ofString "")
  turn : ∀ x y, Φ (x, y) → Φ (y, x)
  on : ∀ x y t z, Φ (x, y) → Φ (y ++ t, z) → Φ (x ++ t, z)
  home : ∀ x s y, sgn s = true → Φ (x ++ one s, y) → Φ (x ++ one s ++ one (flipC s), x)
  part : ∀ x t y, Φ (x ++ t, y) → Φ (x, x)
/-- of what papers are: facts, likenesses, and something that all their claims keep -/
structure Px where
  F : List Clm
  L : List Clm
  Φ : Clm → Prop
  clo : Clo Φ
structure Trl where
  rows : List Row
  cs : List Clm
/-- a trail that makes its claims, each of which is so -/
structure TOk (X : Px) (t : Trl) : Prop where
  run : runM X.F X.L t.rows [] = some t.cs
  so : ∀ c ∈ t.cs, X.Φ c
def Trl.add (t : Trl) (r : Row) (c : Clm) : Trl := ⟨t.rows ++ [r], t.cs ++ [c]⟩
theorem TOk.len {X : Px} {t : Trl} (h : TOk X t) : t.cs.length = t.rows.length := by
  have := runM_len _ _ _ h.run
  rw [this]
  exact Nat.zero_add _
theorem TOk.lt {X : Px} {t : Trl} (h : TOk X t) {n : Nat} {c : Clm} (hn : t.cs[n]? = some c) : n < t.rows.length := by
  rw [← h.len]
  exact (List.getElem?_eq_some_iff.mp hn).1
theorem TOk.add {X : Px} {t : Trl} (h : TOk X t) {r : Row} {c : Clm} (hc : claimM X.F X.L t.cs r.1 r.2 = some c) (hp : X.Φ c) : TOk X (t.add r c) := ⟨runM_snoc _ _ _ _ h.run hc, fun d hd => by
  rcases List.mem_append.mp hd with z | z
  · exact h.so d z
  · rw [List.mem_singleton.mp z]; exact hp⟩
theorem TOk.at {X : Px} {t : Trl} (h : TOk X t) {n : Nat} {c : Clm} (hn : t.cs[n]? = some c) : X.Φ c := h.so c (List.mem_of_getElem? hn)
theorem at1_get {cs : List Clm} {n : Nat} {c : Clm} (h : cs[n]? = some c) : at1 cs (.int (n : Int)) = some c := by
  unfold at1
  have hn : n < cs.length := (List.getElem?_eq_some_iff.mp h).1
  rw [numV_int, if_pos ⟨by omega, by omega⟩]
  exact h
theorem w1 : ¬ (Str.ofString "turn" = Str.ofString "start") := by decide +kernel
theorem w2 : ¬ (Str.ofString "turn" = Str.ofString "fact") := by decide +kernel
theorem w3 : ¬ (Str.ofString "on" = Str.ofString "start") := by decide +kernel
theorem w4 : ¬ (Str.ofString "on" = Str.ofString "fact") := by decide +kernel
theorem w5 : ¬ (Str.ofString "on" = Str.ofString "turn") := by decide +kernel
theorem w6 : ¬ (Str.ofString "home" = Str.ofString "start") := by decide +kernel
theorem w7 : ¬ (Str.ofString "home" = Str.ofString "fact") := by decide +kernel
theorem w8 : ¬ (Str.ofString "home" = Str.ofString "turn") := by decide +kernel
theorem w9 : ¬ (Str.ofString "home" = Str.ofString "on") := by decide +kernel
theorem w10 : ¬ (Str.ofString "part" = Str.ofString "start") := by decide +kernel
theorem w11 : ¬ (Str.ofString "part" = Str.ofString "fact") := by decide +kernel
theorem w12 : ¬ (Str.ofString "part" = Str.ofString "turn") := by decide +kernel
theorem w13 : ¬ (Str.ofString "part" = Str.ofString "on") := by decide +kernel
theorem w14 : ¬ (Str.ofString "part" = Str.ofString "home") := by decide +kernel
theorem w15 : ¬ (Str.ofString "part" = Str.ofString "like") := by decide +kernel
theorem w16 : ¬ (Str.ofString "fact" = Str.ofString "start") := by decide +kernel
theorem w17 : ¬ (Str.ofString "like" = Str.ofString "start") := by decide +kernel
theorem w18 : ¬ (Str.ofString "like" = Str.ofString "fact") := by decide +kernel
theorem w19 : ¬ (Str.ofString "like" = Str.ofString "turn") := by decide +kernel
theorem w20 : ¬ (Str.ofString "like" = Str.ofString "on") := by decide +kernel
theorem w21 : ¬ (Str.ofString "like" = Str.ofString "home") := by decide +kernel
section
variable {F L cs : List Clm}
theorem cl_start : claimM F L cs (Str.ofString "start") [] = some (Str.ofString "", Str.ofString "") := by
  unfold claimM
  rw [if_pos rfl]
theorem cl_fact {n : Nat} {c : Clm} (h : F[n]? = some c) : claimM F L cs (Str.ofString "fact") [.int (n : Int)] = some c := by
  unfold claimM
  rw [if_neg w16, if_pos rfl]
  exact at1_get h
theorem cl_turn {n : Nat} {x y : Str} (h : cs[n]? = some (x, y)) : claimM F L cs (Str.ofString "turn") [.int (n : Int)] = some (y, x) := by
  unfold claimM
  rw [if_neg w1, if_neg w2, if_pos rfl]
  show (at1 cs (.int (n : Int))).map _ = _
  rw [at1_get h]
  rfl
theorem starts_app (y t : Str) : startsL (y ++ t) y = true := by
  unfold startsL
  rw [tl_append]
  exact decide_eq_true (List.take_left ..)
theorem cutF_app (y t : Str) : cutF (y ++ t) y.length = t := by
  unfold cutF
  rw [tl_append, len_tl, List.drop_left]
  exact ext_tl rfl
theorem cutB_app (y t : Str) : cutB (y ++ t) y.length = y := by
  unfold cutB
  rw [tl_append, len_tl, List.take_left]
  exact ext_tl rfl
theorem cl_on {n m : Nat} {x y t z : Str} (h : cs[n]? = some (x, y)) (g : cs[m]? = some (y ++ t, z)) : claimM F L cs (Str.ofString "on") [.int (n : Int), .int (m : Int)] = some (x ++ t, z) := by
  unfold claimM
  rw [if_neg w3, if_neg w4, if_neg w5, if_pos rfl]
  show (at1 cs (.int (n : Int))).bind _ = _
  rw [at1_get h]
  show (at1 cs (.int (m : Int))).bind _ = _
  rw [at1_get g]
  show onM (x, y) (y ++ t, z) = _
  unfold onM
  dsimp only
  rw [if_pos (starts_app y t), cutF_app]
theorem last_app (x : Str) (s : Nat) : lastC (x ++ one s) = s := by
  unfold lastC
  rw [tl_append, tl_one, List.getLastD_eq_getLast?, List.getLast?_append]
  rfl
theorem one_ne (x : Str) (s : Nat) : ¬ x ++ one s = Str.ofString "" := fun e => by
  have := congrArg tl e
  rw [tl_append, tl_one, tl_empty] at this
  have := congrArg List.length this
  rw [List.length_append] at this
  have e1 : [s].length = 1 := rfl
  have e2 : ([] : List Nat).length = 0 := rfl
  omega
theorem cl_home {n : Nat} {x y : Str} {s : Nat} (h : cs[n]? = some (x ++ one s, y)) : claimM F L cs (Str.ofString "home") [.int (n : Int)] = some (x ++ one s ++ one (flipC s), x) := by
  unfold claimM
  rw [if_neg w6, if_neg w7, if_neg w8, if_neg w9, if_pos rfl]
  show (at1 cs (.int (n : Int))).bind _ = _
  rw [at1_get h]
  show homeM (x ++ one s, y) = _
  unfold homeM
  dsimp only
  rw [if_neg (one_ne x s), last_app, len_app, len_one, Nat.add_sub_cancel, cutB_app]
theorem cl_part {n : Nat} {x t y : Str} (h : cs[n]? = some (x ++ t, y)) : claimM F L cs (Str.ofString "part") [.int (n : Int), .int ((x.length : Nat) : Int)] = some (x, x) := by
  unfold claimM
  rw [if_neg w10, if_neg w11, if_neg w12, if_neg w13, if_neg w14, if_neg w15, if_pos rfl]
  show (at1 cs (.int (n : Int))).bind _ = _
  rw [at1_get h]
  show partM (x ++ t, y) (.int ((x.length : Nat) : Int)) = _
  unfold partM
  rw [numV_int, if_pos ⟨by omega, by rw [len_app]; omega⟩, Int.toNat_natCast]
  show some (cutB (x ++ t) x.length, cutB (x ++ t) x.length) = _
  rw [cutB_app]
theorem cl_like {n k : Nat} {x y : Str} {l : Clm} {t : Bool} (h : cs[n]? = some (x ++ oldS l t, y)) (g : L[k]? = some l) : claimM F L cs (Str.ofString "like") [.int (n : Int), .int (k : Int), .bl t] = some (x ++ newS l t, y) := by
  unfold claimM
  rw [if_neg w17, if_neg w18, if_neg w19, if_neg w20, if_neg w21, if_pos rfl]
  show (at1 cs (.int (n : Int))).bind _ = _
  rw [at1_get h]
  show (at1 L (.int (k : Int))).bind _ = _
  rw [at1_get g]
  show likeM (x ++ oldS l t, y) l (.bl t) = _
  unfold likeM
  dsimp only
  have e : (x ++ oldS l t).length - (oldS l t).length = x.length := by rw [len_app]; omega
  have he : endsL (x ++ oldS l t) (oldS l t) = true := by
    unfold endsL
    rw [tl_append, List.length_append]
    refine decide_eq_true ⟨by omega, ?_⟩
    rw [Nat.add_sub_cancel, List.drop_left]
  rw [if_pos he, e, cutB_app]
end
/-- a longer trail -/
structure TExt (X : Px) (t t' : Trl) (k : Nat) : Prop where
  ok : TOk X t'
  rows : t.rows <+: t'.rows
  cs : t.cs <+: t'.cs
  len : t'.rows.length ≤ t.rows.length + k
section
variable {X : Px} {t u v : Trl} {k j n : Nat} {c : Clm}
theorem TExt.refl (h : TOk X t) : TExt X t t 0 := ⟨h, List.prefix_refl _, List.prefix_refl _, Nat.le_refl _⟩
theorem TExt.trans (a : TExt X t u k) (b : TExt X u v j) : TExt X t v (k + j) := ⟨b.ok, a.rows.trans b.rows, a.cs.trans b.cs, by have := a.len; have := b.len; omega⟩
theorem TExt.mono (a : TExt X t u k) (h : k ≤ j) : TExt X t u j := ⟨a.ok, a.rows, a.cs, by have := a.len; omega⟩
theorem TExt.add (h : TOk X t) {r : Row} (hc : claimM X.F X.L t.cs r.1 r.2 = some c) (hp : X.Φ c) : TExt X t (t.add r c) 1 := ⟨h.add hc hp, List.prefix_append _ _, List.prefix_append _ _, by
  show (t.rows ++ [r]).length ≤ _
  rw [List.length_append]
  exact Nat.le_refl _⟩
theorem TExt.get (a : TExt X t u k) (h : t.cs[n]? = some c) : u.cs[n]? = some c := by
  obtain ⟨r, e⟩ := a.cs
  rw [← e, List.getElem?_append_left (List.getElem?_eq_some_iff.mp h).1]
  exact h
theorem Trl.add_get (h : TOk X t) (r : Row) (c : Clm) : (t.add r c).cs[t.rows.length]? = some c := by
  show (t.cs ++ [c])[t.rows.length]? = some c
  rw [← h.len, List.getElem?_append_right (Nat.le_refl _), Nat.sub_self]
  rfl
theorem TExt.turn (h : TOk X t) {x y : Str} (g : t.cs[n]? = some (x, y)) : TExt X t (t.add (Str.ofString "turn", [.int (n : Int)]) (y, x)) 1 := .add h (cl_turn g) (X.clo.turn _ _ (h.at g))
theorem TExt.on (h : TOk X t) {m : Nat} {x y z w : Str} (g : t.cs[n]? = some (x, y)) (g2 : t.cs[m]? = some (y ++ w, z)) : TExt X t (t.add (Str.ofString "on", [.int (n : Int), .int (m : Int)]) (x ++ w, z)) 1 := .add h (cl_on g g2) (X.clo.on _ _ _ _ (h.at g) (h.at g2))
theorem TExt.home (h : TOk X t) {x y : Str} {s : Nat} (hs : sgn s = true) (g : t.cs[n]? = some (x ++ one s, y)) : TExt X t (t.add (Str.ofString "home", [.int (n : Int)]) (x ++ one s ++ one (flipC s), x)) 1 := .add h (cl_home g) (X.clo.home _ _ _ hs (h.at g))
theorem TExt.part (h : TOk X t) {x w y : Str} (g : t.cs[n]? = some (x ++ w, y)) : TExt X t (t.add (Str.ofString "part", [.int (n : Int), .int ((x.length : Nat) : Int)]) (x, x)) 1 := .add h (cl_part g) (X.clo.part _ _ _ (h.at g))
end
/-- what a step that is a turning has turned -/
theorem TOk.turned {X : Px} {t : Trl} (h : TOk X t) {n : Nat} {x y : Str} {v : V} {as : List V} (g : t.cs[n]? = some (x, y)) (hr : t.rows[n]? = some (Str.ofString "turn", v :: as)) : ∃ m : Nat, v = .int (m : Int) ∧ m < n ∧ t.cs[m]? = some (y, x) := by
  obtain ⟨pre, c, h1, h2, h3, h4⟩ := runM_at _ _ _ h.run _ _ hr
  have e0 : ([] : List Clm).length = 0 := rfl
  rw [e0, Nat.zero_add] at h2 h4
  rw [g] at h4
  cases h4
  unfold claimM at h3
  rw [if_neg w1, if_neg w2, if_pos rfl] at h3
  cases as with
  | cons b as => cases h3
  | nil =>
    obtain ⟨d, hd, e⟩ := Option.map_eq_some_iff.mp h3
    unfold at1 at hd
    obtain ⟨k, hk, hd2⟩ := Option.bind_eq_some_iff.mp hd
    obtain ⟨rfl, hk2⟩ := numV_some hk
    refine ⟨k, rfl, by omega, ?_⟩
    obtain ⟨r, er⟩ := h1
    rw [← er, List.getElem?_append_left hk2, hd2]
    obtain ⟨d1, d2⟩ := d
    obtain ⟨rfl, rfl⟩ := Prod.mk.inj e
    rfl
/-- no step is without a word behind 'turn' -/
theorem TOk.turn1 {X : Px} {t : Trl} (h : TOk X t) {n : Nat} {as : List V} (hr : t.rows[n]? = some (Str.ofString "turn", as)) : ∃ v, as = [v] := by
  obtain ⟨pre, c, h1, h2, h3, h4⟩ := runM_at _ _ _ h.run _ _ hr
  unfold claimM at h3
  rw [if_neg w1, if_neg w2, if_pos rfl] at h3
  match as, h3 with
  | [v], _ => exact ⟨v, rfl⟩
  | [], h3 => cases h3
  | _ :: _ :: _, h3 => cases h3
end Sf
namespace Sf
open PySem PySem.Spec PyProof.Rows L2 TL
theorem apE (x : Str) : x ++ Str.ofString "" = x := ext_tl (by rw [tl_append, tl_empty]; exact List.append_nil _)
theorem eAp (x : Str) : Str.ofString "" ++ x = x := ext_tl (by rw [tl_append, tl_empty]; rfl)
/-! ### dicts of pairs of numbers -/
abbrev Pd := List (Nat × Nat × Nat)
def gA (es : Pd) (k : Nat) : Option (Nat × Nat) := (es.find? fun e => decide (e.1 = k)).map (·.2)
def pA (es : Pd) (k : Nat) (v : Nat × Nat) : Pd := if (gA es k).isSome = true then es.map (fun e => if e.1 = k then (e.1, v) else e) else es ++ [(k, v)]
def dA (es : Pd) (k : Nat) : Pd := es.filter fun e => decide (e.1 ≠ k)
theorem gA_nil (k : Nat) : gA [] k = none := rfl
theorem gA_cons (e : Nat × Nat × Nat) (es : Pd) (k : Nat) : gA (e :: es) k = if e.1 = k then some e.2 else gA es k := by
  unfold gA
  rw [List.find?_cons]
  by_cases h : e.1 = k
  · rw [decide_eq_true h, if_pos h]; rfl
  · rw [decide_eq_false h, if_neg h]
theorem gA_mem {es : Pd} {k : Nat} {v : Nat × Nat} (h : gA es k = some v) : (k, v) ∈ es := by
  induction es with
  | nil => cases h
  | cons e es ih =>
    rw [gA_cons] at h
    split at h
    · rename_i he
      cases h
      rw [← he]
      exact List.mem_cons_self
    · exact List.mem_cons_of_mem _ (ih h)
theorem gA_of {es : Pd} (nd : (es.map (·.1)).Nodup) {e : Nat × Nat × Nat} (h : e ∈ es) : gA es e.1 = some e.2 := by
  induction es with
  | nil => cases h
  | cons a es ih =>
    have nd' := List.nodup_cons.mp nd
    rw [gA_cons]
    rcases List.mem_cons.mp h with rfl | h
    · rw [if_pos rfl]
    · rw [if_neg (fun z => nd'.1 (by show a.1 ∈ _; rw [z]; exact List.mem_map.mpr ⟨e, h, rfl⟩))]
      exact ih nd'.2 h
theorem gA_app (es : Pd) (k j : Nat) (v : Nat × Nat) : gA (es ++ [(k, v)]) j = match gA es j with | some x => some x | none => if k = j then some v else none := by
  induction es with
  | nil => rw [List.nil_append, gA_cons]; rfl
  | cons a es ih =>
    rw [List.cons_append, gA_cons, gA_cons, ih]
    split <;> rfl
theorem gA_none {es : Pd} {k : Nat} : gA es k = none ↔ k ∉ es.map (·.1) := by
  unfold gA
  rw [Option.map_eq_none_iff, List.find?_eq_none]
  simp only [List.mem_map, decide_eq_true_eq, not_exists, not_and]
theorem gA_put (es : Pd) (k j : Nat) (v : Nat × Nat) : gA (pA es k v) j = if j = k then some v else gA es j := by
  unfold pA
  by_cases h : (gA es k).isSome = true
  · rw [if_pos h]
    have key : ∀ es : Pd, gA (es.map fun e => if e.1 = k then (e.1, v) else e) j = if j = k then (if (gA es k).isSome = true then some v else none) else gA es j := fun es => by
      induction es with
      | nil => by_cases e : j = k <;> simp [gA_nil, e]
      | cons a es ih =>
        rw [List.map_cons, gA_cons, ih]
        by_cases e : a.1 = k
        · rw [if_pos e]
          by_cases e2 : j = k
          · rw [if_pos e2, if_pos e2, if_pos (by show a.1 = j; omega), if_pos]
            rw [gA_cons, if_pos e]; rfl
          · rw [if_neg e2, if_neg e2, if_neg (by show ¬ a.1 = j; omega), gA_cons, if_neg (by omega)]
        · rw [if_neg e]
          by_cases e2 : j = k
          · rw [if_pos e2, if_pos e2, if_neg (by omega), gA_cons, if_neg e]
          · rw [if_neg e2, if_neg e2, gA_cons]
    rw [key es]
    by_cases e : j = k
    · rw [if_pos e, if_pos e, if_pos h]
    · rw [if_neg e, if_neg e]
  · rw [if_neg h, gA_app]
    have hn : gA es k = none := by
      cases e : gA es k with
      | none => rfl
      | some x => rw [e] at h; exact absurd rfl h
    by_cases e : j = k
    · subst e
      rw [hn, if_pos rfl]
    · rw [if_neg e]
      cases gA es j with
      | none => show (if k = j then some v else none) = none; rw [if_neg (fun z => e z.symm)]
      | some x => rfl
theorem gA_drop (es : Pd) (k j : Nat) : gA (dA es k) j = if j = k then none else gA es j := by
  induction es with
  | nil => by_cases e : j = k <;> simp [dA, gA_nil, e]
  | cons a es ih =>
    unfold dA at ih ⊢
    by_cases e : a.1 = k
    · rw [List.filter_cons_of_neg (by simp [e]), ih, gA_cons]
      by_cases e2 : j = k
      · rw [if_pos e2, if_pos e2]
      · rw [if_neg e2, if_neg e2, if_neg (by omega)]
    · rw [List.filter_cons_of_pos (by simp [e]), gA_cons, ih, gA_cons]
      by_cases e2 : j = k
      · rw [if_pos e2, if_pos e2, if_neg (by omega)]
      · rw [if_neg e2, if_neg e2]
theorem pA_new {es : Pd} {k : Nat} {v : Nat × Nat} (h : gA es k = none) : pA es k v = es ++ [(k, v)] := by
  unfold pA
  rw [if_neg (by rw [h]; decide)]
theorem pA_len {es : Pd} {k : Nat} {v : Nat × Nat} : (pA es k v).length ≤ es.length + 1 := by
  unfold pA
  split
  · rw [List.length_map]; omega
  · rw [List.length_append]; exact Nat.le_refl _
theorem pA_keys {es : Pd} {k : Nat} {v : Nat × Nat} (h : (gA es k).isSome = true) : (pA es k v).map (·.1) = es.map (·.1) := by
  unfold pA
  rw [if_pos h, List.map_map]
  refine List.map_congr_left fun e _ => ?_
  show (if e.1 = k then (e.1, v) else e).1 = e.1
  split <;> rfl
theorem pA_nd {es : Pd} {k : Nat} {v : Nat × Nat} (nd : (es.map (·.1)).Nodup) : ((pA es k v).map (·.1)).Nodup := by
  by_cases h : (gA es k).isSome = true
  · rw [pA_keys h]; exact nd
  · have hn : gA es k = none := by
      cases e : gA es k with
      | none => rfl
      | some x => rw [e] at h; exact absurd rfl h
    rw [pA_new hn, List.map_append, List.nodup_append]
    refine ⟨nd, List.pairwise_singleton _ _, fun a ha b hb z => ?_⟩
    rw [List.mem_singleton.mp hb] at z
    rw [z] at ha
    exact gA_none.mp hn ha
theorem dA_nd {es : Pd} {k : Nat} (nd : (es.map (·.1)).Nodup) : ((dA es k).map (·.1)).Nodup := nd.sublist (List.filter_sublist.map _)
theorem dA_len {es : Pd} {k : Nat} (nd : (es.map (·.1)).Nodup) {v : Nat × Nat} (h : gA es k = some v) : (dA es k).length + 1 = es.length := by
  induction es with
  | nil => cases h
  | cons a es ih =>
    have nd' := List.nodup_cons.mp nd
    rw [gA_cons] at h
    unfold dA at ih ⊢
    by_cases e : a.1 = k
    · rw [List.filter_cons_of_neg (by simp [e])]
      rw [List.filter_eq_self.mpr (fun b hb => by
        simp only [ne_eq, decide_not, Bool.not_eq_true', decide_eq_false_iff_not]
        exact fun z => nd'.1 (by show a.1 ∈ _; rw [e, ← z]; exact List.mem_map.mpr ⟨b, hb, rfl⟩))]
      rfl
    · rw [if_neg e] at h
      rw [List.filter_cons_of_pos (by simp [e]), List.length_cons, ih nd'.2 h]
      rfl
/-! in the heap -/
def PdE (f : Nat → Key) (H : Hp) (kv : Key × V) (e : Nat × Nat × Nat) : Prop := kv.1 = f e.1 ∧ ∃ t, kv.2 = .ref t ∧ H t = some (.tup [.int (e.2.1 : Nat), .int (e.2.2 : Nat)])
abbrev PdAt (f : Nat → Key) (H : Hp) (kvs : List (Key × V)) (es : Pd) : Prop := Paired (PdE f H) kvs es
def kSg (s : Nat) : Key := Sum.inr (one s)
def kPl (p : Nat) : Key := Sum.inl (p : Int)
theorem kSg_inj {a b : Nat} (h : kSg a = kSg b) : a = b := one_inj (Sum.inr.inj h)
theorem kPl_inj {a b : Nat} (h : kPl a = kPl b) : a = b := Int.ofNat.inj (Sum.inl.inj h)
theorem PdAt.tps {f : Nat → Key} {H H' : Hp} {kvs : List (Key × V)} {es : Pd} (h : PdAt f H kvs es) (T : Tps H H') : PdAt f H' kvs es := Paired.mono (fun _ _ ⟨e, t, h1, h2⟩ => ⟨e, t, h1, T _ _ h2⟩) h
theorem PdAt.len {f : Nat → Key} {H : Hp} {kvs : List (Key × V)} {es : Pd} (h : PdAt f H kvs es) : kvs.length = es.length := Paired.length h
theorem PdAt.miss {f : Nat → Key} (fi : ∀ {a b}, f a = f b → a = b) {H : Hp} : ∀ {kvs : List (Key × V)} {es : Pd}, PdAt f H kvs es → ∀ k, gA es k = none → valV kvs (f k) = none
  | _, _, .nil, _, _ => rfl
  | _, _, .cons (a := kv) (b := e) ⟨h1, t, h2, h3⟩ r, k, h => by
    rw [gA_cons] at h
    split at h
    · cases h
    · rename_i hne
      rw [valV_neg (fun z => hne (fi (h1.symm.trans z)))]
      exact PdAt.miss fi r k h
theorem PdAt.hit {f : Nat → Key} (fi : ∀ {a b}, f a = f b → a = b) {H : Hp} : ∀ {kvs : List (Key × V)} {es : Pd}, PdAt f H kvs es → ∀ k q c, gA es k = some (q, c) → ∃ t, valV kvs (f k) = some (.ref t) ∧ H t = some (.tup [.int (q : Nat), .int (c : Nat)])
  | _, _, .nil, _, _, _, h => by cases h
  | _, _, .cons (a := kv) (b := e) ⟨h1, t, h2, h3⟩ r, k, q, c, h => by
    rw [gA_cons] at h
    split at h
    · rename_i he
      have h := Option.some.inj h
      subst he
      rw [h] at h3
      exact ⟨t, by rw [valV_pos h1, h2], h3⟩
    · rename_i hne
      obtain ⟨t', g1, g2⟩ := PdAt.hit fi r k q c h
      exact ⟨t', by rw [valV_neg (fun z => hne (fi (h1.symm.trans z)))]; exact g1, g2⟩
theorem PdAt.isSome {f : Nat → Key} (fi : ∀ {a b}, f a = f b → a = b) {H : Hp} {kvs : List (Key × V)} {es : Pd} (h : PdAt f H kvs es) (k : Nat) : (valV kvs (f k)).isSome = (gA es k).isSome := by
  cases e : gA es k with
  | none => rw [h.miss fi k e]; rfl
  | some v =>
    obtain ⟨q, c⟩ := v
    obtain ⟨t, h1, _⟩ := h.hit fi k q c e
    rw [h1]
    rfl
theorem PdAt.put {f : Nat → Key} (fi : ∀ {a b}, f a = f b → a = b) {H : Hp} {kvs : List (Key × V)} {es : Pd} (h : PdAt f H kvs es) {k q c : Nat} {t : Addr} (ht : H t = some (HO.tup [.int (q : Nat), .int (c : Nat)])) : PdAt f H (putK kvs (f k) (.ref t)) (pA es k (q, c)) := by
  unfold putK pA
  rw [valV_any, h.isSome fi k]
  by_cases e : (gA es k).isSome = true
  · rw [if_pos e, if_pos e]
    have key : ∀ {kvs : List (Key × V)} {es : Pd}, PdAt f H kvs es → PdAt f H (kvs.map fun kv => if kv.1 = f k then (kv.1, V.ref t) else kv) (es.map fun e => if e.1 = k then (e.1, (q, c)) else e) := fun {kvs es} h => by
      induction h with
      | nil => exact .nil
      | cons r _ ih =>
        rename_i kv e _ _ _
        obtain ⟨h1, t', h2, h3⟩ := r
        refine .cons ?_ ih
        show PdE f H (if kv.1 = f k then (kv.1, V.ref t) else kv) (if e.1 = k then (e.1, q, c) else e)
        by_cases e2 : e.1 = k
        · rw [if_pos e2, if_pos (by rw [h1, e2])]
          exact ⟨h1, t, rfl, ht⟩
        · rw [if_neg e2, if_neg (fun z => e2 (fi (h1.symm.trans z)))]
          exact ⟨h1, t', h2, h3⟩
    exact key h
  · rw [if_neg e, if_neg e]
    exact Paired.snoc h ⟨rfl, t, rfl, ht⟩
theorem PdAt.drop {f : Nat → Key} (fi : ∀ {a b}, f a = f b → a = b) {H : Hp} {k : Nat} : ∀ {kvs : List (Key × V)} {es : Pd}, PdAt f H kvs es → PdAt f H (dropK kvs (f k)) (dA es k)
  | _, _, .nil => .nil
  | _, _, .cons (a := kv) (b := e) ⟨h1, t, h2, h3⟩ r => by
    have ih := PdAt.drop fi (k := k) r
    unfold dropK dA at ih ⊢
    by_cases e2 : e.1 = k
    · rw [List.filter_cons_of_neg (by simp [h1, e2]), List.filter_cons_of_neg (by simp [e2])]
      exact ih
    · rw [List.filter_cons_of_pos (by simp; exact fun z => e2 (fi (h1.symm.trans z))), List.filter_cons_of_pos (by simp [e2])]
      exact .cons ⟨h1, t, h2, h3⟩ ih
theorem PdAt.keys {f : Nat → Key} {H : Hp} {kvs : List (Key × V)} {es : Pd} (h : PdAt f H kvs es) : kvs.map (·.1) = es.map fun e => f e.1 := by
  induction h with
  | nil => rfl
  | cons r _ ih => rw [List.map_cons, List.map_cons, ih, r.1]
end Sf
namespace Sf
open PySem PySem.Spec PyProof.Rows L2 TL
/-! ### places with ways, each with its way back; those that facts make -/
structure Aut (κ : Type) where
  st : κ
  nx : κ → Nat → Option κ
  sg : ∀ p s q, nx p s = some q → sgn s = true
  inv : ∀ p s q, nx p s = some q → nx q (flipC s) = some p
def Aut.go {κ : Type} (T : Aut κ) : κ → List Nat → Option κ
  | p, [] => some p
  | p, s :: l => (T.nx p s).bind fun q => T.go q l
section
variable {κ : Type} {T : Aut κ}
theorem Aut.go_app : ∀ (l r : List Nat) (p : κ), T.go p (l ++ r) = (T.go p l).bind fun q => T.go q r
  | [], _, _ => rfl
  | s :: l, r, p => by
    show (T.nx p s).bind (fun q => T.go q (l ++ r)) = ((T.nx p s).bind fun q => T.go q l).bind _
    cases e : T.nx p s with
    | none => rfl
    | some q => exact Aut.go_app l r q
/-- two words lead to one place -/
def Aut.Hd (T : Aut κ) (c : Clm) : Prop := ∃ r, T.go T.st (tl c.1) = some r ∧ T.go T.st (tl c.2) = some r
theorem Aut.pre {l r : List Nat} {p q : κ} (h : T.go p (l ++ r) = some q) : ∃ m, T.go p l = some m ∧ T.go m r = some q := by
  rw [Aut.go_app] at h
  exact Option.bind_eq_some_iff.mp h
theorem Aut.clo (T : Aut κ) : Clo T.Hd where
  start := ⟨T.st, by rw [tl_empty]; rfl, by rw [tl_empty]; rfl⟩
  turn := fun x y ⟨r, a, b⟩ => ⟨r, b, a⟩
  on := fun x y t z ⟨r, a, b⟩ ⟨r', a', b'⟩ => by
    have a' : T.go T.st (tl (y ++ t)) = some r' := a'
    rw [tl_append, Aut.go_app, show T.go T.st (tl y) = some r from b] at a'
    exact ⟨r', by show T.go T.st (tl (x ++ t)) = _; rw [tl_append, Aut.go_app, show T.go T.st (tl x) = some r from a]; exact a', b'⟩
  home := fun x s y _ ⟨r, a, b⟩ => by
    have a : T.go T.st (tl (x ++ one s)) = some r := a
    rw [tl_append] at a
    obtain ⟨m, h1, h2⟩ := Aut.pre a
    obtain ⟨q, h3, h4⟩ := Option.bind_eq_some_iff.mp (show (T.nx m s).bind (fun q => T.go q []) = some r from h2)
    have h5 := T.inv _ _ _ h3
    refine ⟨m, ?_, h1⟩
    show T.go T.st (tl (x ++ one s ++ one (flipC s))) = some m
    rw [tl_append, tl_append, Aut.go_app, Aut.go_app, h1]
    show ((T.nx m s).bind fun q => T.go q []).bind _ = _
    rw [h3]
    show (T.nx q (flipC s)).bind (fun q => T.go q []) = _
    rw [h5]
    rfl
  part := fun x t y ⟨r, a, b⟩ => by
    have a : T.go T.st (tl (x ++ t)) = some r := a
    rw [tl_append] at a
    obtain ⟨m, h1, _⟩ := Aut.pre a
    exact ⟨m, h1, h1⟩
end
/-- what holds wherever the facts do -/
def pxF (F : List Clm) : Px where
  F := F
  L := []
  Φ := fun c => ∀ (κ : Type) (T : Aut κ), (∀ f ∈ F, T.Hd f) → T.Hd c
  clo :=
    { start := fun κ T _ => T.clo.start
      turn := fun x y h κ T f => T.clo.turn x y (h κ T f)
      on := fun x y t z h g κ T f => T.clo.on x y t z (h κ T f) (g κ T f)
      home := fun x s y hs h κ T f => T.clo.home x s y hs (h κ T f)
      part := fun x t y h κ T f => T.clo.part x t y (h κ T f) }
/-- facts hold in it, and what leads in it leads so wherever they hold -/
structure Uni {κ : Type} (F : List Clm) (A : Aut κ) : Prop where
  so : ∀ f ∈ F, A.Hd f
  un : ∀ (u v : Str) (r : κ), A.go A.st (tl u) = some r → A.go A.st (tl v) = some r → ∀ (μ : Type) (T : Aut μ), (∀ f ∈ F, T.Hd f) → T.Hd (u, v)
theorem Uni.lead {κ μ : Type} {F : List Clm} {A : Aut κ} {B : Aut μ} (a : Uni F A) (b : Uni F B) {u : Str} {r : κ} (h : A.go A.st (tl u) = some r) : ∃ q, B.go B.st (tl u) = some q := by
  obtain ⟨q, h1, _⟩ := a.un u u r h h μ B b.so
  exact ⟨q, h1⟩
theorem Uni.same {κ μ : Type} {F : List Clm} {A : Aut κ} {B : Aut μ} (a : Uni F A) (b : Uni F B) {u v : Str} {r r' : κ} {q q' : μ} (h1 : A.go A.st (tl u) = some r) (h2 : A.go A.st (tl v) = some r') (g1 : B.go B.st (tl u) = some q) (g2 : B.go B.st (tl v) = some q') : r = r' ↔ q = q' := by
  constructor
  · rintro rfl
    obtain ⟨p, e1, e2⟩ := a.un u v r h1 h2 μ B b.so
    have e1 : B.go B.st (tl u) = some p := e1
    have e2 : B.go B.st (tl v) = some p := e2
    rw [g1] at e1
    rw [g2] at e2
    exact Option.some.inj (e1.trans e2.symm)
  · rintro rfl
    obtain ⟨p, e1, e2⟩ := b.un u v q g1 g2 κ A a.so
    have e1 : A.go A.st (tl u) = some p := e1
    have e2 : A.go A.st (tl v) = some p := e2
    rw [h1] at e1
    rw [h2] at e2
    exact Option.some.inj (e1.trans e2.symm)
/-! a fold -/

def fnd (l : List (Nat × Nat)) (c : Nat) : Option Nat := (l.find? fun e => decide (e.1 = c)).map (·.2)
theorem flip_flip {s : Nat} (h : sgn s = true) : flipC (flipC s) = s := flip2 h
def oPl : Option Nat → V
  | some p => .int (p : Nat)
  | none => .non
theorem lk_app (l r : List (Int × Int)) (x : Int) : lk (l ++ r) x = (lk l x).or (lk r x) := by
  unfold lk
  rw [List.find?_append]
  cases l.find? fun p => decide (p.1 = x) <;> rfl
end Sf
namespace Sf
open PySem PySem.Spec PyProof.Rows L2 TL
/-! ### links: places with ways, or told by another place -/
inductive EqG (r : Nat → Nat → Prop) : Nat → Nat → Prop
  | refl (a : Nat) : EqG r a a
  | fwd {a b c : Nat} : r a b → EqG r b c → EqG r a c
  | bwd {a b c : Nat} : r b a → EqG r b c → EqG r a c
theorem EqG.trans {r : Nat → Nat → Prop} {a b c : Nat} (h : EqG r a b) (k : EqG r b c) : EqG r a c := by
  induction h with
  | refl _ => exact k
  | fwd e _ ih => exact .fwd e (ih k)
  | bwd e _ ih => exact .bwd e (ih k)
theorem EqG.one {r : Nat → Nat → Prop} {a b : Nat} (h : r a b) : EqG r a b := .fwd h (.refl b)
theorem EqG.symm {r : Nat → Nat → Prop} {a b : Nat} (h : EqG r a b) : EqG r b a := by
  induction h with
  | refl _ => exact .refl _
  | fwd e _ ih => exact ih.trans (.bwd e (.refl _))
  | bwd e _ ih => exact ih.trans (.fwd e (.refl _))
theorem EqG.mono {r r' : Nat → Nat → Prop} (m : ∀ a b, r a b → EqG r' a b) {a b : Nat} (h : EqG r a b) : EqG r' a b := by
  induction h with
  | refl _ => exact .refl _
  | fwd e _ ih => exact (m _ _ e).trans ih
  | bwd e _ ih => exact (m _ _ e).symm.trans ih
/-- what is alike on pairs is alike on all that they make one -/
theorem EqG.fn {r : Nat → Nat → Prop} {α : Type} (φ : Nat → α) (m : ∀ a b, r a b → φ a = φ b) {a b : Nat} (h : EqG r a b) : φ a = φ b := by
  induction h with
  | refl _ => rfl
  | fwd e _ ih => exact (m _ _ e).trans ih
  | bwd e _ ih => exact (m _ _ e).symm.trans ih
/-- ways, up to what is one -/
abbrev WyR := Nat → Nat → Nat → Prop
def InvL (r : Nat → Nat → Prop) (W : WyR) : Prop := ∀ a s b, W a s b → ∃ b' a', W b' (flipC s) a' ∧ EqG r b b' ∧ EqG r a a'
/-- a step from one state of the links to the next: nothing comes apart, ways stay up to what is one -/
structure TrL (r : Nat → Nat → Prop) (W : WyR) (r' : Nat → Nat → Prop) (W' : WyR) : Prop where
  r : ∀ a b, r a b → EqG r' a b
  to : ∀ a s b, W a s b → ∃ a' b', W' a' s b' ∧ EqG r' a a' ∧ EqG r' b b'
  back : ∀ a s b, W' a s b → ∃ a' b', W a' s b' ∧ EqG r' a a' ∧ EqG r' b b'
section
variable {r r' r2 : Nat → Nat → Prop} {W W' W2 : WyR}
theorem TrL.inv (t : TrL r W r' W') (h : InvL r W) : InvL r' W' := fun a s b w => by
  obtain ⟨a1, b1, w1, ea, eb⟩ := t.back a s b w
  obtain ⟨b2, a2, w2, fb, fa⟩ := h a1 s b1 w1
  obtain ⟨b3, a3, w3, gb, ga⟩ := t.to b2 (flipC s) a2 w2
  exact ⟨b3, a3, w3, (eb.trans (fb.mono t.r)).trans gb, (ea.trans (fa.mono t.r)).trans ga⟩
theorem TrL.refl (r : Nat → Nat → Prop) (W : WyR) : TrL r W r W := ⟨fun _ _ h => .one h, fun a s b w => ⟨a, b, w, .refl _, .refl _⟩, fun a s b w => ⟨a, b, w, .refl _, .refl _⟩⟩
theorem TrL.trans (t : TrL r W r' W') (u : TrL r' W' r2 W2) : TrL r W r2 W2 := by
  refine ⟨fun a b h => (t.r a b h).mono u.r, fun a s b w => ?_, fun a s b w => ?_⟩
  · obtain ⟨a1, b1, w1, ea, eb⟩ := t.to a s b w
    obtain ⟨a2, b2, w2, fa, fb⟩ := u.to a1 s b1 w1
    exact ⟨a2, b2, w2, (ea.mono u.r).trans fa, (eb.mono u.r).trans fb⟩
  · obtain ⟨a1, b1, w1, ea, eb⟩ := u.back a s b w
    obtain ⟨a2, b2, w2, fa, fb⟩ := t.back a1 s b1 w1
    exact ⟨a2, b2, w2, ea.trans (fa.mono u.r), eb.trans (fb.mono u.r)⟩
/-- reached from 0 -/
inductive CnL (r : Nat → Nat → Prop) (W : WyR) : Nat → Prop
  | zero : CnL r W 0
  | way {a a' s b b' : Nat} : CnL r W a → EqG r a a' → W a' s b → EqG r b b' → CnL r W b'
theorem TrL.cn (t : TrL r W r' W') {p : Nat} (h : CnL r W p) : CnL r' W' p := by
  induction h with
  | zero => exact .zero
  | way _ e w f ih =>
    obtain ⟨a1, b1, w1, ea, eb⟩ := t.to _ _ _ w
    exact .way ih ((e.mono t.r).trans ea) w1 (eb.symm.trans (f.mono t.r))
end
/-! the state of links -/
abbrev Lk := Nat ⊕ List (Nat × Nat)
def wyL (ls : List Lk) (i s : Nat) : Option Nat := match ls[i]? with | some (.inr es) => fnd es s | _ => none
def ptL (ls : List Lk) (i : Nat) : Option Nat := match ls[i]? with | some (.inl h) => some h | _ => none
/-- one by a pointer, or to be made one -/
def rlL (ls : List Lk) (todo : List (Nat × Nat)) : Nat → Nat → Prop := fun a b => ptL ls a = some b ∨ (a, b) ∈ todo
/-- ways; those in hand are ways of x -/
def wsL (ls : List Lk) (rem : List (Nat × Nat)) (x : Nat) : WyR := fun a s b => wyL ls a s = some b ∨ (a = x ∧ (s, b) ∈ rem)
/-- into a thing with ways -/
structure HoL {κ : Type} (T : Aut κ) (φ : Nat → κ) (ls : List Lk) (todo rem : List (Nat × Nat)) (x : Nat) : Prop where
  pt : ∀ a b, rlL ls todo a b → φ a = φ b
  wy : ∀ a s b, wsL ls rem x a s b → T.nx (φ a) s = some (φ b)
theorem fnd_app (l r : List (Nat × Nat)) (c : Nat) : fnd (l ++ r) c = (fnd l c).or (fnd r c) := by
  unfold fnd
  rw [List.find?_append]
  cases l.find? fun e => decide (e.1 = c) <;> rfl
theorem fnd_one (s e c : Nat) : fnd [(s, e)] c = if s = c then some e else none := by
  unfold fnd
  rw [List.find?_cons, List.find?_nil]
  by_cases h : s = c
  · rw [decide_eq_true h, if_pos h]; rfl
  · rw [decide_eq_false h, if_neg h]; rfl
theorem fnd_mem {l : List (Nat × Nat)} {c e : Nat} (h : fnd l c = some e) : (c, e) ∈ l := by
  unfold fnd at h
  obtain ⟨x, hx, rfl⟩ := Option.map_eq_some_iff.mp h
  have := List.mem_of_find?_eq_some hx
  have e := List.find?_some (p := fun e : Nat × Nat => decide (e.1 = c)) hx
  have e : x.1 = c := of_decide_eq_true e
  rw [← e]
  exact this
theorem fnd_of : ∀ {l : List (Nat × Nat)} {c e : Nat}, (l.map (·.1)).Nodup → (c, e) ∈ l → fnd l c = some e
  | a :: l, c, e, nd, h => by
    have nd' := List.nodup_cons.mp nd
    have ea : fnd (a :: l) c = if a.1 = c then some a.2 else fnd l c := by
      have := fnd_app [a] l c
      rw [show [a] = [(a.1, a.2)] from rfl, fnd_one] at this
      rw [show a :: l = [(a.1, a.2)] ++ l from rfl, this]
      split <;> rfl
    rw [ea]
    rcases List.mem_cons.mp h with rfl | h
    · rw [if_pos rfl]
    · rw [if_neg (fun z => nd'.1 (by show a.1 ∈ _; rw [z]; exact List.mem_map.mpr ⟨_, h, rfl⟩))]
      exact fnd_of nd'.2 h
section
variable {ls : List Lk} {todo rem ex ey : List (Nat × Nat)} {x y s e e0 : Nat}
/-- the greater of two places is told by the lesser one; its ways are in hand -/
theorem pt_set (hx : ls[x]? = some (.inr ex)) (hy : ls[y]? = some (.inr ey)) (xy : x ≠ y) (a : Nat) : ptL (ls.set y (.inl x)) a = if a = y then some x else ptL ls a := by
  unfold ptL
  by_cases h : a = y
  · subst h
    rw [List.getElem?_set_self (List.getElem?_eq_some_iff.mp hy).1, if_pos rfl]
  · rw [List.getElem?_set_ne (fun z => h z.symm), if_neg h]
theorem wy_set (hx : ls[x]? = some (.inr ex)) (hy : ls[y]? = some (.inr ey)) (xy : x ≠ y) (a s : Nat) : wyL (ls.set y (.inl x)) a s = if a = y then none else wyL ls a s := by
  unfold wyL
  by_cases h : a = y
  · subst h
    rw [List.getElem?_set_self (List.getElem?_eq_some_iff.mp hy).1, if_pos rfl]
  · rw [List.getElem?_set_ne (fun z => h z.symm), if_neg h]
theorem ptL_row (hy : ls[y]? = some (.inr ey)) : ptL ls y = none := by
  unfold ptL
  rw [hy]
theorem wyL_row (hy : ls[y]? = some (.inr ey)) (s : Nat) : wyL ls y s = fnd ey s := by
  unfold wyL
  rw [hy]
/-- the join of two heads, its ways in hand yet -/
theorem tr_set {a b x0 : Nat} {todo' : List (Nat × Nat)} (hx : ls[x]? = some (.inr ex)) (hy : ls[y]? = some (.inr ey)) (xy : x ≠ y) (nd : (ey.map (·.1)).Nodup) (ht : ∀ p ∈ todo, p = (a, b) ∨ p ∈ todo') (hs : (EqG (rlL ls []) a x ∧ EqG (rlL ls []) b y) ∨ (EqG (rlL ls []) a y ∧ EqG (rlL ls []) b x)) :
    TrL (rlL ls todo) (wsL ls [] x0) (rlL (ls.set y (.inl x)) todo') (wsL (ls.set y (.inl x)) ey x) := by
  have yx : EqG (rlL (ls.set y (.inl x)) todo') y x := .one (.inl (by rw [pt_set hx hy xy, if_pos rfl]))
  have pk : ∀ u v, ptL ls u = some v → rlL (ls.set y (.inl x)) todo' u v := fun u v h => .inl (by
    rw [pt_set hx hy xy, if_neg (fun z => by rw [z, ptL_row hy] at h; cases h)]
    exact h)
  have po : ∀ {u v}, EqG (rlL ls []) u v → EqG (rlL (ls.set y (.inl x)) todo') u v := fun h => h.mono fun u v h => by
    rcases h with h | h
    · exact .one (pk u v h)
    · cases h
  refine ⟨fun u v h => ?_, fun u s v h => ?_, fun u s v h => ?_⟩
  · rcases h with h | h
    · exact .one (pk u v h)
    · rcases ht _ h with e | e
      · cases e
        rcases hs with ⟨h1, h2⟩ | ⟨h1, h2⟩
        · exact (po h1).trans (yx.symm.trans (po h2).symm)
        · exact (po h1).trans (yx.trans (po h2).symm)
      · exact .one (.inr e)
  · rcases h with h | ⟨_, h⟩
    · by_cases e : u = y
      · subst e
        rw [wyL_row hy] at h
        exact ⟨x, v, .inr ⟨rfl, fnd_mem h⟩, yx, .refl _⟩
      · exact ⟨u, v, .inl (by rw [wy_set hx hy xy, if_neg e]; exact h), .refl _, .refl _⟩
    · cases h
  · rcases h with h | ⟨rfl, h⟩
    · rw [wy_set hx hy xy] at h
      split at h
      · cases h
      · exact ⟨u, v, .inl h, .refl _, .refl _⟩
    · exact ⟨y, v, .inl (by rw [wyL_row hy]; exact fnd_of nd h), yx.symm, .refl _⟩
/-- a way in hand whose sign is there -/
theorem tr_todo (hx : ls[x]? = some (.inr ex)) (hf : fnd ex s = some e0) {todo' : List (Nat × Nat)} (ht : ∀ p, p ∈ todo' ↔ p ∈ todo ∨ p = (e0, e)) : TrL (rlL ls todo) (wsL ls ((s, e) :: rem) x) (rlL ls todo') (wsL ls rem x) := by
  have e0e : EqG (rlL ls todo') e0 e := .one (.inr ((ht _).mpr (.inr rfl)))
  refine ⟨fun u v h => .one (h.imp id fun h => (ht _).mpr (.inl h)), fun u t v h => ?_, fun u t v h => ⟨u, v, h.imp id fun ⟨h1, h2⟩ => ⟨h1, List.mem_cons_of_mem _ h2⟩, .refl _, .refl _⟩⟩
  rcases h with h | ⟨rfl, h⟩
  · exact ⟨u, v, .inl h, .refl _, .refl _⟩
  · rcases List.mem_cons.mp h with h | h
    · cases h
      exact ⟨u, e0, .inl (by rw [wyL_row hx]; exact hf), .refl _, e0e.symm⟩
    · exact ⟨u, v, .inr ⟨rfl, h⟩, .refl _, .refl _⟩
/-- a way in hand whose sign is new -/
theorem wy_add (hx : ls[x]? = some (.inr ex)) (hf : fnd ex s = none) (a t : Nat) : wyL (ls.set x (.inr (ex ++ [(s, e)]))) a t = if a = x ∧ t = s then some e else wyL ls a t := by
  by_cases h : a = x
  · subst h
    have : wyL (ls.set a (.inr (ex ++ [(s, e)]))) a t = fnd (ex ++ [(s, e)]) t := wyL_row (List.getElem?_set_self (List.getElem?_eq_some_iff.mp hx).1) t
    rw [this, fnd_app, fnd_one, wyL_row hx]
    by_cases h2 : t = s
    · subst h2
      rw [hf, if_pos rfl, if_pos ⟨rfl, rfl⟩]; rfl
    · rw [if_neg (fun z => h2 z.symm), if_neg (fun z => h2 z.2), Option.or_none]
  · rw [if_neg (fun z => h z.1)]
    unfold wyL
    rw [List.getElem?_set_ne (fun z => h z.symm)]
theorem pt_add (hx : ls[x]? = some (.inr ex)) (v : List (Nat × Nat)) (a : Nat) : ptL (ls.set x (.inr v)) a = ptL ls a := by
  by_cases h : a = x
  · subst h
    rw [ptL_row hx, ptL_row (List.getElem?_set_self (List.getElem?_eq_some_iff.mp hx).1)]
  · unfold ptL
    rw [List.getElem?_set_ne (fun z => h z.symm)]
theorem tr_add (hx : ls[x]? = some (.inr ex)) (hf : fnd ex s = none) : TrL (rlL ls todo) (wsL ls ((s, e) :: rem) x) (rlL (ls.set x (.inr (ex ++ [(s, e)]))) todo) (wsL (ls.set x (.inr (ex ++ [(s, e)]))) rem x) := by
  refine ⟨fun u v h => .one (h.imp (fun h => by rw [pt_add hx]; exact h) id), fun u t v h => ⟨u, v, ?_, .refl _, .refl _⟩, fun u t v h => ⟨u, v, ?_, .refl _, .refl _⟩⟩
  · rcases h with h | ⟨rfl, h⟩
    · refine .inl ?_
      rw [wy_add hx hf, if_neg (fun z => by rw [z.1, z.2, wyL_row hx, hf] at h; cases h)]
      exact h
    · rcases List.mem_cons.mp h with h | h
      · cases h
        exact .inl (by rw [wy_add hx hf, if_pos ⟨rfl, rfl⟩])
      · exact .inr ⟨rfl, h⟩
  · rcases h with h | ⟨rfl, h⟩
    · rw [wy_add hx hf] at h
      split at h
      · rename_i z
        cases h
        exact .inr ⟨z.1, by rw [z.2]; exact List.mem_cons_self⟩
      · exact .inl h
    · exact .inr ⟨rfl, List.mem_cons_of_mem _ h⟩
/-! into whatever the facts hold in -/
theorem ho_set {κ : Type} {T : Aut κ} {φ : Nat → κ} {a b x0 : Nat} {todo' : List (Nat × Nat)} (H : HoL T φ ls todo [] x0) (hx : ls[x]? = some (.inr ex)) (hy : ls[y]? = some (.inr ey)) (xy : x ≠ y) (nd : (ey.map (·.1)).Nodup) (hab : (a, b) ∈ todo) (ht : ∀ p ∈ todo', p ∈ todo) (hs : (EqG (rlL ls []) a x ∧ EqG (rlL ls []) b y) ∨ (EqG (rlL ls []) a y ∧ EqG (rlL ls []) b x)) : HoL T φ (ls.set y (.inl x)) todo' ey x := by
  have pf : ∀ {u v}, EqG (rlL ls []) u v → φ u = φ v := fun h => h.fn φ fun u v h => by
    rcases h with h | h
    · exact H.pt u v (.inl h)
    · cases h
  have e : φ x = φ y := by
    have h0 := H.pt a b (.inr hab)
    rcases hs with ⟨h1, h2⟩ | ⟨h1, h2⟩
    · rw [← pf h1, ← pf h2, h0]
    · rw [← pf h1, ← pf h2, h0]
  refine ⟨fun u v h => ?_, fun u s v h => ?_⟩
  · rcases h with h | h
    · rw [pt_set hx hy xy] at h
      split at h
      · rename_i z
        cases h
        rw [z, e]
      · exact H.pt u v (.inl h)
    · exact H.pt u v (.inr (ht _ h))
  · rcases h with h | ⟨rfl, h⟩
    · rw [wy_set hx hy xy] at h
      split at h
      · cases h
      · exact H.wy u s v (.inl h)
    · rw [e]
      exact H.wy y s v (.inl (by rw [wyL_row hy]; exact fnd_of nd h))
theorem ho_todo {κ : Type} {T : Aut κ} {φ : Nat → κ} {todo' : List (Nat × Nat)} (H : HoL T φ ls todo ((s, e) :: rem) x) (hx : ls[x]? = some (.inr ex)) (hf : fnd ex s = some e0) (ht : ∀ p, p ∈ todo' ↔ p ∈ todo ∨ p = (e0, e)) : HoL T φ ls todo' rem x := by
  refine ⟨fun u v h => ?_, fun u t v h => H.wy u t v (h.imp id fun ⟨h1, h2⟩ => ⟨h1, List.mem_cons_of_mem _ h2⟩)⟩
  rcases h with h | h
  · exact H.pt u v (.inl h)
  · rcases (ht _).mp h with h | h
    · exact H.pt u v (.inr h)
    · cases h
      have h1 := H.wy x s e0 (.inl (by rw [wyL_row hx]; exact hf))
      have h2 := H.wy x s e (.inr ⟨rfl, List.mem_cons_self⟩)
      rw [h1] at h2
      exact Option.some.inj h2
theorem ho_add {κ : Type} {T : Aut κ} {φ : Nat → κ} (H : HoL T φ ls todo ((s, e) :: rem) x) (hx : ls[x]? = some (.inr ex)) (hf : fnd ex s = none) : HoL T φ (ls.set x (.inr (ex ++ [(s, e)]))) todo rem x := by
  refine ⟨fun u v h => H.pt u v (h.imp (fun h => by rw [pt_add hx] at h; exact h) id), fun u t v h => ?_⟩
  rcases h with h | ⟨rfl, h⟩
  · rw [wy_add hx hf] at h
    split at h
    · rename_i z
      cases h
      exact H.wy u t e (.inr ⟨z.1, by rw [z.2]; exact List.mem_cons_self⟩)
    · exact H.wy u t v (.inl h)
  · exact H.wy u t v (.inr ⟨rfl, List.mem_cons_of_mem _ h⟩)
/-! links that are well -/
structure LkOk (ls : List Lk) : Prop where
  lt : ∀ i h, ptL ls i = some h → h < i
  nd : ∀ (i : Nat) (es : List (Nat × Nat)), ls[i]? = some (.inr es) → (es.map (·.1)).Nodup
  rg : ∀ i s q, wyL ls i s = some q → sgn s = true ∧ q < ls.length
/-- the head of a place -/
inductive HdL (ls : List Lk) : Nat → Nat → Prop
  | row {i : Nat} {es : List (Nat × Nat)} : ls[i]? = some (.inr es) → HdL ls i i
  | pt {i h r : Nat} : ptL ls i = some h → HdL ls h r → HdL ls i r
theorem HdL.eq {i r : Nat} (h : HdL ls i r) : EqG (rlL ls []) i r := by
  induction h with
  | row _ => exact .refl _
  | pt e _ ih => exact .fwd (.inl e) ih
theorem HdL.is {i r : Nat} (h : HdL ls i r) : ∃ es, ls[r]? = some (.inr es) := by
  induction h with
  | row e => exact ⟨_, e⟩
  | pt _ _ ih => exact ih
theorem HdL.fn {i r r' : Nat} (h : HdL ls i r) (h' : HdL ls i r') : r = r' := by
  induction h with
  | row e =>
    cases h' with
    | row _ => rfl
    | pt e' _ => rw [ptL_row e] at e'; cases e'
  | pt e _ ih =>
    cases h' with
    | row e' => rw [ptL_row e'] at e; cases e
    | pt e' t' =>
      rw [e] at e'
      cases e'
      exact ih t'
theorem HdL.le (ok : LkOk ls) {i r : Nat} (h : HdL ls i r) : r ≤ i := by
  induction h with
  | row _ => exact Nat.le_refl _
  | pt e _ ih => exact Nat.le_trans ih (Nat.le_of_lt (ok.lt _ _ e))
theorem LkOk.hd (ok : LkOk ls) : ∀ (n i : Nat), i < n → i < ls.length → ∃ r, HdL ls i r
  | 0, _, h, _ => by omega
  | n + 1, i, h, hl => by
    cases e : ls[i]? with
    | none => exact absurd (List.getElem?_eq_none_iff.mp e) (by omega)
    | some v =>
      cases v with
      | inr es => exact ⟨i, .row e⟩
      | inl p =>
        have hp : ptL ls i = some p := by unfold ptL; rw [e]
        have := ok.lt i p hp
        obtain ⟨r, hr⟩ := ok.hd n p (by omega) (by omega)
        exact ⟨r, .pt hp hr⟩
/-- heads are alike where nothing is to be made one -/
theorem EqG.hd (ok : LkOk ls) {a b : Nat} (h : EqG (rlL ls []) a b) : ∀ {r}, HdL ls a r → HdL ls b r := by
  induction h with
  | refl _ => exact id
  | fwd e _ ih =>
    intro r hr
    rcases e with e | e
    · cases hr with
      | row e' => rw [ptL_row e'] at e; cases e
      | pt e' t =>
        rw [e] at e'
        cases e'
        exact ih t
    · cases e
  | bwd e _ ih =>
    intro r hr
    rcases e with e | e
    · exact ih (.pt e hr)
    · cases e
end
end Sf
namespace Sf
open PySem PySem.Spec PyProof.Rows L2 TL
/-! ### a way more, and its way back -/
def adW (W : WyR) (a s b : Nat) : WyR := fun u t v => W u t v ∨ (u = a ∧ t = s ∧ v = b)
section
variable {r r' : Nat → Nat → Prop} {W W' : WyR} {a b s : Nat}
theorem TrL.ad (t : TrL r W r' W') (a s b : Nat) : TrL r (adW W a s b) r' (adW W' a s b) := by
  refine ⟨t.r, fun u c v h => ?_, fun u c v h => ?_⟩
  · rcases h with h | h
    · obtain ⟨a1, b1, w, e, f⟩ := t.to u c v h
      exact ⟨a1, b1, .inl w, e, f⟩
    · exact ⟨u, v, .inr h, .refl _, .refl _⟩
  · rcases h with h | h
    · obtain ⟨a1, b1, w, e, f⟩ := t.back u c v h
      exact ⟨a1, b1, .inl w, e, f⟩
    · exact ⟨u, v, .inr h, .refl _, .refl _⟩
theorem InvL.ad (h : InvL r W) (hs : sgn s = true) : InvL r (adW (adW W a s b) b (flipC s) a) := fun u c v w => by
  rcases w with (w | ⟨rfl, rfl, rfl⟩) | ⟨rfl, rfl, rfl⟩
  · obtain ⟨b1, a1, w1, e, f⟩ := h u c v w
    exact ⟨b1, a1, .inl (.inl w1), e, f⟩
  · exact ⟨v, u, .inr ⟨rfl, rfl, rfl⟩, .refl _, .refl _⟩
  · exact ⟨v, u, .inl (.inr ⟨rfl, flip_flip hs, rfl⟩), .refl _, .refl _⟩
theorem CnL.mono (hW : ∀ u c v, W u c v → W' u c v) {p : Nat} (h : CnL r W p) : CnL r W' p := by
  induction h with
  | zero => exact .zero
  | way _ e w f ih => exact .way ih e (hW _ _ _ w) f
theorem CnL.ad (h : CnL r W a) : CnL r (adW (adW W a s b) b (flipC s) a) b := .way (h.mono fun _ _ _ w => .inl (.inl w)) (.refl _) (.inl (.inr ⟨rfl, rfl, rfl⟩)) (.refl _)
end
section
variable {ls : List Lk} {ex : List (Nat × Nat)} {a x s b e0 x0 : Nat}
/-- half a link: the sign is there -/
theorem tr_half1 (hd : HdL ls a x) (hx : ls[x]? = some (.inr ex)) (hf : fnd ex s = some e0) : TrL (rlL ls []) (adW (wsL ls [] x0) a s b) (rlL ls [(e0, b)]) (wsL ls [] x0) := by
  have m : ∀ u v, rlL ls [] u v → rlL ls [(e0, b)] u v := fun u v h => h.imp id fun h => by cases h
  have eb : EqG (rlL ls [(e0, b)]) b e0 := EqG.symm (.one (.inr List.mem_cons_self))
  refine ⟨fun u v h => .one (m u v h), fun u c v h => ?_, fun u c v h => ⟨u, v, .inl h, .refl _, .refl _⟩⟩
  rcases h with h | ⟨rfl, rfl, rfl⟩
  · exact ⟨u, v, h, .refl _, .refl _⟩
  · exact ⟨x, e0, .inl (by rw [wyL_row hx]; exact hf), hd.eq.mono fun u v h => .one (m u v h), eb⟩
/-- half a link: the sign is new -/
theorem tr_half2 (hd : HdL ls a x) (hx : ls[x]? = some (.inr ex)) (hf : fnd ex s = none) : TrL (rlL ls []) (adW (wsL ls [] x0) a s b) (rlL (ls.set x (.inr (ex ++ [(s, b)]))) []) (wsL (ls.set x (.inr (ex ++ [(s, b)]))) [] x0) := by
  have m : ∀ u v, rlL ls [] u v → rlL (ls.set x (.inr (ex ++ [(s, b)]))) [] u v := fun u v h => h.imp (fun h => by rw [pt_add hx]; exact h) id
  have ax := hd.eq.mono fun u v h => .one (m u v h)
  refine ⟨fun u v h => .one (m u v h), fun u c v h => ?_, fun u c v h => ?_⟩
  · rcases h with (h | ⟨_, h⟩) | ⟨rfl, rfl, rfl⟩
    · exact ⟨u, v, .inl (by rw [wy_add hx hf, if_neg (fun z => by rw [z.1, z.2, wyL_row hx, hf] at h; cases h)]; exact h), .refl _, .refl _⟩
    · cases h
    · exact ⟨x, v, .inl (by rw [wy_add hx hf, if_pos ⟨rfl, rfl⟩]), ax, .refl _⟩
  · rcases h with h | ⟨_, h⟩
    · rw [wy_add hx hf] at h
      split at h
      · rename_i z
        cases h
        exact ⟨a, b, .inr ⟨rfl, z.2, rfl⟩, by rw [z.1]; exact ax.symm, .refl _⟩
      · exact ⟨u, v, .inl (.inl h), .refl _, .refl _⟩
    · cases h
theorem ho_half1 {κ : Type} {T : Aut κ} {φ : Nat → κ} (H : HoL T φ ls [] [] x0) (hd : HdL ls a x) (hx : ls[x]? = some (.inr ex)) (hf : fnd ex s = some e0) (hw : T.nx (φ a) s = some (φ b)) : HoL T φ ls [(e0, b)] [] x0 := by
  refine ⟨fun u v h => ?_, H.wy⟩
  rcases h with h | h
  · exact H.pt u v (.inl h)
  · obtain ⟨e1, e2⟩ := Prod.mk.inj (List.mem_singleton.mp h)
    rw [e1, e2]
    have e : φ a = φ x := hd.eq.fn φ H.pt
    have h1 := H.wy x s e0 (.inl (by rw [wyL_row hx]; exact hf))
    rw [← e, hw] at h1
    exact (Option.some.inj h1).symm
theorem ho_half2 {κ : Type} {T : Aut κ} {φ : Nat → κ} (H : HoL T φ ls [] [] x0) (hd : HdL ls a x) (hx : ls[x]? = some (.inr ex)) (hf : fnd ex s = none) (hw : T.nx (φ a) s = some (φ b)) : HoL T φ (ls.set x (.inr (ex ++ [(s, b)]))) [] [] x0 := by
  have e : φ a = φ x := hd.eq.fn φ H.pt
  refine ⟨fun u v h => H.pt u v (h.imp (fun h => by rw [pt_add hx] at h; exact h) id), fun u t v h => ?_⟩
  rcases h with h | ⟨_, h⟩
  · rw [wy_add hx hf] at h
    split at h
    · rename_i z
      cases h
      rw [z.1, z.2, ← e]
      exact hw
    · exact H.wy u t v (.inl h)
  · cases h
end
end Sf
namespace Sf
open PySem PySem.Spec PyProof.Rows L2 TL
section
variable {ls : List Lk} {ex ey : List (Nat × Nat)} {x y s e : Nat}
theorem fnd_none {l : List (Nat × Nat)} {c : Nat} (h : fnd l c = none) : c ∉ l.map (·.1) := fun hm => by
  obtain ⟨a, ha, rfl⟩ := List.mem_map.mp hm
  unfold fnd at h
  have := List.find?_eq_none.mp (Option.map_eq_none_iff.mp h) a ha
  exact this (decide_eq_true rfl)
theorem LkOk.set (ok : LkOk ls) (hx : ls[x]? = some (.inr ex)) (hy : ls[y]? = some (.inr ey)) (xy : x < y) : LkOk (ls.set y (.inl x)) := by
  have ne : x ≠ y := Nat.ne_of_lt xy
  refine ⟨fun i h e => ?_, fun i es e => ?_, fun i t q e => ?_⟩
  · rw [pt_set hx hy ne] at e
    split at e
    · rename_i z
      cases e
      rw [z]; exact xy
    · exact ok.lt i h e
  · by_cases z : i = y
    · rw [z, List.getElem?_set_self (List.getElem?_eq_some_iff.mp hy).1] at e
      cases e
    · rw [List.getElem?_set_ne (fun w => z w.symm)] at e
      exact ok.nd i es e
  · rw [wy_set hx hy ne] at e
    rw [List.length_set]
    split at e
    · cases e
    · exact ok.rg i t q e
theorem LkOk.add (ok : LkOk ls) (hx : ls[x]? = some (.inr ex)) (hf : fnd ex s = none) (hs : sgn s = true) (he : e < ls.length) : LkOk (ls.set x (.inr (ex ++ [(s, e)]))) := by
  refine ⟨fun i h w => ok.lt i h (by rw [pt_add hx] at w; exact w), fun i es w => ?_, fun i t q w => ?_⟩
  · by_cases z : i = x
    · rw [z, List.getElem?_set_self (List.getElem?_eq_some_iff.mp hx).1] at w
      cases w
      rw [List.map_append, List.nodup_append]
      refine ⟨ok.nd x ex hx, List.pairwise_singleton _ _, fun a ha b hb => ?_⟩
      rw [List.mem_singleton.mp hb]
      intro z
      have z : a = s := z
      exact fnd_none hf (by rw [← z]; exact ha)
    · rw [List.getElem?_set_ne (fun w => z w.symm)] at w
      exact ok.nd i es w
  · rw [List.length_set]
    rw [wy_add hx hf] at w
    split at w
    · rename_i z
      cases w
      rw [z.2]
      exact ⟨hs, he⟩
    · exact ok.rg i t q w
/-- a place more -/
theorem ptL_app (i : Nat) : ptL (ls ++ [.inr []]) i = ptL ls i := by
  unfold ptL
  by_cases h : i < ls.length
  · rw [List.getElem?_append_left h]
  · rw [List.getElem?_append_right (by omega), List.getElem?_eq_none (l := ls) (by omega)]
    cases i - ls.length with
    | zero => rfl
    | succ k => rfl
theorem wyL_app (i t : Nat) : wyL (ls ++ [.inr []]) i t = wyL ls i t := by
  unfold wyL
  by_cases h : i < ls.length
  · rw [List.getElem?_append_left h]
  · rw [List.getElem?_append_right (by omega), List.getElem?_eq_none (l := ls) (by omega)]
    cases i - ls.length with
    | zero => rfl
    | succ k => rfl
theorem LkOk.app (ok : LkOk ls) : LkOk (ls ++ [.inr []]) := by
  refine ⟨fun i h w => ok.lt i h (by rw [ptL_app] at w; exact w), fun i es w => ?_, fun i t q w => ?_⟩
  · by_cases h : i < ls.length
    · rw [List.getElem?_append_left h] at w
      exact ok.nd i es w
    · rw [List.getElem?_append_right (by omega)] at w
      match i - ls.length, w with
      | 0, w => cases w; exact .nil
      | k + 1, w => cases w
  · rw [wyL_app] at w
    obtain ⟨a, b⟩ := ok.rg i t q w
    rw [List.length_append]
    exact ⟨a, Nat.lt_of_lt_of_le b (Nat.le_add_right _ _)⟩
theorem rlL_app (todo : List (Nat × Nat)) : rlL (ls ++ [.inr []]) todo = rlL ls todo := by
  funext a b
  unfold rlL
  rw [ptL_app]
theorem wsL_app (rem : List (Nat × Nat)) (x : Nat) : wsL (ls ++ [.inr []]) rem x = wsL ls rem x := by
  funext a t b
  unfold wsL
  rw [wyL_app]
end
end Sf
namespace Sf
open PySem PySem.Spec PyProof.Rows L2 TL
section
variable {P : Program} {w : World} {K : PySem.W.Frag} {mg : Str → Option Value} {base : Heap}
/-! ### links in the heap -/
def LkE (H : Hp) (v : V) : Lk → Prop
  | .inl h => v = .int (h : Nat)
  | .inr es => ∃ d, v = .ref d ∧ H d = some (.dK (es.map fun e => (kSg e.1, V.int (e.2 : Nat))))
structure LksAt (H : Hp) (lp : Addr) (vs : List V) (ls : List Lk) : Prop where
  lst : H lp = some (.lst vs)
  at_ : Paired (LkE H) vs ls
  inj : ∀ (i j : Nat) (d : Addr), vs[i]? = some (.ref d) → vs[j]? = some (.ref d) → i = j
theorem paired_at {α β : Type} {R : α → β → Prop} : ∀ {as : List α} {bs : List β} {i : Nat} {b : β}, Paired R as bs → bs[i]? = some b → ∃ a, as[i]? = some a ∧ R a b
  | _, _, i, _, .nil, e => by simp at e
  | _, _, 0, _, .cons r _, e => by simp at e; subst e; exact ⟨_, rfl, r⟩
  | _, _, i + 1, x, .cons _ t, e => by
    obtain ⟨u, h1, h2⟩ := paired_at (i := i) (b := x) t (by simpa using e)
    exact ⟨u, by simpa using h1, h2⟩
/-! ### _law_head -/
def spLhd : Sp := fun vs H Q _ => ∃ (lp : Addr) (us : List V) (ls : List Lk) (i r : Nat), vs = [.ref lp, .int (i : Nat)] ∧ LksAt H lp us ls ∧ LkOk ls ∧ HdL ls i r ∧ i ≤ 100000 ∧ Q (.int (r : Nat)) H
theorem sc_lhd : FnScope ["_law_links", "_law_place"] ["_law_links", "_law_place"] (defScope s__law_head) := ⟨rfl, rfl, rfl, by decide +kernel, rfl, by decide +kernel, by decide +kernel⟩
theorem has_lhd (F : FnAt K mg "_law_head" s__law_head ["_law_links", "_law_place"]) (B : Blt mg) : Has P w K mg base 1 "_law_head" ["_law_links", "_law_place"] spLhd := F.has fun F => by
  refine F.ok sc_lhd (fun vs H Q E h => ?_) (fun cdv A outer s H vs Q E hr h => ?_)
  · obtain ⟨lp, us, ls, i, r, rfl, _⟩ := h
    rfl
  · obtain ⟨lp, us, ls, i, r, rfl, hL, ok, hd, hi, q⟩ := h
    refine ⟨_, (pss_cons (ps_while PassesOwn.never (pt_val (pe_callB call_isi (by rfl) B.isinstance (by decide +kernel) (pa_cons (pe_ix ix_list (pv 0) (pv 1) (fun _ _ => rfl)) (pa_cons (pe_bltn (v := .ty "int") (by rfl) B.int (by decide +kernel) rfl) pa_nil)))) (pss_one (ps_set (i := 1) sc_lhd.nd rfl (.inl rfl) (pe_ix ix_list (pv 0) (pv 1) (fun _ _ => rfl))))) (pss_one (ps_ret (pv 1)))), ?_⟩
    walk_at "go"
    refine w_while (m := i) (fun m σ H1 => ∃ j : Nat, σ = [some (.ref lp), some (.int (j : Nat))] ∧ H1 = H ∧ m = j ∧ HdL ls j r) ⟨i, rfl, rfl, rfl, hd⟩ ?_
    rintro m σ H1 ⟨j, rfl, rfl, rfl, hj⟩
    walk_at "go"
    cases hj with
    | row e =>
      obtain ⟨v, hv, hE⟩ : ∃ v, us[r]? = some v ∧ LkE H1 v (.inr _) := paired_at hL.at_ e
      obtain ⟨d, rfl, hdd⟩ := hE
      refine w_ixL hL.lst (atI_nat hv) ?_
      walk_at "go"
      refine ⟨_, _, _, _, false, rfl, .ty "int", .base (.dK hdd), kit_ty (by decide +kernel), ?_⟩
      refine w_kB (w_whF ?_)
      walk_at "go"
      exact q
    | pt e t =>
      rename_i h
      have e' : ls[m]? = some (.inl h) := by
        unfold ptL at e
        split at e
        · rename_i h0 hh
          cases e
          exact hh
        · cases e
      obtain ⟨v, hv, hE⟩ : ∃ v, us[m]? = some v ∧ LkE H1 v (.inl h) := paired_at hL.at_ e'
      have hE : v = .int (h : Nat) := hE
      subst hE
      refine w_ixL hL.lst (atI_nat hv) ?_
      walk_at "go"
      refine w_whT ?_
      walk_at "go"
      refine w_ixL hL.lst (atI_nat hv) ?_
      walk_at "go"
      exact ⟨h, ok.lt m h e, h, rfl, rfl, rfl, t⟩
end
end Sf
namespace Sf
open PySem PySem.Spec PyProof.Rows L2 TL
/-! ### a join, step by step -/
structure JnS (ls0 : List Lk) (todo0 : List (Nat × Nat)) (ls : List Lk) (todo rem : List (Nat × Nat)) (x : Nat) : Prop where
  ok : LkOk ls
  tr : TrL (rlL ls0 todo0) (wsL ls0 [] 0) (rlL ls todo) (wsL ls rem x)
  ho : ∀ (κ : Type) (T : Aut κ) (φ : Nat → κ), HoL T φ ls0 todo0 [] 0 → HoL T φ ls todo rem x
  len : ls.length = ls0.length
  td : ∀ p ∈ todo, p.1 < ls.length ∧ p.2 < ls.length
  rm : ∀ p ∈ rem, sgn p.1 = true ∧ p.2 < ls.length
section
variable {ls0 ls : List Lk} {todo0 todo todo' rem ex ey : List (Nat × Nat)} {x x' y s e e0 a b : Nat}
theorem wsL_nil (ls : List Lk) (x y : Nat) : wsL ls [] x = wsL ls [] y := by
  funext u t v
  unfold wsL
  simp
theorem JnS.init (ok : LkOk ls) (td : ∀ p ∈ todo, p.1 < ls.length ∧ p.2 < ls.length) : JnS ls todo ls todo [] 0 := ⟨ok, .refl _ _, fun _ _ _ h => h, rfl, td, fun p hp => by cases hp⟩
theorem JnS.ends (J : JnS ls0 todo0 ls todo [] x) : JnS ls0 todo0 ls todo [] x' := ⟨J.ok, by rw [wsL_nil ls x' x]; exact J.tr, fun κ T φ h => by
  have := J.ho κ T φ h
  exact ⟨this.pt, fun u t v w => this.wy u t v (by rw [wsL_nil ls x x']; exact w)⟩, J.len, J.td, J.rm⟩
theorem JnS.set (J : JnS ls0 todo0 ls todo [] x') (hx : ls[x]? = some (.inr ex)) (hy : ls[y]? = some (.inr ey)) (xy : x < y) (hab : (a, b) ∈ todo) (ht : ∀ p ∈ todo, p = (a, b) ∨ p ∈ todo') (ht' : ∀ p ∈ todo', p ∈ todo) (hs : (HdL ls a x ∧ HdL ls b y) ∨ (HdL ls a y ∧ HdL ls b x)) : JnS ls0 todo0 (ls.set y (.inl x)) todo' ey x := by
  have ne : x ≠ y := Nat.ne_of_lt xy
  have nd := J.ok.nd y ey hy
  have hs' : (EqG (rlL ls []) a x ∧ EqG (rlL ls []) b y) ∨ (EqG (rlL ls []) a y ∧ EqG (rlL ls []) b x) := hs.imp (fun ⟨p, q⟩ => ⟨p.eq, q.eq⟩) fun ⟨p, q⟩ => ⟨p.eq, q.eq⟩
  refine ⟨J.ok.set hx hy xy, J.tr.trans (tr_set hx hy ne nd ht hs'), fun κ T φ h => ho_set (J.ho κ T φ h) hx hy ne nd hab ht' hs', by rw [List.length_set, J.len], fun p hp => by rw [List.length_set]; exact J.td p (ht' p hp), fun p hp => ?_⟩
  rw [List.length_set]
  exact J.ok.rg y p.1 p.2 (by rw [wyL_row hy]; exact fnd_of nd hp)
theorem JnS.wait (J : JnS ls0 todo0 ls todo ((s, e) :: rem) x) (hx : ls[x]? = some (.inr ex)) (hf : fnd ex s = some e0) (ht : ∀ p, p ∈ todo' ↔ p ∈ todo ∨ p = (e0, e)) : JnS ls0 todo0 ls todo' rem x := by
  refine ⟨J.ok, J.tr.trans (tr_todo hx hf ht), fun κ T φ h => ho_todo (J.ho κ T φ h) hx hf ht, J.len, fun p hp => ?_, fun p hp => J.rm p (List.mem_cons_of_mem _ hp)⟩
  rcases (ht p).mp hp with h | h
  · exact J.td p h
  · rw [h]
    exact ⟨(J.ok.rg x s e0 (by rw [wyL_row hx]; exact hf)).2, (J.rm _ List.mem_cons_self).2⟩
theorem JnS.add (J : JnS ls0 todo0 ls todo ((s, e) :: rem) x) (hx : ls[x]? = some (.inr ex)) (hf : fnd ex s = none) : JnS ls0 todo0 (ls.set x (.inr (ex ++ [(s, e)]))) todo rem x := by
  obtain ⟨h1, h2⟩ := J.rm _ List.mem_cons_self
  exact ⟨J.ok.add hx hf h1 h2, J.tr.trans (tr_add hx hf), fun κ T φ h => ho_add (J.ho κ T φ h) hx hf, by rw [List.length_set, J.len], fun p hp => by rw [List.length_set]; exact J.td p hp, fun p hp => by rw [List.length_set]; exact J.rm p (List.mem_cons_of_mem _ hp)⟩
/-- the two are one already -/
theorem JnS.drop (J : JnS ls0 todo0 ls todo [] x') (ha : HdL ls a x) (hb : HdL ls b x) (ht : ∀ p ∈ todo, p = (a, b) ∨ p ∈ todo') (ht' : ∀ p ∈ todo', p ∈ todo) : JnS ls0 todo0 ls todo' [] x' := by
  have po : ∀ {u v}, EqG (rlL ls []) u v → EqG (rlL ls todo') u v := fun h => h.mono fun u v h => by
    rcases h with h | h
    · exact .one (.inl h)
    · cases h
  have t : TrL (rlL ls todo) (wsL ls [] x') (rlL ls todo') (wsL ls [] x') := ⟨fun u v h => by
    rcases h with h | h
    · exact .one (.inl h)
    · rcases ht _ h with e | e
      · cases e
        exact (po ha.eq).trans (po hb.eq).symm
      · exact .one (.inr e), fun u c v h => ⟨u, v, h, .refl _, .refl _⟩, fun u c v h => ⟨u, v, h, .refl _, .refl _⟩⟩
  refine ⟨J.ok, J.tr.trans t, fun κ T φ h => ?_, J.len, fun p hp => J.td p (ht' p hp), J.rm⟩
  have h := J.ho κ T φ h
  exact ⟨fun u v w => h.pt u v (w.imp id (ht' _)), h.wy⟩
/-- what a join has done -/
structure JnR (ls0 : List Lk) (todo0 : List (Nat × Nat)) (ls : List Lk) : Prop where
  ok : LkOk ls
  tr : TrL (rlL ls0 todo0) (wsL ls0 [] 0) (rlL ls []) (wsL ls [] 0)
  ho : ∀ (κ : Type) (T : Aut κ) (φ : Nat → κ), HoL T φ ls0 todo0 [] 0 → HoL T φ ls [] [] 0
  len : ls.length = ls0.length
theorem JnS.done (J : JnS ls0 todo0 ls [] [] x) : JnR ls0 todo0 ls := ⟨J.ok, J.ends.tr, (J.ends (x' := 0)).ho, J.len⟩
end
end Sf
namespace Sf
open PySem PySem.Spec PyProof.Rows L2 TL
/-! ### how many ways there are; lists in pairs -/
def wcE : Lk → Nat
  | .inl _ => 0
  | .inr es => es.length
def wcL (ls : List Lk) : Nat := (ls.map wcE).sum
theorem wc_set : ∀ {ls : List Lk} {i : Nat} {u v : Lk}, ls[i]? = some u → wcL (ls.set i v) + wcE u = wcL ls + wcE v
  | a :: ls, 0, u, v, h => by
    cases h
    show (wcE v + wcL ls) + wcE a = (wcE a + wcL ls) + wcE v
    omega
  | a :: ls, i + 1, u, v, h => by
    have := wc_set (ls := ls) (i := i) (u := u) (v := v) h
    show (wcE a + wcL (ls.set i v)) + wcE u = (wcE a + wcL ls) + wcE v
    omega
theorem sgn_sgs {c : Nat} (h : sgn c = true) : c ∈ sgs := by
  rw [sgn_iff] at h
  have : c = 97 ∨ c = 98 ∨ c = 99 ∨ c = 100 ∨ c = 101 ∨ c = 102 ∨ c = 103 ∨ c = 104 ∨ c = 65 ∨ c = 66 ∨ c = 67 ∨ c = 68 ∨ c = 69 ∨ c = 70 ∨ c = 71 ∨ c = 72 := by omega
  rcases this with rfl | rfl | rfl | rfl | rfl | rfl | rfl | rfl | rfl | rfl | rfl | rfl | rfl | rfl | rfl | rfl <;> decide
theorem nd_sub_len {α : Type} [DecidableEq α] : ∀ {l m : List α}, l.Nodup → (∀ x ∈ l, x ∈ m) → l.length ≤ m.length
  | [], _, _, _ => Nat.zero_le _
  | a :: l, m, nd, h => by
    have nd' := List.nodup_cons.mp nd
    have hm := h a List.mem_cons_self
    have := nd_sub_len (l := l) (m := m.erase a) nd'.2 fun x hx => (List.mem_erase_of_ne (fun e => nd'.1 (by rw [← e]; exact hx))).mpr (h x (List.mem_cons_of_mem _ hx))
    rw [List.length_erase_of_mem hm] at this
    have := List.length_pos_of_mem hm
    rw [List.length_cons]
    omega
theorem LkOk.len {ls : List Lk} (ok : LkOk ls) {i : Nat} {es : List (Nat × Nat)} (h : ls[i]? = some (.inr es)) : es.length ≤ 16 := by
  have := nd_sub_len (m := sgs) (ok.nd i es h) fun c hc => by
    obtain ⟨e, he, rfl⟩ := List.mem_map.mp hc
    exact sgn_sgs (ok.rg i e.1 e.2 (by rw [wyL_row h]; exact fnd_of (ok.nd i es h) he)).1
  rw [List.length_map] at this
  exact this
theorem wc_le16 : ∀ {ls : List Lk}, (∀ (i : Nat) (es : List (Nat × Nat)), ls[i]? = some (Sum.inr es) → es.length ≤ 16) → wcL ls ≤ 16 * ls.length
  | [], _ => Nat.zero_le _
  | a :: ls, h => by
    have := wc_le16 (ls := ls) fun i es e => h (i + 1) es e
    have h0 : wcE a ≤ 16 := by
      cases a with
      | inl _ => exact Nat.zero_le _
      | inr es => exact h 0 es rfl
    show wcE a + wcL ls ≤ 16 * (ls.length + 1)
    omega
theorem LkOk.wc {ls : List Lk} (ok : LkOk ls) : wcL ls ≤ 16 * ls.length := wc_le16 fun i es h => ok.len h
theorem perm_mapE {α β : Type} {f : α → β} {l m : List β} (h : l.Perm m) : ∀ es : List α, m = es.map f → ∃ es' : List α, es'.Perm es ∧ l = es'.map f := by
  induction h with
  | nil => exact fun es e => ⟨es, .refl _, e⟩
  | @cons x l m _ ih =>
    intro es e
    cases es with
    | nil => cases e
    | cons a es =>
      obtain ⟨e1, e2⟩ := List.cons.inj e
      obtain ⟨es', p, q⟩ := ih es e2
      exact ⟨a :: es', p.cons a, by rw [List.map_cons, e1, q]⟩
  | @swap x y l =>
    intro es e
    match es, e with
    | a :: b :: es, e =>
      obtain ⟨e1, e2⟩ := List.cons.inj e
      obtain ⟨e2, e3⟩ := List.cons.inj e2
      exact ⟨b :: a :: es, .swap a b es, by rw [List.map_cons, List.map_cons, e1, e2, e3]⟩
  | trans _ _ ih1 ih2 =>
    intro es e
    obtain ⟨es1, p1, q1⟩ := ih2 es e
    obtain ⟨es2, p2, q2⟩ := ih1 es1 q1
    exact ⟨es2, p2.trans p1, q2⟩
theorem JnS.perm {ls0 ls : List Lk} {todo0 todo rem rem' : List (Nat × Nat)} {x : Nat} (J : JnS ls0 todo0 ls todo rem x) (h : ∀ p, p ∈ rem' ↔ p ∈ rem) : JnS ls0 todo0 ls todo rem' x := by
  have e : wsL ls rem' x = wsL ls rem x := by
    funext u t v
    unfold wsL
    rw [h]
  refine ⟨J.ok, by rw [e]; exact J.tr, fun κ T φ k => ?_, J.len, J.td, fun p hp => J.rm p ((h p).mp hp)⟩
  have := J.ho κ T φ k
  exact ⟨this.pt, fun u t v w => this.wy u t v (by rw [e] at w; exact w)⟩
theorem paired_snocI {α β : Type} {R : α → β → Prop} {b : β} : ∀ {as : List α} {bs : List β}, Paired R as (bs ++ [b]) → ∃ as' a, as = as' ++ [a] ∧ Paired R as' bs ∧ R a b
  | _, [], .cons r .nil => ⟨[], _, rfl, .nil, r⟩
  | _, _ :: _, .cons r t => by
    obtain ⟨as', a, e, h, k⟩ := paired_snocI t
    exact ⟨_ :: as', a, by rw [e]; rfl, .cons r h, k⟩
theorem paired_at2 {α β : Type} {R : α → β → Prop} : ∀ {as : List α} {bs : List β} {i : Nat} {a : α}, Paired R as bs → as[i]? = some a → ∃ b, bs[i]? = some b ∧ R a b
  | _, _, i, _, .nil, e => by simp at e
  | _, _, 0, _, .cons r _, e => by simp at e; subst e; exact ⟨_, rfl, r⟩
  | _, _, i + 1, x, .cons _ t, e => by
    obtain ⟨u, h1, h2⟩ := paired_at2 (i := i) (a := x) t (by simpa using e)
    exact ⟨u, by simpa using h1, h2⟩
theorem paired_lenR {α β : Type} {R : α → β → Prop} : ∀ {as : List α} {bs : List β}, Paired R as bs → as.length = bs.length
  | _, _, .nil => rfl
  | _, _, .cons _ t => by rw [List.length_cons, List.length_cons, paired_lenR t]
theorem paired_setR {α β : Type} {R : α → β → Prop} {a : α} {b : β} (h : R a b) : ∀ {as : List α} {bs : List β} (i : Nat), Paired R as bs → Paired R (as.set i a) (bs.set i b)
  | _, _, _, .nil => .nil
  | _, _, 0, .cons _ t => .cons h t
  | _, _, i + 1, .cons r t => .cons r (paired_setR h i t)
theorem paired_snocL {α β : Type} {R : α → β → Prop} {a : α} {b : β} (h : R a b) : ∀ {as : List α} {bs : List β}, Paired R as bs → Paired R (as ++ [a]) (bs ++ [b])
  | _, _, .nil => .cons h .nil
  | _, _, .cons r t => .cons r (paired_snocL h t)
/-- all of one list by another relation, place by place -/
theorem paired_by {α β : Type} {R S : α → β → Prop} : ∀ {as : List α} {bs : List β}, Paired R as bs → (∀ (i : Nat) (a : α) (b : β), as[i]? = some a → bs[i]? = some b → R a b → S a b) → Paired S as bs
  | _, _, .nil, _ => .nil
  | _, _, .cons r t, h => .cons (h 0 _ _ rfl rfl r) (paired_by t fun i a b ha hb k => h (i + 1) a b ha hb k)
/-! ### links in the heap, kept -/
section
variable {H H1 : Hp} {lp d : Addr} {us : List V} {ls : List Lk} {es es' : List (Nat × Nat)} {i h : Nat}
theorem LksAt.len (L : LksAt H lp us ls) : us.length = ls.length := paired_lenR L.at_
theorem LksAt.row (L : LksAt H lp us ls) (e : ls[i]? = some (.inr es)) : ∃ d, us[i]? = some (.ref d) ∧ H d = some (.dK (es.map fun e => (kSg e.1, V.int (e.2 : Nat)))) ∧ V.ref d ∈ us ∧ d ≠ lp := by
  obtain ⟨v, hv, d, rfl, hd⟩ := paired_at L.at_ e
  exact ⟨d, hv, hd, List.mem_of_getElem? hv, fun z => by rw [z, L.lst] at hd; cases hd⟩
theorem LksAt.dk (L : LksAt H lp us ls) (h : V.ref d ∈ us) : ∃ kvs, H d = some (.dK kvs) := by
  obtain ⟨i, hi, e⟩ := List.getElem_of_mem h
  obtain ⟨b, hb, k⟩ := paired_at2 L.at_ (List.getElem?_eq_some_iff.mpr ⟨hi, e⟩)
  cases b with
  | inl h => exact absurd (show V.ref d = .int (h : Nat) from k) (fun z => nomatch z)
  | inr es =>
    obtain ⟨d', e', hd⟩ := k
    cases e'
    exact ⟨_, hd⟩
theorem LksAt.keep (L : LksAt H lp us ls) (h0 : H1 lp = H lp) (h1 : ∀ d, V.ref d ∈ us → ∀ o, H d = some o → H1 d = some o) : LksAt H1 lp us ls :=
  ⟨by rw [h0]; exact L.lst, paired_by L.at_ fun i a b ha hb k => by
    cases b with
    | inl h => exact k
    | inr es =>
      obtain ⟨d, rfl, hd⟩ := k
      exact ⟨d, rfl, h1 d (List.mem_of_getElem? ha) _ hd⟩, L.inj⟩
/-- a pointer set -/
theorem LksAt.setP (L : LksAt H lp us ls) (h0 : H1 lp = some (.lst (us.set i (.int (h : Nat))))) (o : Of lp H H1) : LksAt H1 lp (us.set i (.int (h : Nat))) (ls.set i (.inl h)) := by
  refine ⟨h0, paired_setR (R := LkE H1) (show LkE H1 (.int (h : Nat)) (.inl h) from rfl) i (paired_by L.at_ fun j a b ha hb k => ?_), fun j k d hj hk => ?_⟩
  · cases b with
    | inl h => exact k
    | inr es =>
      obtain ⟨d, rfl, hd⟩ := k
      exact ⟨d, rfl, o.at (fun z => by rw [z, L.lst] at hd; cases hd) hd⟩
  · rw [List.getElem?_set] at hj hk
    split at hj
    · split at hj
      · cases hj
      · cases hj
    · split at hk
      · split at hk
        · cases hk
        · cases hk
      · exact L.inj j k d hj hk
/-- a row changed -/
theorem LksAt.setR (L : LksAt H lp us ls) (hi : us[i]? = some (.ref d)) (h0 : H1 d = some (.dK (es'.map fun e => (kSg e.1, V.int (e.2 : Nat))))) (hd : d ≠ lp) (o : Of d H H1) : LksAt H1 lp us (ls.set i (.inr es')) := by
  refine ⟨o.at hd.symm L.lst, ?_, L.inj⟩
  have hil := (List.getElem?_eq_some_iff.mp hi).1
  have e : us = us.set i (.ref d) := by
    refine List.ext_getElem? fun j => ?_
    rw [List.getElem?_set]
    split
    · rename_i z
      rw [← z, hi]
    · rfl
  have A : Paired (LkE H1) (us.set i (.ref d)) (ls.set i (.inr es')) := by
    refine paired_by (R := fun a b => LkE H1 a b ∨ (a = .ref d)) ?_ fun j a b ha hb k => ?_
    · refine paired_setR (.inl ⟨d, rfl, h0⟩) i (paired_by L.at_ fun j a b ha hb k => ?_)
      cases b with
      | inl h => exact .inl k
      | inr es =>
        obtain ⟨d', rfl, hd'⟩ := k
        by_cases z : d' = d
        · exact .inr (by rw [z])
        · exact .inl ⟨d', rfl, o.at z hd'⟩
    · rcases k with k | rfl
      · exact k
      · have hij : j = i := by
          rw [← e] at ha
          exact L.inj j i d ha hi
        subst hij
        rw [List.getElem?_set_self (by rw [← L.len]; exact hil)] at hb
        cases hb
        exact ⟨d, rfl, h0⟩
  rw [← e] at A
  exact A
/-- a place more -/
theorem LksAt.app (L : LksAt H lp us ls) (h0 : H1 lp = some (.lst (us ++ [.ref d]))) (hd : H1 d = some (.dK [])) (hn : H d = none) (o : ∀ b x, H b = some x → b ≠ lp → H1 b = some x) : LksAt H1 lp (us ++ [.ref d]) (ls ++ [.inr []]) := by
  have dn : ∀ j, us[j]? ≠ some (V.ref d) := fun j e => by
    obtain ⟨kvs, h⟩ := L.dk (List.mem_of_getElem? e)
    rw [hn] at h; cases h
  refine ⟨h0, paired_snocL ⟨d, rfl, hd⟩ (paired_by L.at_ fun j a b ha hb k => ?_), fun j k e hj hk => ?_⟩
  · cases b with
    | inl h => exact k
    | inr es =>
      obtain ⟨d', rfl, hd'⟩ := k
      exact ⟨d', rfl, o _ _ hd' (fun z => by rw [z, L.lst] at hd'; cases hd')⟩
  · have cs : ∀ j, (us ++ [V.ref d])[j]? = some (.ref e) → us[j]? = some (.ref e) ∨ (j = us.length ∧ e = d) := fun j h => by
      by_cases z : j < us.length
      · rw [List.getElem?_append_left z] at h
        exact .inl h
      · rw [List.getElem?_append_right (by omega)] at h
        match hz : j - us.length, h with
        | 0, h => cases h; exact .inr ⟨by omega, rfl⟩
        | n + 1, h => simp at h
    rcases cs j hj with h1 | ⟨h1, h1'⟩
    · rcases cs k hk with h2 | ⟨h2, h2'⟩
      · exact L.inj j k e h1 h2
      · rw [h2'] at h1; exact absurd h1 (dn j)
    · rcases cs k hk with h2 | ⟨h2, h2'⟩
      · rw [h1'] at h2; exact absurd h2 (dn k)
      · omega
/-- all but the links stands; further rows are new -/
structure LFr (lp : Addr) (us : List V) (H : Hp) (us' : List V) (H' : Hp) : Prop where
  fr : ∀ b o, H b = some o → b ≠ lp → V.ref b ∉ us → H' b = some o
  nw : ∀ d, V.ref d ∈ us' → V.ref d ∈ us ∨ H d = none
theorem LFr.refl : LFr lp us H us H := ⟨fun _ _ h _ _ => h, fun _ h => .inl h⟩
theorem LFr.trans {us1 us2 : List V} {H2 : Hp} (a : LFr lp us H us1 H1) (b : LFr lp us1 H1 us2 H2) (hl : H1 lp ≠ none) : LFr lp us H us2 H2 := by
  refine ⟨fun c o h n m => b.fr c o (a.fr c o h n m) n fun z => (a.nw c z).elim m fun e => (by rw [h] at e; cases e), fun d h => ?_⟩
  rcases b.nw d h with h | h
  · exact a.nw d h
  · by_cases z : V.ref d ∈ us
    · exact .inl z
    · refine .inr ?_
      cases e : H d with
      | none => rfl
      | some o =>
        have := a.fr d o e (fun z => by rw [z] at h; exact hl h) z
        rw [this] at h
        cases h
theorem fnd_val {es : List (Nat × Nat)} {s : Nat} : valV (es.map fun e => (kSg e.1, V.int (e.2 : Nat))) (kSg s) = (fnd es s).map fun q => V.int (q : Nat) := by
  induction es with
  | nil => rfl
  | cons a es ih =>
    have ea : fnd (a :: es) s = if a.1 = s then some a.2 else fnd es s := by
      have := fnd_app [a] es s
      rw [show [a] = [(a.1, a.2)] from rfl, fnd_one] at this
      rw [show a :: es = [(a.1, a.2)] ++ es from rfl, this]
      split <;> rfl
    rw [List.map_cons, ea]
    by_cases h : a.1 = s
    · rw [if_pos h]
      exact valV_pos (by show kSg a.1 = kSg s; rw [h])
    · rw [if_neg h, valV_neg (fun z => h (kSg_inj z))]
      exact ih
end
end Sf
namespace Sf
open PySem PySem.Spec PyProof.Rows L2 TL
section
variable {P : Program} {w : World} {K : PySem.W.Frag} {mg : Str → Option Value} {base : Heap}
/-! ### _law_join -/
def dPr (p : Nat × Nat) : PyData := .tuple [.int (p.1 : Nat), .int (p.2 : Nat)]
def PrI (H : Hp) (v : V) (p : Nat × Nat) : Prop := ∃ t, v = .ref t ∧ H t = some (.tup [.int (p.1 : Nat), .int (p.2 : Nat)])
theorem PrI.tps {H H1 : Hp} {ts : List V} {ps : List (Nat × Nat)} (T : Tps H H1) (h : Paired (PrI H) ts ps) : Paired (PrI H1) ts ps := Paired.mono (fun _ _ ⟨t, e, k⟩ => ⟨t, e, T _ _ k⟩) h
theorem pri_dp {H : Hp} {ts : List V} {ps : List (Nat × Nat)} (h : Paired (PrI H) ts ps) : DpAll K H ts (ps.map dPr) := dp_map (Paired.mono (fun v x ⟨t, e, ht⟩ => by
  rw [e]
  exact .tup (SqT.of ht) (.cons (.int _) (.cons (.int _) .nil))) h)
theorem pri_shaped (l : List (Nat × Nat)) : SeqAt.shaped (.list (l.map dPr)) = true := shaped_list (fun x _ => by
  unfold dPr
  simp [PyData.canLay0, PyData.canLayAll0]) (fun x _ => by
  unfold dPr
  simp [PyData.depth, PyData.depthAll])
theorem w_pop {H : Hp} {Q : VK} {p : Addr} {xs : List V} {v : V} (h : H p = some (.lst (xs ++ [v]))) (k : ∀ H1, H1 p = some (.lst xs) → Of p H H1 → Q v H1) : rPop (.ref p) [] H Q :=
  ⟨p, xs ++ [v], v, rfl, rfl, h, by rw [List.length_append]; exact List.getElem?_concat_length, k _ (by rw [upd_same, List.dropLast_concat]) .mk'⟩
theorem w_sortedK {H : Hp} {Q : VK} {a : Addr} {es : List (Nat × Nat)} (h : H a = some (.dK (es.map fun e => (kSg e.1, V.int (e.2 : Nat))))) (hl : es.length < 64) (k : ∀ (es' : List (Nat × Nat)) p H1, es'.Perm es → H1 p = some (.lst (es'.map fun e => V.str (one e.1))) → Nw p H H1 → Q (.ref p) H1) :
    (∃ (a' : Addr) (kvs : List (Key × V)) (ks : List Str), [V.ref a] = [.ref a'] ∧ Rd H a' (.dK kvs) ∧ kvs.map (·.1) = ks.map Sum.inr ∧ ks.length < 64 ∧ ∀ ys p, ys.Perm ks → sortedS ys = true → H p = none → Q (.ref p) (upd H p (.lst (ys.map V.str)))) := by
  refine ⟨a, _, es.map fun e => one e.1, rfl, .of h, by rw [List.map_map, List.map_map]; rfl, by rw [List.length_map]; exact hl, fun ys p hp _ np => ?_⟩
  obtain ⟨es', p', rfl⟩ := perm_mapE hp es rfl
  exact k es' p _ p' (by rw [upd_same, List.map_map]; rfl) (.mk' np)
def spLjn : Sp := fun vs H Q _ => ∃ (lp : Addr) (us : List V) (ls : List Lk) (a b : Nat), vs = [.ref lp, .int (a : Nat), .int (b : Nat)] ∧ LksAt H lp us ls ∧ LkOk ls ∧ a < ls.length ∧ b < ls.length ∧ ls.length ≤ 3000 ∧
  ∀ (us' : List V) (ls' : List Lk) (H' : Hp), LksAt H' lp us' ls' → JnR ls [(a, b)] ls' → LFr lp us H us' H' → Q .non H'
theorem sc_ljn : FnScope ["_law_links", "_law_one", "_law_other", "_law_todo", "_law_a", "_law_b", "_law_keep", "_law_gone", "_law_sign_here"] ["_law_links", "_law_one", "_law_other"] (defScope s__law_join) := ⟨rfl, rfl, rfl, by decide +kernel, rfl, by decide +kernel, by decide +kernel⟩
theorem has_ljn (F : FnAt K mg "_law_join" s__law_join ["_law_links", "_law_one", "_law_other"]) (B : Blt mg) (Nmax : mg "max" = none) (h_Lhd : Has P w K mg base 1 "_law_head" ["_law_links", "_law_place"] spLhd) : Has P w K mg base 2 "_law_join" ["_law_links", "_law_one", "_law_other"] spLjn := F.has fun F => by
  obtain ⟨f_Lhd, fd_Lhd, g_Lhd, k_Lhd, b_Lhd, G_Lhd⟩ := h_Lhd
  refine F.ok sc_ljn (fun vs H Q E h => ?_) (fun cdv A outer s H vs Q E hr h => ?_)
  · obtain ⟨lp, us, ls, a, b, rfl, _⟩ := h
    rfl
  · obtain ⟨lp, us0, ls0, a0, b0, rfl, hL0, ok0, ha0, hb0, hlen, q⟩ := h
    refine ⟨_, (pss_cons (ps_set (i := 3) sc_ljn.nd rfl (.inl rfl) (pe_lst (pa_cons (pe_tup (pa_cons (pv 1) (pa_cons (pv 2) pa_nil))) pa_nil))) (pss_one (ps_while PassesOwn.never (pt_cmpR (op_neD hr.units) (pv 3) (pe_lst pa_nil) (nomark _)) (pss_cons (ps_asg (pe_bm0 PySem.F.plainAttrs_list PySem.F.slot_list_pop PySem.F.type_list_pop mt_pop (pv 3)) (pg_tup rfl (pgs_cons (pg_name (i := 4) sc_ljn.nd rfl (.inl rfl)) (pgs_cons (pg_name (i := 5) sc_ljn.nd rfl (.inl rfl)) pgs_nil)))) (pss_cons (ps_par (i := 4) (j := 5) (by rfl) sc_ljn.nd rfl rfl (by decide) rfl rfl (pa_cons (pe_call G_Lhd (hr.mono (by decide)) (by rfl) g_Lhd k_Lhd b_Lhd .nil pass0 (pa_cons (pv 0) (pa_cons (pv 4) pa_nil))) (pa_cons (pe_call G_Lhd (hr.mono (by decide)) (by rfl) g_Lhd k_Lhd b_Lhd .nil pass0 (pa_cons (pv 0) (pa_cons (pv 5) pa_nil))) pa_nil)) (by rfl)) (pss_one (ps_if (pt_cmpR op_ne (pv 4) (pv 5) (nomark _)) (pss_cons (ps_par (i := 6) (j := 7) (by rfl) sc_ljn.nd rfl rfl (by decide) rfl rfl (pa_cons (pe_callB (call_min2N rfl) (by rfl) B.min (by decide +kernel) (pa_cons (pv 4) (pa_cons (pv 5) pa_nil))) (pa_cons (pe_ix ix_list (pv 0) (pe_callB (call_max2N rfl) (by rfl) Nmax (by decide +kernel) (pa_cons (pv 4) (pa_cons (pv 5) pa_nil))) (fun _ _ => rfl)) pa_nil)) (by rfl)) (pss_cons (ps_asg (pv 6) (pg_sub (pv 0) (pe_callB (call_max2N rfl) (by rfl) Nmax (by decide +kernel) (pa_cons (pv 4) (pa_cons (pv 5) pa_nil))) set_list)) (pss_one (ps_for PassesOwn.never rfl (pi_list (pe_callB (call_sortedD rfl) (by rfl) B.sorted (by decide +kernel) (pa_cons (pv 7) pa_nil))) (pg_name (i := 8) sc_ljn.nd rfl (.inl rfl)) (pss_one (ps_if (pt_cmp (pc_din (hu_of hr) (pv 8) (pe_ix ix_list (pv 0) (pv 6) (fun _ _ => rfl)))) (pss_one (ps_expr (pe_bm PySem.F.plainAttrs_list PySem.F.slot_list_append PySem.F.type_list_append mt_append (pv 3) (pa_cons (pe_tup (pa_cons (pe_dget (hu_of hr) (pe_ix ix_list (pv 0) (pv 6) (fun _ _ => rfl)) (pv 8) (fun _ _ => rfl)) (pa_cons (pe_dget (hu_of hr) (pv 7) (pv 8) (fun _ _ => rfl)) pa_nil))) pa_nil)))) (pss_one (ps_dput (hu_of hr) (pe_ix ix_list (pv 0) (pv 6) (fun _ _ => rfl)) (pv 8) (pe_dget (hu_of hr) (pv 7) (pv 8) (fun _ _ => rfl)) rfl)))))))) pss_nil))))))), ?_⟩
    walk_at "go"
    refine w_newT (by walk_at "sz") (fun t0 H1 ht0 nt0 => ?_)
    walk_at "go"
    refine w_newL (by walk_at "sz") (fun tp H2 htp ntp => ?_)
    walk_at "go"
    have ntp0 : H tp = none := nt0.same.free ntp.nn
    have wc0 := ok0.wc
    have s2 : Same H H2 := nt0.same.trans ntp.same
    refine w_while (m := 1 + 2 * wcL ls0) (fun m σ H3 => ∃ us ls todo ts y4 y5 y6 y7 y8, σ = [some (.ref lp), some (.int (a0 : Nat)), some (.int (b0 : Nat)), some (.ref tp), y4, y5, y6, y7, y8] ∧ LksAt H3 lp us ls ∧ JnS ls0 [(a0, b0)] ls todo [] 0 ∧ (∀ d, V.ref d ∈ us → V.ref d ∈ us0) ∧ (∀ b o, H b = some o → b ≠ lp → V.ref b ∉ us0 → H3 b = some o) ∧ H3 tp = some (.lst ts) ∧ Paired (PrI H3) ts todo ∧ m = todo.length + 2 * wcL ls ∧ m ≤ 100000) ⟨us0, ls0, [(a0, b0)], [.ref t0], none, none, none, none, none, rfl, hL0.keep (by rw [hL0.lst, s2.at hL0.lst]) (fun d hd o e => s2.at e), .init ok0 (fun p hp => by rw [List.mem_singleton.mp hp]; exact ⟨ha0, hb0⟩), fun _ h => h, fun b o h _ _ => s2.at h, htp, .cons ⟨t0, rfl, ntp.at ht0⟩ .nil, rfl, by omega⟩ ?_
    rintro m σ H3 ⟨us, ls, todo, ts, y4, y5, y6, y7, y8, rfl, hL, J, hsub, hfr, htp3, hts, hm, hm1⟩
    have tpus : V.ref tp ∉ us0 := fun z => by
      obtain ⟨kvs, e⟩ := hL0.dk z
      rw [ntp0] at e; cases e
    have tplp : tp ≠ lp := fun z => by rw [z, hL0.lst] at ntp0; cases ntp0
    walk_at "go"
    refine w_newL (by walk_at "sz") (fun z H4 hz nz => ?_)
    refine w_neNil (nz.at htp3) (pri_dp (PrI.tps (.of nz.same) hts)) (pri_shaped _) hz ?_
    rw [List.isEmpty_map]
    have hL4 : LksAt H4 lp us ls := hL.keep (by rw [hL.lst, nz.at hL.lst]) (fun d hd o e => nz.at e)
    have hts4 := PrI.tps (.of nz.same) hts
    have hfr4 : ∀ b o, H b = some o → b ≠ lp → V.ref b ∉ us0 → H4 b = some o := fun b o h n m => nz.at (hfr b o h n m)
    have htp4 := nz.at htp3
    rcases List.eq_nil_or_concat todo with rfl | ⟨todo', ⟨a, b⟩, rfl⟩
    · walk_at "go"
      refine w_whF ?_
      walk_at "go"
      exact q us ls H4 hL4 J.done ⟨hfr4, fun d h => .inl (hsub d h)⟩
    · have e1 : (todo' ++ [(a, b)]).isEmpty = false := by cases todo' <;> rfl
      rw [List.concat_eq_append] at *
      rw [e1]
      obtain ⟨ts', v, rfl, hts', t, rfl, ht⟩ := paired_snocI hts4
      walk_at "go"
      refine w_whT ?_
      walk_at "go"
      refine w_pop htp4 (fun H5 htp5 o5 => ?_)
      have T5 : Tps H4 H5 := Tps.refl.off htp4 o5
      walk_at "go"
      refine w_gtup (T5 _ _ ht) rfl ?_
      walk_at "go"
      have ha : a < ls.length := (J.td (a, b) (by simp)).1
      have hb : b < ls.length := (J.td (a, b) (by simp)).2
      have hle := J.len
      obtain ⟨ra, hra⟩ := J.ok.hd (a + 1) a (Nat.lt_succ_self _) ha
      obtain ⟨rb, hrb⟩ := J.ok.hd (b + 1) b (Nat.lt_succ_self _) hb
      have dnt : ∀ d, V.ref d ∈ us → d ≠ tp := fun d hd z => tpus (by rw [← z]; exact hsub d hd)
      have hL5 : LksAt H5 lp us ls := hL4.keep (by rw [hL4.lst, o5.at tplp.symm hL4.lst]) (fun d hd o e => o5.at (dnt d hd) e)
      have hfr5 : ∀ b o, H b = some o → b ≠ lp → V.ref b ∉ us0 → H5 b = some o := fun b o h n m => o5.at (fun z => by rw [z, ntp0] at h; cases h) (hfr4 b o h n m)
      have hts5 := PrI.tps T5 hts'
      refine ⟨lp, us, ls, a, ra, rfl, hL5, J.ok, hra, by omega, ?_⟩
      walk_at "go"
      refine ⟨lp, us, ls, b, rb, rfl, hL5, J.ok, hrb, by omega, ?_⟩
      walk_at "go"
      rw [List.length_append] at hm
      have hm : m = todo'.length + 1 + 2 * wcL ls := hm
      refine w_ifN2 (fun e => ?_) (fun e => ?_)
      · have ne : ra ≠ rb := fun z => e (by rw [z])
        obtain ⟨x, y, hxy, hmin, hmax, hs⟩ : ∃ x y : Nat, x < y ∧ (if ((rb : Nat) : Int) < ((ra : Nat) : Int) then ((rb : Nat) : Int) else ((ra : Nat) : Int)) = ((x : Nat) : Int) ∧ (if ((rb : Nat) : Int) > ((ra : Nat) : Int) then ((rb : Nat) : Int) else ((ra : Nat) : Int)) = ((y : Nat) : Int) ∧ ((HdL ls a x ∧ HdL ls b y) ∨ (HdL ls a y ∧ HdL ls b x)) := by
          by_cases h : rb < ra
          · exact ⟨rb, ra, h, if_pos (by omega), if_neg (by omega), .inr ⟨hra, hrb⟩⟩
          · exact ⟨ra, rb, by omega, if_neg (by omega), if_pos (by omega), .inl ⟨hra, hrb⟩⟩
        obtain ⟨ex, hx⟩ : ∃ ex, ls[x]? = some (.inr ex) := hs.elim (fun h => h.1.is) fun h => h.2.is
        obtain ⟨ey, hy⟩ : ∃ ey, ls[y]? = some (.inr ey) := hs.elim (fun h => h.2.is) fun h => h.1.is
        obtain ⟨g, hgu, hgd, hgm, hgl⟩ := hL5.row hy
        have yl : y < ls.length := (List.getElem?_eq_some_iff.mp hy).1
        walk_at "go"
        simp only [hmin, hmax]
        refine w_ixL hL5.lst (atI_nat hgu) ?_
        walk_at "go"
        simp only [hmax]
        refine w_setL hL5.lst (ixN_n (by rw [hL5.len]; exact yl)) (fun H6 h6 o6 => ?_)
        have hL6 := hL5.setP (i := y) (h := x) h6 o6
        have J6 := J.set (todo' := todo') hx hy hxy (a := a) (b := b) (by simp) (fun p hp => by
          rcases List.mem_append.mp hp with h | h
          · exact .inr h
          · exact .inl (List.mem_singleton.mp h)) (fun p hp => List.mem_append_left _ hp) hs
        have hg6 := o6.at hgl hgd
        have T6 : Tps H5 H6 := Tps.refl.off hL5.lst o6
        walk_at "go"
        refine w_sortedK hg6 (by have := J.ok.len hy; omega) (fun es' zp H7 hperm hzp nzp => ?_)
        walk_at "go"
        have hx6 : (ls.set y (.inl x))[x]? = some (.inr ex) := by rw [List.getElem?_set_ne (by omega)]; exact hx
        have gus : V.ref g ∉ us.set y (.int (x : Nat)) := fun z => by
          obtain ⟨j, hj⟩ := List.getElem?_of_mem z
          rw [List.getElem?_set] at hj
          split at hj
          · split at hj
            · cases hj
            · cases hj
          · rename_i n
            exact n (hL5.inj y j g hgu hj)
        have wset := wc_set (v := Sum.inl x) hy
        have hel : es'.length = ey.length := hperm.length_eq
        have gt : g ≠ tp := dnt g hgm
        have subS : ∀ d, V.ref d ∈ us.set y (.int (x : Nat)) → V.ref d ∈ us := fun d z => by
          rcases List.mem_or_eq_of_mem_set z with h | h
          · exact h
          · cases h
        refine w_list (xs := es'.map fun e => V.str (one e.1)) (fun i σ H8 => ∃ us8 ls8 todo8 ts8 y8 ex8, σ = [some (.ref lp), some (.int (a0 : Nat)), some (.int (b0 : Nat)), some (.ref tp), some (.int (ra : Nat)), some (.int (rb : Nat)), some (.int (x : Nat)), some (.ref g), y8] ∧ LksAt H8 lp us8 ls8 ∧ JnS ls0 [(a0, b0)] ls8 todo8 (es'.drop i) x ∧ ls8[x]? = some (.inr ex8) ∧ (∀ d, V.ref d ∈ us8 → V.ref d ∈ us0) ∧ (∀ b o, H b = some o → b ≠ lp → V.ref b ∉ us0 → H8 b = some o) ∧ H8 tp = some (.lst ts8) ∧ Paired (PrI H8) ts8 todo8 ∧ H8 zp = some (.lst (es'.map fun e => V.str (one e.1))) ∧ H8 g = some (.dK (ey.map fun e => (kSg e.1, V.int (e.2 : Nat)))) ∧ V.ref g ∉ us8 ∧ todo8.length + 2 * (wcL ls8 + (es'.length - i)) + 1 ≤ m) ?_ ?_ ?_ ?_
        · refine ⟨_, _, todo', ts', y8, ex, rfl, hL6.keep (by rw [hL6.lst, nzp.at hL6.lst]) (fun d hd o e => nzp.at e), J6.perm (fun p => by rw [List.drop_zero]; exact hperm.mem_iff), hx6, fun d h => hsub d (subS d h), fun b o h n m => nzp.at (o6.at n (hfr5 b o h n m)), nzp.at (o6.at tplp htp5), PrI.tps (T6.trans (.of nzp.same)) hts5, hzp, nzp.at hg6, gus, ?_⟩
          have e1 : wcE (Sum.inr ey) = ey.length := rfl
          have e2 : wcE (Sum.inl x) = 0 := rfl
          omega
        · rintro i σ H8 _ ⟨us8, ls8, todo8, ts8, y8', ex8, _, _, _, _, _, _, _, _, hz8, _⟩
          exact hz8
        · rintro i v σ H8 hv ⟨us8, ls8, todo8, ts8, y8', ex8, rfl, hL8, J8, hx8, hsub8, hfr8, htp8, hts8, hz8, hg8, gus8, hm8⟩
          rw [List.getElem?_map, Option.map_eq_some_iff] at hv
          obtain ⟨⟨s, q1⟩, hsq, rfl⟩ := hv
          have hil : i < es'.length := (List.getElem?_eq_some_iff.mp hsq).1
          have hdr : es'.drop i = (s, q1) :: es'.drop (i + 1) := by
            rw [List.drop_eq_getElem_cons hil, (List.getElem?_eq_some_iff.mp hsq).2]
          rw [hdr] at J8
          obtain ⟨dx, hxu, hdx, hdm, hdl⟩ := hL8.row hx8
          have hgv : valV (ey.map fun e => (kSg e.1, V.int (e.2 : Nat))) (kSg s) = some (.int (q1 : Nat)) := by
            rw [fnd_val, fnd_of (J.ok.nd y ey hy) (hperm.mem_iff.mp (List.mem_of_getElem? hsq))]
            rfl
          have dxt : dx ≠ tp := fun z => by rw [z, htp8] at hdx; cases hdx
          have dxz : dx ≠ zp := fun z => by rw [z, hz8] at hdx; cases hdx
          have dxg : dx ≠ g := fun z => gus8 (by rw [← z]; exact hdm)
          have ztp : zp ≠ tp := fun z => by
            have := nzp.nn
            rw [z, o6.at tplp htp5] at this; cases this
          have gtp : g ≠ tp := gt
          dsimp only
          walk_at "go"
          refine w_ixL hL8.lst (atI_nat hxu) ?_
          walk_at "go"
          rw [show valV (ex8.map fun e => (kSg e.1, V.int (e.2 : Nat))) (Sum.inr (one s)) = _ from fnd_val, Option.isSome_map]
          cases hf : fnd ex8 s with
          | some e0 =>
            refine w_ifB (fun _ => ?_) (fun z => nomatch z)
            walk_at "go"
            refine w_ixL hL8.lst (atI_nat hxu) ?_
            walk_at "go"
            refine w_kDGetS hdx (v := .int (e0 : Nat)) (by rw [show valV (ex8.map fun e => (kSg e.1, V.int (e.2 : Nat))) (Sum.inr (one s)) = _ from fnd_val, hf]; rfl) ?_
            walk_at "go"
            refine w_kDGetS hg8 hgv ?_
            walk_at "go"
            refine w_newT (by walk_at "sz") (fun t2 H9 ht2 nt2 => ?_)
            walk_at "go"
            refine w_append (nt2.at htp8) (by
              have := paired_lenR hts8
              exact lineLt_of (by omega)) (fun H10 h10 o10 => ?_)
            walk_at "go"
            have hL9 : LksAt H9 lp us8 ls8 := hL8.keep (by rw [hL8.lst, nt2.at hL8.lst]) (fun d hd o e => nt2.at e)
            have T10 : Tps H9 H10 := Tps.refl.off (nt2.at htp8) o10
            refine ⟨us8, ls8, todo8 ++ [(e0, q1)], ts8 ++ [.ref t2], _, ex8, rfl, hL9.keep (by rw [hL9.lst, o10.at tplp.symm hL9.lst]) (fun d hd o e => o10.at (fun z => tpus (by rw [← z]; exact hsub8 d hd)) e), J8.wait hx8 hf (fun p => by rw [List.mem_append, List.mem_singleton]), hx8, hsub8, fun b o h n m => o10.at (fun z => by rw [z, ntp0] at h; cases h) (nt2.at (hfr8 b o h n m)), h10, paired_snocL ⟨t2, rfl, T10 _ _ ht2⟩ (PrI.tps ((Tps.of nt2.same).trans T10) hts8), o10.at ztp (nt2.at hz8), o10.at gtp (nt2.at hg8), gus8, ?_⟩
            rw [List.length_append, List.length_singleton]
            omega
          | none =>
            refine w_ifB (fun z => nomatch z) (fun _ => ?_)
            walk_at "go"
            refine w_kDGetS hg8 hgv ?_
            walk_at "go"
            refine w_ixL hL8.lst (atI_nat hxu) ?_
            walk_at "go"
            refine w_kDPutS hdx (by
              have := J8.ok.len hx8
              rw [List.length_map]
              exact lineLt_of (by omega)) (fun H9 h9 o9 => ?_)
            have hp9 : putK (ex8.map fun e => (kSg e.1, V.int (e.2 : Nat))) (Sum.inr (one s)) (.int (q1 : Nat)) = (ex8 ++ [(s, q1)]).map fun e => (kSg e.1, V.int (e.2 : Nat)) := by
              rw [putK_new _ (by rw [show valV (ex8.map fun e => (kSg e.1, V.int (e.2 : Nat))) (Sum.inr (one s)) = _ from fnd_val, hf]; rfl), List.map_append]
              rfl
            rw [hp9] at h9
            walk_at "go"
            have T9 : Tps H8 H9 := Tps.refl.offD hdx o9
            have wadd := wc_set (v := Sum.inr (ex8 ++ [(s, q1)])) hx8
            refine ⟨us8, ls8.set x (.inr (ex8 ++ [(s, q1)])), todo8, ts8, _, ex8 ++ [(s, q1)], rfl, hL8.setR hxu h9 hdl o9, J8.add hx8 hf, List.getElem?_set_self (List.getElem?_eq_some_iff.mp hx8).1, hsub8, fun b o h n m => o9.at (fun z => m (by rw [z]; exact hsub8 dx hdm)) (hfr8 b o h n m), o9.at dxt.symm htp8, PrI.tps T9 hts8, o9.at dxz.symm hz8, o9.at dxg.symm hg8, gus8, ?_⟩
            have e1 : wcE (Sum.inr ex8) = ex8.length := rfl
            have e2 : wcE (Sum.inr (ex8 ++ [(s, q1)])) = ex8.length + 1 := by show (ex8 ++ [(s, q1)]).length = _; rw [List.length_append]; rfl
            omega
        · rintro σ H8 ⟨us8, ls8, todo8, ts8, y8', ex8, rfl, hL8, J8, hx8, hsub8, hfr8, htp8, hts8, hz8, hg8, gus8, hm8⟩
          rw [List.length_map, List.drop_length] at J8
          rw [List.length_map, Nat.sub_self] at hm8
          walk_at "go"
          exact ⟨todo8.length + 2 * wcL ls8, by omega, us8, ls8, todo8, ts8, _, _, _, _, _, rfl, hL8, J8.ends, hsub8, hfr8, htp8, hts8, rfl, by omega⟩
      · have e : ra = rb := by omega
        subst e
        walk_at "go"
        refine ⟨todo'.length + 2 * wcL ls, by omega, us, ls, todo', ts', _, _, _, _, _, rfl, hL5, J.drop hra hrb (fun p hp => ?_) (fun p hp => List.mem_append_left _ hp), hsub, hfr5, htp5, hts5, rfl, by omega⟩
        rcases List.mem_append.mp hp with h | h
        · exact .inr h
        · exact .inl (List.mem_singleton.mp h)
end
end Sf
namespace Sf
open PySem PySem.Spec PyProof.Rows L2 TL
/-! ### links that grow -/
structure GwL (ls ls' : List Lk) : Prop where
  r : ∀ a b, rlL ls [] a b → EqG (rlL ls' []) a b
  to : ∀ a s b, wyL ls a s = some b → ∃ a' b', wyL ls' a' s = some b' ∧ EqG (rlL ls' []) a a' ∧ EqG (rlL ls' []) b b'
section
variable {ls ls' ls1 : List Lk} {a b e s : Nat}
theorem ws0 {x a s b : Nat} : wsL ls [] x a s b ↔ wyL ls a s = some b := ⟨fun h => h.elim id (fun z => nomatch z.2), .inl⟩
theorem GwL.refl (ls : List Lk) : GwL ls ls := ⟨fun _ _ h => .one h, fun a s b w => ⟨a, b, w, .refl _, .refl _⟩⟩
theorem GwL.trans {ls2 : List Lk} (t : GwL ls ls1) (u : GwL ls1 ls2) : GwL ls ls2 := by
  refine ⟨fun a b h => (t.r a b h).mono u.r, fun a s b w => ?_⟩
  obtain ⟨a1, b1, w1, ea, eb⟩ := t.to a s b w
  obtain ⟨a2, b2, w2, fa, fb⟩ := u.to a1 s b1 w1
  exact ⟨a2, b2, w2, (ea.mono u.r).trans fa, (eb.mono u.r).trans fb⟩
theorem GwL.eq (t : GwL ls ls') (h : EqG (rlL ls []) a b) : EqG (rlL ls' []) a b := h.mono t.r
/-- reached from 0, up to what is one -/
def Cn (ls : List Lk) (p : Nat) : Prop := ∃ q, CnL (rlL ls []) (wsL ls [] 0) q ∧ EqG (rlL ls []) q p
theorem Cn.zero (ls : List Lk) : Cn ls 0 := ⟨0, .zero, .refl _⟩
theorem Cn.eq (h : Cn ls a) (e : EqG (rlL ls []) a b) : Cn ls b := by
  obtain ⟨q, c, k⟩ := h
  exact ⟨q, c, k.trans e⟩
theorem Cn.way {a' : Nat} (h : Cn ls a) (k : EqG (rlL ls []) a a') (w : wyL ls a' s = some b) : Cn ls b := by
  obtain ⟨q, c, e⟩ := h
  exact ⟨b, .way c (e.trans k) (.inl w) (.refl _), .refl _⟩
theorem GwL.cn (t : GwL ls ls') {p : Nat} (h : Cn ls p) : Cn ls' p := by
  obtain ⟨q, c, e⟩ := h
  have : CnL (rlL ls' []) (wsL ls' [] 0) q := by
    clear e
    induction c with
    | zero => exact .zero
    | way _ e w f ih =>
      obtain ⟨a1, b1, w1, ea, eb⟩ := t.to _ _ _ (ws0.mp w)
      exact .way ih ((e.mono t.r).trans ea) (.inl w1) (eb.symm.trans (f.mono t.r))
  exact ⟨q, this, e.mono t.r⟩
theorem GwL.app (ls : List Lk) : GwL ls (ls ++ [.inr []]) := ⟨fun a b h => .one (by rw [rlL_app]; exact h), fun a s b w => ⟨a, b, by rw [wyL_app]; exact w, .refl _, .refl _⟩⟩
/-- a word leads from one place to another, up to what is one -/
def GoL (ls : List Lk) : Nat → List Nat → Nat → Prop
  | a, [], e => EqG (rlL ls []) a e
  | a, s :: l, e => ∃ a' b, EqG (rlL ls []) a a' ∧ wyL ls a' s = some b ∧ GoL ls b l e
theorem GwL.go (t : GwL ls ls') : ∀ {l : List Nat} {a e : Nat}, GoL ls a l e → GoL ls' a l e
  | [], _, _, h => t.eq h
  | _ :: _, _, _, ⟨a', b, h1, h2, h3⟩ => by
    obtain ⟨a1, b1, w1, ea, eb⟩ := t.to _ _ _ h2
    have h3 := GwL.go t h3
    exact ⟨a1, b1, (t.eq h1).trans ea, w1, by
      cases ‹List Nat› with
      | nil => exact eb.symm.trans h3
      | cons c l =>
        obtain ⟨a'', b'', g1, g2, g3⟩ := h3
        exact ⟨a'', b'', eb.symm.trans g1, g2, g3⟩⟩
theorem GoL.pre {l : List Nat} {a a' e : Nat} (h : EqG (rlL ls []) a a') (g : GoL ls a' l e) : GoL ls a l e := by
  cases l with
  | nil => exact h.trans g
  | cons c l =>
    obtain ⟨x, y, g1, g2, g3⟩ := g
    exact ⟨x, y, h.trans g1, g2, g3⟩
theorem GoL.snoc : ∀ {l : List Nat} {a p s q e : Nat}, GoL ls a l p → (∃ p' q', EqG (rlL ls []) p p' ∧ wyL ls p' s = some q' ∧ EqG (rlL ls []) q' q) → GoL ls a (l ++ [s]) q
  | [], a, p, s, q, e, h, ⟨p', q', h1, h2, h3⟩ => ⟨p', q', EqG.trans h h1, h2, h3⟩
  | c :: l, a, p, s, q, e, ⟨a', b, h1, h2, h3⟩, k => ⟨a', b, h1, h2, GoL.snoc (e := e) h3 k⟩
theorem GoL.post : ∀ {l : List Nat} {a p q : Nat}, GoL ls a l p → EqG (rlL ls []) p q → GoL ls a l q
  | [], _, _, _, h, k => EqG.trans h k
  | _ :: _, _, _, _, ⟨a', b, h1, h2, h3⟩, k => ⟨a', b, h1, h2, GoL.post h3 k⟩
theorem GoL.cn : ∀ {l : List Nat} {a e : Nat}, GoL ls a l e → Cn ls a → Cn ls e
  | [], _, _, h, c => c.eq h
  | _ :: _, _, _, ⟨_, _, h1, h2, h3⟩, c => GoL.cn h3 (c.way h1 h2)
/-- half a link, and a link -/
structure HfR (ls : List Lk) (a s b : Nat) (ls' : List Lk) : Prop where
  ok : LkOk ls'
  len : ls'.length = ls.length
  tr : TrL (rlL ls []) (adW (wsL ls [] 0) a s b) (rlL ls' []) (wsL ls' [] 0)
  ho : ∀ (κ : Type) (T : Aut κ) (φ : Nat → κ), HoL T φ ls [] [] 0 → T.nx (φ a) s = some (φ b) → HoL T φ ls' [] [] 0
structure LnR (ls : List Lk) (a s b : Nat) (ls' : List Lk) : Prop where
  ok : LkOk ls'
  len : ls'.length = ls.length
  tr : TrL (rlL ls []) (adW (adW (wsL ls [] 0) a s b) b (flipC s) a) (rlL ls' []) (wsL ls' [] 0)
  ho : ∀ (κ : Type) (T : Aut κ) (φ : Nat → κ), HoL T φ ls [] [] 0 → T.nx (φ a) s = some (φ b) → HoL T φ ls' [] [] 0
theorem HfR.two (h : HfR ls a s b ls1) (k : HfR ls1 b (flipC s) a ls') : LnR ls a s b ls' :=
  ⟨k.ok, k.len.trans h.len, (h.tr.ad b (flipC s) a).trans k.tr, fun κ T φ H w => k.ho κ T φ (h.ho κ T φ H w) (T.inv _ _ _ w)⟩
theorem JnR.half {x e0 : Nat} {ex : List (Nat × Nat)} (J : JnR ls [(e0, b)] ls') (hd : HdL ls a x) (hx : ls[x]? = some (.inr ex)) (hf : fnd ex s = some e0) : HfR ls a s b ls' :=
  ⟨J.ok, J.len, (tr_half1 hd hx hf).trans J.tr, fun κ T φ H w => J.ho κ T φ (ho_half1 H hd hx hf w)⟩
theorem half_new {x : Nat} {ex : List (Nat × Nat)} (ok : LkOk ls) (hs : sgn s = true) (hb : b < ls.length) (hd : HdL ls a x) (hx : ls[x]? = some (.inr ex)) (hf : fnd ex s = none) : HfR ls a s b (ls.set x (.inr (ex ++ [(s, b)]))) :=
  ⟨ok.add hx hf hs hb, List.length_set, tr_half2 hd hx hf, fun κ T φ H w => ho_half2 H hd hx hf w⟩
theorem LnR.gw (h : LnR ls a s b ls') : GwL ls ls' := ⟨h.tr.r, fun u t v w => by
  obtain ⟨u', v', w', e, f⟩ := h.tr.to u t v (.inl (.inl (.inl w)))
  exact ⟨u', v', ws0.mp w', e, f⟩⟩
theorem LnR.way (h : LnR ls a s b ls') : ∃ p' q', EqG (rlL ls' []) a p' ∧ wyL ls' p' s = some q' ∧ EqG (rlL ls' []) q' b := by
  obtain ⟨u', v', w', e, f⟩ := h.tr.to a s b (.inl (.inr ⟨rfl, rfl, rfl⟩))
  exact ⟨u', v', e, ws0.mp w', f.symm⟩
theorem LnR.inv (h : LnR ls a s b ls') (hs : sgn s = true) (k : InvL (rlL ls []) (wsL ls [] 0)) : InvL (rlL ls' []) (wsL ls' [] 0) := h.tr.inv (k.ad hs)
theorem JnR.gw {p : Nat × Nat} (J : JnR ls [p] ls') : GwL ls ls' := ⟨fun u v h => J.tr.r u v (h.imp id fun z => nomatch z), fun u t v w => by
  obtain ⟨u', v', w', e, f⟩ := J.tr.to u t v (.inl w)
  exact ⟨u', v', ws0.mp w', e, f⟩⟩
theorem JnR.one {p : Nat × Nat} (J : JnR ls [p] ls') : EqG (rlL ls' []) p.1 p.2 := J.tr.r _ _ (.inr List.mem_cons_self)
theorem JnR.inv {p : Nat × Nat} (J : JnR ls [p] ls') (k : InvL (rlL ls []) (wsL ls [] 0)) : InvL (rlL ls' []) (wsL ls' [] 0) := J.tr.inv fun u t v w => by
  obtain ⟨b', a', w', e, f⟩ := k u t v w
  exact ⟨b', a', w', e.mono fun x y h => .one (h.imp id fun z => nomatch z), f.mono fun x y h => .one (h.imp id fun z => nomatch z)⟩
theorem JnR.hom {p : Nat × Nat} (J : JnR ls [p] ls') {κ : Type} {T : Aut κ} {φ : Nat → κ} (H : HoL T φ ls [] [] 0) (e : φ p.1 = φ p.2) : HoL T φ ls' [] [] 0 := J.ho κ T φ ⟨fun u v h => by
  rcases h with h | h
  · exact H.pt u v (.inl h)
  · have h := List.mem_singleton.mp h
    rw [← h] at e
    exact e, H.wy⟩
/-- a word laid from a place to another -/
structure LyR (ls : List Lk) (a : Nat) (x : List Nat) (e : Nat) (ls' : List Lk) : Prop where
  ok : LkOk ls'
  le : ls.length ≤ ls'.length
  len : ls'.length ≤ ls.length + x.length
  gw : GwL ls ls'
  inv : InvL (rlL ls []) (wsL ls [] 0) → InvL (rlL ls' []) (wsL ls' [] 0)
  go : GoL ls' a x e
  ho : ∀ (κ : Type) (T : Aut κ) (φ : Nat → κ), HoL T φ ls [] [] 0 → T.go (φ a) x = some (φ e) → ∃ ψ : Nat → κ, (∀ i, i < ls.length → ψ i = φ i) ∧ HoL T ψ ls' [] [] 0
  cn : Cn ls a → ∀ i, ls.length ≤ i → i < ls'.length → Cn ls' i
/-- a word's first signs laid -/
structure LyP (ls : List Lk) (a : Nat) (x : List Nat) (h : Nat) (ls' : List Lk) : Prop where
  ok : LkOk ls'
  le : ls.length ≤ ls'.length
  len : ls'.length ≤ ls.length + x.length
  hl : h < ls'.length
  gw : GwL ls ls'
  inv : InvL (rlL ls []) (wsL ls [] 0) → InvL (rlL ls' []) (wsL ls' [] 0)
  go : GoL ls' a x h
  ho : ∀ (κ : Type) (T : Aut κ) (φ : Nat → κ) (r : κ), HoL T φ ls [] [] 0 → T.go (φ a) x = some r → ∃ ψ : Nat → κ, (∀ i, i < ls.length → ψ i = φ i) ∧ HoL T ψ ls' [] [] 0 ∧ ψ h = r
  cn : Cn ls a → ∀ i, ls.length ≤ i → i < ls'.length → Cn ls' i
  ch : Cn ls a → Cn ls' h
theorem LyP.zero (ok : LkOk ls) (ha : a < ls.length) : LyP ls a [] a ls :=
  ⟨ok, Nat.le_refl _, Nat.le_refl _, ha, .refl _, id, EqG.refl _, fun κ T φ r H g => ⟨φ, fun _ _ => rfl, H, Option.some.inj g⟩, fun _ i h1 h2 => by omega, id⟩
theorem pt_lt {i h : Nat} (ok : LkOk ls) (e : ptL ls i = some h) : i < ls.length ∧ h < ls.length := by
  have hl : i < ls.length := by
    unfold ptL at e
    split at e
    · rename_i hh
      exact (List.getElem?_eq_some_iff.mp hh).1
    · cases e
  have := ok.lt i h e
  exact ⟨hl, by omega⟩
theorem wy_lt {i t q : Nat} (ok : LkOk ls) (e : wyL ls i t = some q) : i < ls.length ∧ q < ls.length := by
  refine ⟨?_, (ok.rg i t q e).2⟩
  unfold wyL at e
  split at e
  · rename_i hh
    exact (List.getElem?_eq_some_iff.mp hh).1
  · cases e
/-- a place more, wherever it goes -/
theorem HoL.app {κ : Type} {T : Aut κ} {φ : Nat → κ} (ok : LkOk ls) (H : HoL T φ ls [] [] 0) (r : κ) : HoL T (fun i => if i = ls.length then r else φ i) (ls ++ [.inr []]) [] [] 0 := by
  refine ⟨fun u v h => ?_, fun u t v h => ?_⟩
  · rw [rlL_app] at h
    rcases h with h | h
    · obtain ⟨h1, h2⟩ := pt_lt ok h
      rw [if_neg (by omega), if_neg (by omega)]
      exact H.pt u v (.inl h)
    · cases h
  · rw [wsL_app] at h
    obtain ⟨h1, h2⟩ := wy_lt ok (ws0.mp h)
    rw [if_neg (by omega), if_neg (by omega)]
    exact H.wy u t v h
theorem go_snoc {κ : Type} {T : Aut κ} {x : List Nat} {p r : κ} (h : T.go p (x ++ [s]) = some r) : ∃ m, T.go p x = some m ∧ T.nx m s = some r := by
  obtain ⟨m, h1, h2⟩ := Aut.pre h
  obtain ⟨q, h3, h4⟩ := Option.bind_eq_some_iff.mp (show (T.nx m s).bind (fun q => T.go q []) = some r from h2)
  cases h4
  exact ⟨m, h1, h3⟩
theorem InvL.app (k : InvL (rlL ls []) (wsL ls [] 0)) : InvL (rlL (ls ++ [.inr []]) []) (wsL (ls ++ [.inr []]) [] 0) := by
  rw [rlL_app, wsL_app]
  exact k
theorem LyP.step {x : List Nat} {h : Nat} (L : LyP ls a x h ls1) (hs : sgn s = true) (k : LnR (ls1 ++ [.inr []]) h s ls1.length ls') : LyP ls a (x ++ [s]) ls1.length ls' := by
  have l1 : ls'.length = ls1.length + 1 := by rw [k.len, List.length_append]; rfl
  have g1 : GwL ls1 ls' := (GwL.app ls1).trans k.gw
  have le := L.le
  have len := L.len
  have ch : Cn ls a → Cn ls' ls1.length := fun c => by
    obtain ⟨p', q', e1, w1, e2⟩ := k.way
    exact ((g1.cn (L.ch c)).way e1 w1).eq e2
  refine ⟨k.ok, by omega, by rw [List.length_append]; show _ ≤ _ + (x.length + 1); omega, by omega, L.gw.trans g1, fun i => k.inv hs (L.inv i).app, GoL.snoc (e := h) (g1.go L.go) k.way, fun κ T φ r H g => ?_, fun c i h1 h2 => ?_, ch⟩
  · obtain ⟨m, g2, g3⟩ := go_snoc g
    obtain ⟨ψ, p1, p2, p3⟩ := L.ho κ T φ m H g2
    have hl := L.hl
    refine ⟨_, fun i hi => ?_, k.ho κ T _ (p2.app L.ok r) ?_, if_pos rfl⟩
    · rw [if_neg (by omega)]
      exact p1 i hi
    · rw [if_neg (by omega), if_pos rfl, p3]
      exact g3
  · by_cases z : i = ls1.length
    · rw [z]; exact ch c
    · exact g1.cn (L.cn c i h1 (by omega))
theorem LyP.last {x : List Nat} {h : Nat} (L : LyP ls a x h ls1) (hs : sgn s = true) (he : e < ls.length) (k : LnR ls1 h s e ls') : LyR ls a (x ++ [s]) e ls' := by
  have l1 := k.len
  have le := L.le
  have len := L.len
  refine ⟨k.ok, by omega, by rw [List.length_append]; omega, L.gw.trans k.gw, fun i => k.inv hs (L.inv i), GoL.snoc (e := h) (k.gw.go L.go) k.way, fun κ T φ H g => ?_, fun c i h1 h2 => k.gw.cn (L.cn c i h1 (by omega))⟩
  obtain ⟨m, g2, g3⟩ := go_snoc g
  obtain ⟨ψ, p1, p2, p3⟩ := L.ho κ T φ m H g2
  exact ⟨ψ, p1, k.ho κ T ψ p2 (by rw [p3, p1 e he]; exact g3)⟩
theorem LyR.nil (ok : LkOk ls) (J : JnR ls [(a, e)] ls') : LyR ls a [] e ls' :=
  ⟨J.ok, by rw [J.len]; exact Nat.le_refl _, by rw [J.len]; exact Nat.le_refl _, J.gw, J.inv, J.one, fun κ T φ H g => ⟨φ, fun _ _ => rfl, J.hom H (Option.some.inj g)⟩, fun _ i h1 h2 => by
    rw [J.len] at h2
    omega⟩
theorem LyR.end_ {x : List Nat} (L : LyR ls a x e ls') (c : Cn ls a) : Cn ls' e := L.go.cn (L.gw.cn c)
end
end Sf
namespace Sf
open PySem PySem.Spec PyProof.Rows L2 TL
section
variable {P : Program} {w : World} {K : PySem.W.Frag} {mg : Str → Option Value} {base : Heap}
/-! ### _law_link -/
def spLlk : Sp := fun vs H Q _ => ∃ (lp : Addr) (us : List V) (ls : List Lk) (a s b : Nat), vs = [.ref lp, .int (a : Nat), .str (one s), .int (b : Nat)] ∧ LksAt H lp us ls ∧ LkOk ls ∧ sgn s = true ∧ a < ls.length ∧ b < ls.length ∧ ls.length ≤ 3000 ∧
  ∀ (us' : List V) (ls' : List Lk) (H' : Hp), LksAt H' lp us' ls' → LnR ls a s b ls' → LFr lp us H us' H' → Q .non H'
theorem sc_llk : FnScope ["_law_links", "_law_start", "_law_sign_here", "_law_end", "_law_a", "_law_one", "_law_b"] ["_law_links", "_law_start", "_law_sign_here", "_law_end"] (defScope s__law_link) := ⟨rfl, rfl, rfl, by decide +kernel, rfl, by decide +kernel, by decide +kernel⟩
theorem has_llk (F : FnAt K mg "_law_link" s__law_link ["_law_links", "_law_start", "_law_sign_here", "_law_end"]) (B : Blt mg) (h_Lhd : Has P w K mg base 1 "_law_head" ["_law_links", "_law_place"] spLhd) (h_Ljn : Has P w K mg base 2 "_law_join" ["_law_links", "_law_one", "_law_other"] spLjn) (h_Fl : HasFlip P w K mg base) : Has P w K mg base 3 "_law_link" ["_law_links", "_law_start", "_law_sign_here", "_law_end"] spLlk := F.has fun F => by
  obtain ⟨f_Lhd, fd_Lhd, g_Lhd, k_Lhd, b_Lhd, G_Lhd⟩ := h_Lhd
  obtain ⟨f_Ljn, fd_Ljn, g_Ljn, k_Ljn, b_Ljn, G_Ljn⟩ := h_Ljn
  obtain ⟨f_Fl, fd_Fl, g_Fl, k_Fl, b_Fl, G_Fl⟩ := h_Fl
  refine F.ok sc_llk (fun vs H Q E h => ?_) (fun cdv A outer s H vs Q E hr h => ?_)
  · obtain ⟨lp, us, ls, a, s, b, rfl, _⟩ := h
    rfl
  · obtain ⟨lp, us0, ls0, a, s, b, rfl, hL0, ok0, hs, ha, hb, hlen, q⟩ := h
    refine ⟨_, (pss_one (ps_for PassesOwn.never rfl (pi_list (pe_lst (pa_cons (pe_tup (pa_cons (pv 1) (pa_cons (pv 2) (pa_cons (pv 3) pa_nil)))) (pa_cons (pe_tup (pa_cons (pv 3) (pa_cons (pe_call G_Fl (hr.mono (by decide)) (by rfl) g_Fl k_Fl b_Fl .nil pass0 (pa_cons (pv 2) pa_nil)) (pa_cons (pv 1) pa_nil)))) pa_nil)))) (pg_tup rfl (pgs_cons (pg_name (i := 4) sc_llk.nd rfl (.inl rfl)) (pgs_cons (pg_name (i := 5) sc_llk.nd rfl (.inl rfl)) (pgs_cons (pg_name (i := 6) sc_llk.nd rfl (.inl rfl)) pgs_nil)))) (pss_cons (ps_set (i := 4) sc_llk.nd rfl (.inl rfl) (pe_call G_Lhd (hr.mono (by decide)) (by rfl) g_Lhd k_Lhd b_Lhd .nil pass0 (pa_cons (pv 0) (pa_cons (pv 4) pa_nil)))) (pss_one (ps_if (pt_cmp (pc_din (hu_of hr) (pv 5) (pe_ix ix_list (pv 0) (pv 4) (fun _ _ => rfl)))) (pss_one (ps_expr (pe_call G_Ljn (hr.mono (by decide)) (by rfl) g_Ljn k_Ljn b_Ljn .nil pass0 (pa_cons (pv 0) (pa_cons (pe_dget (hu_of hr) (pe_ix ix_list (pv 0) (pv 4) (fun _ _ => rfl)) (pv 5) (fun _ _ => rfl)) (pa_cons (pv 6) pa_nil)))))) (pss_one (ps_dput (hu_of hr) (pe_ix ix_list (pv 0) (pv 4) (fun _ _ => rfl)) (pv 5) (pv 6) rfl))))))), ?_⟩
    walk_at "go"
    refine w_newT (by walk_at "sz") (fun t0 H1 ht0 nt0 => ?_)
    walk_at "go"
    refine ⟨s, rfl, hs, ?_⟩
    walk_at "go"
    refine w_newT (by walk_at "sz") (fun t1 H2 ht1 nt1 => ?_)
    walk_at "go"
    refine w_newL (by walk_at "sz") (fun l H3 hl nl => ?_)
    walk_at "go"
    have s3 : Same H H3 := (nt0.same.trans nt1.same).trans nl.same
    refine w_list (xs := [.ref t0, .ref t1]) (fun i σ H4 => ∃ us ls y4 y5 y6, σ = [some (.ref lp), some (.int (a : Nat)), some (.str (one s)), some (.int (b : Nat)), y4, y5, y6] ∧ LksAt H4 lp us ls ∧ (i = 0 → ls = ls0) ∧ (i = 1 → HfR ls0 a s b ls) ∧ (i = 2 → LnR ls0 a s b ls) ∧ LkOk ls ∧ ls.length = ls0.length ∧ LFr lp us0 H us H4 ∧ H4 l = some (.lst [.ref t0, .ref t1]) ∧ H4 t0 = some (.tup [.int (a : Nat), .str (one s), .int (b : Nat)]) ∧ H4 t1 = some (.tup [.int (b : Nat), .str (one (flipC s)), .int (a : Nat)])) ?_ ?_ ?_ ?_
    · exact ⟨us0, ls0, none, none, none, rfl, hL0.keep (by rw [hL0.lst, s3.at hL0.lst]) (fun d _ o e => s3.at e), fun _ => rfl, (fun z => nomatch z), (fun z => nomatch z), ok0, rfl, ⟨fun x o e _ _ => s3.at e, fun d h => .inl h⟩, hl, nl.at (nt1.at ht0), nl.at ht1⟩
    · rintro i σ H4 _ ⟨us, ls, y4, y5, y6, _, _, _, _, _, _, _, _, h, _⟩
      exact h
    · rintro i v σ H4 hv ⟨us, ls, y4, y5, y6, rfl, hL, h0, h1, h2, ok, hl4n, hfr, hl4, ht04, ht14⟩
      obtain ⟨t, a', s', b', rfl, ht, hs', ha', hb', nxt⟩ : ∃ t a' s' b', v = .ref t ∧ H4 t = some (.tup [.int ((a' : Nat) : Int), .str (one s'), .int ((b' : Nat) : Int)]) ∧ sgn s' = true ∧ a' < ls.length ∧ b' < ls.length ∧ ∀ ls2, HfR ls a' s' b' ls2 → (i + 1 = 0 → ls2 = ls0) ∧ (i + 1 = 1 → HfR ls0 a s b ls2) ∧ (i + 1 = 2 → LnR ls0 a s b ls2) := by
        match i, hv with
        | 0, hv =>
          cases hv
          exact ⟨t0, a, s, b, rfl, ht04, hs, by omega, by omega, fun ls2 k => ⟨(fun z => nomatch z), fun _ => by rw [← h0 rfl]; exact k, (fun z => nomatch z)⟩⟩
        | 1, hv =>
          cases hv
          exact ⟨t1, b, flipC s, a, rfl, ht14, flip_sgn hs, by omega, by omega, fun ls2 k => ⟨(fun z => nomatch z), (fun z => nomatch z), fun _ => (h1 rfl).two k⟩⟩
      obtain ⟨x, hd⟩ := ok.hd (a' + 1) a' (Nat.lt_succ_self _) ha'
      obtain ⟨ex, hx⟩ := hd.is
      obtain ⟨dx, hxu, hdx, hdm, hdl⟩ := hL.row hx
      dsimp only
      walk_at "go"
      refine ⟨lp, us, ls, a', x, rfl, hL, ok, hd, by omega, ?_⟩
      walk_at "go"
      refine w_ixL hL.lst (atI_nat hxu) ?_
      walk_at "go"
      rw [show valV (ex.map fun e => (kSg e.1, V.int (e.2 : Nat))) (Sum.inr (one s')) = _ from fnd_val, Option.isSome_map]
      cases hf : fnd ex s' with
      | some e0 =>
        refine w_ifB (fun _ => ?_) (fun z => nomatch z)
        walk_at "go"
        refine w_ixL hL.lst (atI_nat hxu) ?_
        walk_at "go"
        refine w_kDGetS hdx (v := .int (e0 : Nat)) (by rw [show valV (ex.map fun e => (kSg e.1, V.int (e.2 : Nat))) (Sum.inr (one s')) = _ from fnd_val, hf]; rfl) ?_
        walk_at "go"
        refine ⟨lp, us, ls, e0, b', rfl, hL, ok, (ok.rg x s' e0 (by rw [wyL_row hx]; exact hf)).2, hb', by omega, fun us5 ls5 H5 hL5 J5 fr5 => ?_⟩
        walk_at "go"
        have kp : ∀ y o, H4 y = some o → y ≠ lp → (∀ kvs, o ≠ .dK kvs) → H5 y = some o := fun y o h n k => fr5.fr y o h n fun z => by
          obtain ⟨kvs, e⟩ := hL.dk z
          rw [h] at e
          exact k kvs (Option.some.inj e)
        have hH := J5.half hd hx hf
        obtain ⟨n0, n1, n2⟩ := nxt ls5 hH
        refine ⟨us5, ls5, _, _, _, rfl, hL5, n0, n1, n2, hH.ok, by rw [hH.len]; exact hl4n, hfr.trans fr5 (by rw [hL.lst]; exact (fun z => nomatch z)), kp _ _ hl4 (fun z => ?_) (fun _ z => nomatch z), kp _ _ ht04 (fun z => ?_) (fun _ z => nomatch z), kp _ _ ht14 (fun z => ?_) (fun _ z => nomatch z)⟩
        · have := nl.nn
          rw [z, nt1.at (nt0.at hL0.lst)] at this; cases this
        · have := nt0.nn
          rw [z, hL0.lst] at this; cases this
        · have := nt1.nn
          rw [z, nt0.at hL0.lst] at this; cases this
      | none =>
        refine w_ifB (fun z => nomatch z) (fun _ => ?_)
        walk_at "go"
        refine w_ixL hL.lst (atI_nat hxu) ?_
        walk_at "go"
        refine w_kDPutS hdx (by
          have := ok.len hx
          rw [List.length_map]
          exact lineLt_of (by omega)) (fun H5 h5 o5 => ?_)
        have hp5 : putK (ex.map fun e => (kSg e.1, V.int (e.2 : Nat))) (Sum.inr (one s')) (.int (b' : Nat)) = (ex ++ [(s', b')]).map fun e => (kSg e.1, V.int (e.2 : Nat)) := by
          rw [putK_new _ (by rw [show valV (ex.map fun e => (kSg e.1, V.int (e.2 : Nat))) (Sum.inr (one s')) = _ from fnd_val, hf]; rfl), List.map_append]
          rfl
        rw [hp5] at h5
        walk_at "go"
        have hH := half_new ok hs' hb' hd hx hf
        obtain ⟨n0, n1, n2⟩ := nxt _ hH
        have ne : ∀ {y o}, H4 y = some o → (∀ kvs, o ≠ .dK kvs) → y ≠ dx := fun h k z => by
          rw [z, hdx] at h
          exact k _ (Option.some.inj h).symm
        refine ⟨us, _, _, _, _, rfl, hL.setR hxu h5 hdl o5, n0, n1, n2, hH.ok, by rw [hH.len]; exact hl4n, hfr.trans ⟨fun y o h _ k => o5.at (fun z => k (by rw [z]; exact hdm)) h, fun d h => .inl h⟩ (by rw [hL.lst]; exact (fun z => nomatch z)), o5.at (ne hl4 (fun _ z => nomatch z)) hl4, o5.at (ne ht04 (fun _ z => nomatch z)) ht04, o5.at (ne ht14 (fun _ z => nomatch z)) ht14⟩
    · rintro σ H4 ⟨us, ls, y4, y5, y6, rfl, hL, _, _, h2, _, _, hfr, _⟩
      walk_at "go"
      exact q us ls H4 hL (h2 rfl) hfr
end
end Sf
namespace Sf
open PySem PySem.Spec PyProof.Rows L2 TL
section
variable {P : Program} {w : World} {K : PySem.W.Frag} {mg : Str → Option Value} {base : Heap}
/-! ### _law_lay -/
def spLly : Sp := fun vs H Q _ => ∃ (lp : Addr) (us : List V) (ls : List Lk) (a : Nat) (x : Str) (e : Nat), vs = [.ref lp, .int (a : Nat), .str x, .int (e : Nat)] ∧ LksAt H lp us ls ∧ LkOk ls ∧ Wd x ∧ a < ls.length ∧ e < ls.length ∧ ls.length + x.length ≤ 3000 ∧
  ∀ (us' : List V) (ls' : List Lk) (H' : Hp), LksAt H' lp us' ls' → LyR ls a (tl x) e ls' → LFr lp us H us' H' → Q .non H'
theorem sc_lly : FnScope ["_law_links", "_law_start", "_law_word_here", "_law_end", "_law_here", "_law_at", "_law_fresh"] ["_law_links", "_law_start", "_law_word_here", "_law_end"] (defScope s__law_lay) := ⟨rfl, rfl, rfl, by decide +kernel, rfl, by decide +kernel, by decide +kernel⟩
theorem has_lly (F : FnAt K mg "_law_lay" s__law_lay ["_law_links", "_law_start", "_law_word_here", "_law_end"]) (B : Blt mg) (h_Ljn : Has P w K mg base 2 "_law_join" ["_law_links", "_law_one", "_law_other"] spLjn) (h_Llk : Has P w K mg base 3 "_law_link" ["_law_links", "_law_start", "_law_sign_here", "_law_end"] spLlk) : Has P w K mg base 4 "_law_lay" ["_law_links", "_law_start", "_law_word_here", "_law_end"] spLly := F.has fun F => by
  obtain ⟨f_Ljn, fd_Ljn, g_Ljn, k_Ljn, b_Ljn, G_Ljn⟩ := h_Ljn
  obtain ⟨f_Llk, fd_Llk, g_Llk, k_Llk, b_Llk, G_Llk⟩ := h_Llk
  refine F.ok sc_lly (fun vs H Q E h => ?_) (fun cdv A outer s H vs Q E hr h => ?_)
  · obtain ⟨lp, us, ls, a, x, e, rfl, _⟩ := h
    rfl
  · obtain ⟨lp, us0, ls0, a, x, e, rfl, hL0, ok0, hx, ha, he, hlen, q⟩ := h
    refine ⟨_, (pss_cons (ps_set (i := 4) sc_lly.nd rfl (.inl rfl) (pv 1)) (pss_cons (ps_for PassesOwn.never rfl (pi_range1 rfl B.range (pa_cons (pe_callB call_lenS (by rfl) B.len PySem.boot_len (pa_cons (pv 2) pa_nil)) pa_nil)) (pg_name (i := 5) sc_lly.nd rfl (.inl rfl)) (pss_cons (ps_set (i := 6) sc_lly.nd rfl (.inl rfl) (pv 3)) (pss_cons (ps_if (pt_cmpR op_lt (pv 5) (pe_op op_sub (pe_callB call_lenS (by rfl) B.len PySem.boot_len (pa_cons (pv 2) pa_nil)) pe_int) (nomark _)) (pss_cons (ps_expr (pe_bm PySem.F.plainAttrs_list PySem.F.slot_list_append PySem.F.type_list_append mt_append (pv 0) (pa_cons pe_dnewK pa_nil))) (pss_one (ps_set (i := 6) sc_lly.nd rfl (.inl rfl) (pe_op op_sub (pe_callB call_lenQ (by rfl) B.len PySem.boot_len (pa_cons (pv 0) pa_nil)) pe_int)))) pss_nil) (pss_cons (ps_expr (pe_call G_Llk (hr.mono (by decide)) (by rfl) g_Llk k_Llk b_Llk .nil pass0 (pa_cons (pv 0) (pa_cons (pv 4) (pa_cons (pe_ix ix_str (pv 2) (pv 5) (fun _ _ => rfl)) (pa_cons (pv 6) pa_nil)))))) (pss_one (ps_set (i := 4) sc_lly.nd rfl (.inl rfl) (pv 6))))))) (pss_one (ps_if (pt_cmpR op_eq (pv 2) pe_str (nomark _)) (pss_one (ps_expr (pe_call G_Ljn (hr.mono (by decide)) (by rfl) g_Ljn k_Ljn b_Ljn .nil pass0 (pa_cons (pv 0) (pa_cons (pv 1) (pa_cons (pv 3) pa_nil)))))) pss_nil)))), ?_⟩
    have xl : x.length ≤ 3000 := by omega
    have xt := len_tl x
    walk_at "go"
    refine w_lenS (line_of (by omega)) ?_
    walk_at "go"
    refine w_kRng1 (j := ((x.length : Nat) : Int)) (by omega) (by omega) ?_
    refine w_range (fun i σ H1 => ∃ us1 ls1 h y5 y6, σ = [some (.ref lp), some (.int (a : Nat)), some (.str x), some (.int (e : Nat)), some (.int (h : Nat)), y5, y6] ∧ LksAt H1 lp us1 ls1 ∧ LFr lp us0 H us1 H1 ∧ (i < x.length ∨ x.length = 0 → LyP ls0 a ((tl x).take i) h ls1) ∧ (i = x.length ∧ 0 < x.length → LyR ls0 a (tl x) e ls1) ∧ (i = 0 → ls1 = ls0)) ?_ ?_ ?_
    · exact ⟨us0, ls0, a, none, none, rfl, hL0, .refl, fun _ => .zero ok0 ha, fun z => by omega, fun _ => rfl⟩
    · rintro i σ H1 hi ⟨us1, ls1, h, y5, y6, rfl, hL, hfr, hP, _, _⟩
      have hi : i < x.length := by omega
      have hP := hP (.inl hi)
      have hit : i < (tl x).length := by omega
      obtain ⟨c, hc⟩ : ∃ c, (tl x)[i]? = some c := ⟨_, List.getElem?_eq_getElem hit⟩
      have hcs : sgn c = true := hx c (List.mem_of_getElem? hc)
      have htk : (tl x).take (i + 1) = (tl x).take i ++ [c] := take_snoc hc
      have tl1 : ((tl x).take i).length = i := by rw [List.length_take]; omega
      have hlst := hL.lst
      have plen := hP.len
      have ple := hP.le
      have phl := hP.hl
      rw [tl1] at plen
      dsimp only
      walk_at "go"
      refine w_lenS (line_of (by omega)) ?_
      walk_at "go"
      refine w_if2 (fun h1 => ?_) (fun h1 => ?_)
      · walk_at "go"
        refine w_dnewK (fun d H2 hd nd => ?_)
        walk_at "go"
        have ul := hL.len
        refine w_append (nd.at hlst) (lineLt_of (by omega)) (fun H3 h3 o3 => ?_)
        have dlp : d ≠ lp := (nd.ne hlst).symm
        have hL3 := hL.app h3 (o3.at dlp hd) nd.nn (fun b x h n => o3.at n (nd.at h))
        have fr3 : LFr lp us1 H1 (us1 ++ [.ref d]) H3 := ⟨fun b o h n _ => o3.at n (nd.at h), fun d' z => by
          rcases List.mem_append.mp z with z | z
          · exact .inl z
          · cases List.mem_singleton.mp z
            exact .inr nd.nn⟩
        walk_at "go"
        rw [show (((us1 ++ [V.ref d]).length : Nat) : Int) - 1 = ((ls1.length : Nat) : Int) by rw [List.length_append, List.length_singleton, ul]; omega]
        walk_at "go"
        refine w_ixS (line_of (by omega)) (by rw [Int.zero_add]; exact atI_nat hc) ?_
        walk_at "go"
        refine ⟨lp, _, _, h, c, ls1.length, rfl, hL3, hP.ok.app, hcs, by rw [List.length_append]; omega, by rw [List.length_append, List.length_singleton]; omega, by rw [List.length_append, List.length_singleton]; omega, fun us4 ls4 H4 hL4 k4 fr4 => ?_⟩
        walk_at "go"
        refine ⟨us4, ls4, ls1.length, _, _, rfl, hL4, (hfr.trans fr3 (by rw [hlst]; exact (fun z => nomatch z))).trans fr4 (by rw [h3]; exact (fun z => nomatch z)), fun _ => by rw [htk]; exact hP.step hcs k4, fun z => by omega, fun z => by omega⟩
      · have hl1 : i + 1 = x.length := by omega
        walk_at "go"
        refine w_ixS (line_of (by omega)) (by rw [Int.zero_add]; exact atI_nat hc) ?_
        walk_at "go"
        refine ⟨lp, _, _, h, c, e, rfl, hL, hP.ok, hcs, phl, by omega, by omega, fun us4 ls4 H4 hL4 k4 fr4 => ?_⟩
        walk_at "go"
        refine ⟨us4, ls4, e, _, _, rfl, hL4, hfr.trans fr4 (by rw [hlst]; exact (fun z => nomatch z)), fun z => by omega, fun _ => ?_, fun z => by omega⟩
        have hall : (tl x).take (i + 1) = tl x := List.take_of_length_le (by omega)
        rw [hall] at htk
        rw [htk]
        exact hP.last hcs he k4
    · rintro σ H1 ⟨us1, ls1, h, y5, y6, rfl, hL, hfr, hP, hR, h0⟩
      have eN : ((x.length : Nat) : Int).toNat = x.length := by omega
      walk_at "go"
      refine w_if2 (fun h1 => ?_) (fun h1 => ?_)
      · have x0 : x.length = 0 := by rw [h1]; decide +kernel
        have tx : tl x = [] := List.eq_nil_of_length_eq_zero (by omega)
        have h0 : ls1 = ls0 := h0 (by omega)
        subst h0
        walk_at "go"
        refine ⟨lp, us1, ls1, a, e, rfl, hL, ok0, ha, he, by omega, fun us4 ls4 H4 hL4 J4 fr4 => ?_⟩
        walk_at "go"
        exact q us4 ls4 H4 hL4 (by rw [tx]; exact .nil ok0 J4) (hfr.trans fr4 (by rw [hL.lst]; exact (fun z => nomatch z)))
      · walk_at "go"
        refine q us1 ls1 H1 hL (hR ⟨by omega, ?_⟩) hfr
        rcases Nat.eq_zero_or_pos x.length with z | z
        · exact absurd (ext_tl (by rw [List.eq_nil_of_length_eq_zero (l := tl x) (by omega)]; decide +kernel)) h1
        · exact z
end
end Sf
namespace Sf
open PySem PySem.Spec PyProof.Rows L2 TL
/-! ### links as places with ways -/
open Classical in
noncomputable def hdN (ls : List Lk) (i : Nat) : Nat := if h : ∃ r, HdL ls i r then Classical.choose h else i
section
variable {ls ls' ls1 : List Lk} {a b e s i r : Nat}
theorem hdN_of (h : HdL ls i r) : hdN ls i = r := by
  have hx : ∃ r, HdL ls i r := ⟨r, h⟩
  unfold hdN
  rw [dif_pos hx]
  exact (Classical.choose_spec hx).fn h
theorem hdN_hd (ok : LkOk ls) (hi : i < ls.length) : HdL ls i (hdN ls i) := by
  obtain ⟨r, h⟩ := ok.hd (i + 1) i (Nat.lt_succ_self _) hi
  rw [hdN_of h]
  exact h
theorem HdL.lt (h : HdL ls i r) : r < ls.length := by
  obtain ⟨es, e⟩ := h.is
  exact (List.getElem?_eq_some_iff.mp e).1
theorem hdN_lt (ok : LkOk ls) (hi : i < ls.length) : hdN ls i < ls.length := (hdN_hd ok hi).lt
theorem wy_row {q : Nat} (h : wyL ls a s = some q) : HdL ls a a := by
  unfold wyL at h
  split at h
  · rename_i es e
    exact .row e
  · cases h
theorem hd_self (h : HdL ls i r) : HdL ls r r := by
  obtain ⟨es, e⟩ := h.is
  exact .row e
theorem hdN_eq (ok : LkOk ls) (h : EqG (rlL ls []) a b) (hb : b < ls.length) : hdN ls a = hdN ls b := hdN_of (h.symm.hd ok (hdN_hd ok hb))
theorem hd_zero (ok : LkOk ls) (h0 : 0 < ls.length) : HdL ls 0 0 := by
  have h := hdN_hd ok h0
  have := h.le ok
  rw [show hdN ls 0 = 0 by omega] at h
  exact h
noncomputable def nxL (ls : List Lk) (p s : Nat) : Option Nat := (wyL ls p s).map (hdN ls)
noncomputable def lkA (ok : LkOk ls) (inv : InvL (rlL ls []) (wsL ls [] 0)) : Aut Nat where
  st := 0
  nx := nxL ls
  sg := fun p s q h => by
    obtain ⟨b, h1, _⟩ := Option.map_eq_some_iff.mp h
    exact (ok.rg p s b h1).1
  inv := fun p s q h => by
    obtain ⟨b, h1, rfl⟩ := Option.map_eq_some_iff.mp h
    obtain ⟨b', a', w, e, f⟩ := inv p s b (ws0.mpr h1)
    have w := ws0.mp w
    have eb : hdN ls b = b' := hdN_of (e.symm.hd ok (wy_row w))
    have ea : hdN ls a' = p := hdN_of (f.hd ok (wy_row h1))
    show (wyL ls (hdN ls b) (flipC s)).map (hdN ls) = some p
    rw [eb, w]
    exact congrArg some ea
/-- what is led to, as the law goes -/
noncomputable def goH (ls : List Lk) : Nat → List Nat → Option Nat
  | p, [] => some p
  | p, s :: l => (nxL ls p s).bind fun q => goH ls q l
theorem goH_A (ok : LkOk ls) (inv : InvL (rlL ls []) (wsL ls [] 0)) : ∀ (l : List Nat) (p : Nat), (lkA ok inv).go p l = goH ls p l
  | [], _ => rfl
  | s :: l, p => by
    show (nxL ls p s).bind (fun q => (lkA ok inv).go q l) = (nxL ls p s).bind fun q => goH ls q l
    congr 1
    funext q
    exact goH_A ok inv l q
theorem goH_app : ∀ (l m : List Nat) (p : Nat), goH ls p (l ++ m) = (goH ls p l).bind fun q => goH ls q m
  | [], _, _ => rfl
  | s :: l, m, p => by
    show (nxL ls p s).bind (fun q => goH ls q (l ++ m)) = ((nxL ls p s).bind fun q => goH ls q l).bind _
    cases nxL ls p s with
    | none => rfl
    | some q => exact goH_app l m q
theorem nxL_row (ok : LkOk ls) {p q : Nat} (h : nxL ls p s = some q) : HdL ls q q := by
  obtain ⟨b, h1, rfl⟩ := Option.map_eq_some_iff.mp h
  exact hd_self (hdN_hd ok (ok.rg p s b h1).2)
theorem GoL.goH (ok : LkOk ls) : ∀ {l : List Nat} {a e : Nat}, GoL ls a l e → e < ls.length → goH ls (hdN ls a) l = some (hdN ls e)
  | [], _, _, h, he => congrArg some (hdN_eq ok h he)
  | s :: l, a, e, ⟨a', b, h1, h2, h3⟩, he => by
    have ea : hdN ls a = a' := hdN_of (h1.symm.hd ok (wy_row h2))
    show (nxL ls (hdN ls a) s).bind (fun q => Sf.goH ls q l) = _
    unfold nxL
    rw [ea, h2]
    exact GoL.goH ok h3 he
theorem HoL.goH {κ : Type} {T : Aut κ} {φ : Nat → κ} (ok : LkOk ls) (H : HoL T φ ls [] [] 0) : ∀ {l : List Nat} {p q : Nat}, goH ls p l = some q → T.go (φ p) l = some (φ q)
  | [], p, q, h => by
    cases h
    rfl
  | s :: l, p, q, h => by
    obtain ⟨m, h1, h2⟩ := Option.bind_eq_some_iff.mp (show (nxL ls p s).bind (fun q => Sf.goH ls q l) = some q from h)
    obtain ⟨b, h3, rfl⟩ := Option.map_eq_some_iff.mp h1
    have e : φ b = φ (hdN ls b) := (hdN_hd ok (ok.rg p s b h3).2).eq.fn φ H.pt
    show (T.nx (φ p) s).bind (fun q => T.go q l) = _
    rw [H.wy p s b (.inl h3), e]
    exact HoL.goH ok H h2
/-- what is reached is led to by a word -/
theorem CnL.goH (ok : LkOk ls) {p : Nat} (h : CnL (rlL ls []) (wsL ls [] 0) p) (h0 : 0 < ls.length) : ∃ l, (∀ c ∈ l, sgn c = true) ∧ goH ls 0 l = some (hdN ls p) ∧ p < ls.length := by
  induction h with
  | zero => exact ⟨[], (fun c hc => nomatch hc), congrArg some (hdN_of (hd_zero ok h0)).symm, h0⟩
  | @way a a' s b b' c e w f ih =>
    obtain ⟨l, hl, h1, h2⟩ := ih
    have w := ws0.mp w
    have ea : hdN ls a = a' := hdN_of (e.symm.hd ok (wy_row w))
    have hb := (ok.rg a' s b w)
    have hb' : b' < ls.length := by
      have hr := hdN_hd ok hb.2
      have := f.hd ok hr
      cases this with
      | row k => exact (List.getElem?_eq_some_iff.mp k).1
      | pt k _ => exact (pt_lt ok k).1
    refine ⟨l ++ [s], fun c hc => ?_, ?_, hb'⟩
    · rcases List.mem_append.mp hc with z | z
      · exact hl c z
      · rw [List.mem_singleton.mp z]; exact hb.1
    · rw [goH_app, h1]
      show (nxL ls (hdN ls a) s).bind (fun q => some q) = _
      unfold nxL
      rw [ea, w]
      exact congrArg some (hdN_eq ok f hb')
theorem Cn.goH (ok : LkOk ls) {p : Nat} (h : Cn ls p) (h0 : 0 < ls.length) (hp : p < ls.length) : ∃ l, (∀ c ∈ l, sgn c = true) ∧ goH ls 0 l = some (hdN ls p) := by
  obtain ⟨q, c, e⟩ := h
  obtain ⟨l, h1, h2, _⟩ := c.goH ok h0
  exact ⟨l, h1, by rw [h2]; exact congrArg some (hdN_eq ok e hp)⟩
/-! a web laid fact by fact -/
structure WbI (F : List Clm) (ls : List Lk) : Prop where
  ok : LkOk ls
  inv : InvL (rlL ls []) (wsL ls [] 0)
  pos : 0 < ls.length
  so : ∀ f ∈ F, ∃ e, e < ls.length ∧ GoL ls 0 (tl f.1) e ∧ GoL ls 0 (tl f.2) e
  ho : ∀ (κ : Type) (T : Aut κ), (∀ f ∈ F, T.Hd f) → ∃ φ : Nat → κ, φ 0 = T.st ∧ HoL T φ ls [] [] 0
  cn : ∀ i, i < ls.length → Cn ls i
theorem WbI.zero : WbI [] [.inr []] := by
  have pt : ∀ i, ptL [Sum.inr []] i = none := fun i => by
    cases i with
    | zero => rfl
    | succ i => rfl
  have wy : ∀ i s, wyL [Sum.inr []] i s = none := fun i s => by
    cases i with
    | zero => rfl
    | succ i => rfl
  refine ⟨⟨fun i h e => (by rw [pt] at e; cases e), fun i es e => ?_, fun i s q e => (by rw [wy] at e; cases e)⟩, fun a s b w => (by rw [ws0, wy] at w; cases w), Nat.zero_lt_one, (fun f hf => nomatch hf), fun κ T _ => ⟨fun _ => T.st, rfl, fun a b h => rfl, fun a s b w => (by rw [ws0, wy] at w; cases w)⟩, fun i hi => ?_⟩
  · cases i with
    | zero => cases e; exact .nil
    | succ i => cases e
  · rw [show i = 0 by have : i < 1 := hi; omega]
    exact Cn.zero _
theorem WbI.step {F : List Clm} {x y : Str} {ls2 : List Lk} (I : WbI F ls) (L1 : LyR (ls ++ [.inr []]) 0 (tl x) ls.length ls1) (L2 : LyR ls1 0 (tl y) ls.length ls2) : WbI (F ++ [(x, y)]) ls2 := by
  have la : (ls ++ [Sum.inr []] : List Lk).length = ls.length + 1 := by rw [List.length_append]; rfl
  have l1 := L1.le
  have l2 := L2.le
  have pos := I.pos
  have gw : GwL ls ls2 := ((GwL.app ls).trans L1.gw).trans L2.gw
  refine ⟨L2.ok, L2.inv (L1.inv I.inv.app), by omega, fun f hf => ?_, fun κ T hT => ?_, fun i hi => ?_⟩
  · rcases List.mem_append.mp hf with h | h
    · obtain ⟨e, h1, h2, h3⟩ := I.so f h
      exact ⟨e, by omega, gw.go h2, gw.go h3⟩
    · rw [List.mem_singleton.mp h]
      exact ⟨ls.length, by omega, L2.gw.go L1.go, L2.go⟩
  · obtain ⟨φ, h0, H⟩ := I.ho κ T fun f hf => hT f (List.mem_append_left _ hf)
    obtain ⟨r, r1, r2⟩ := hT (x, y) (by simp)
    have r1 : T.go T.st (tl x) = some r := r1
    have r2 : T.go T.st (tl y) = some r := r2
    obtain ⟨ψ, p1, p2⟩ := L1.ho κ T _ (H.app I.ok r) (by rw [if_neg (by omega), if_pos rfl, h0]; exact r1)
    have e0 : ψ 0 = T.st := by rw [p1 0 (by omega), if_neg (by omega), h0]
    have en : ψ ls.length = r := by rw [p1 ls.length (by omega), if_pos rfl]
    obtain ⟨χ, q1, q2⟩ := L2.ho κ T ψ p2 (by rw [e0, en]; exact r2)
    exact ⟨χ, by rw [q1 0 (by omega), e0], q2⟩
  · have c0 := Cn.zero (ls ++ [Sum.inr []])
    have c1 : ∀ j, j < ls1.length → Cn ls1 j := fun j hj => by
      by_cases h1 : j < ls.length
      · exact L1.gw.cn ((GwL.app ls).cn (I.cn j h1))
      · by_cases h2 : j = ls.length
        · rw [h2]; exact L1.end_ c0
        · exact L1.cn c0 j (by omega) hj
    by_cases h : i < ls1.length
    · exact L2.gw.cn (c1 i h)
    · exact L2.cn (Cn.zero _) i (by omega) hi
noncomputable abbrev WbI.A {F : List Clm} (I : WbI F ls) : Aut Nat := lkA I.ok I.inv
theorem WbI.uni {F : List Clm} (I : WbI F ls) : Uni F I.A where
  so := fun f hf => by
    obtain ⟨e, he, h1, h2⟩ := I.so f hf
    have z := hdN_of (hd_zero I.ok I.pos)
    refine ⟨hdN ls e, ?_, ?_⟩
    · show I.A.go 0 _ = _
      rw [goH_A]
      have := h1.goH I.ok he
      rwa [z] at this
    · show I.A.go 0 _ = _
      rw [goH_A]
      have := h2.goH I.ok he
      rwa [z] at this
  un := fun u v r hu hv κ T hT => by
    obtain ⟨φ, h0, H⟩ := I.ho κ T hT
    have hu : I.A.go 0 (tl u) = some r := hu
    have hv : I.A.go 0 (tl v) = some r := hv
    rw [goH_A] at hu hv
    have hu := H.goH I.ok hu
    have hv := H.goH I.ok hv
    rw [h0] at hu hv
    exact ⟨φ r, hu, hv⟩
end
end Sf
namespace Sf
open PySem PySem.Spec PyProof.Rows L2 TL
section
variable {P : Program} {w : World} {K : PySem.W.Frag} {mg : Str → Option Value} {base : Heap}
/-! ### _law_live, _law_goes -/
def isRow (ls : List Lk) (i : Nat) : Bool := match ls[i]? with | some (.inr _) => true | _ => false
def liveL (ls : List Lk) (n : Nat) : List Nat := (List.range n).filter (isRow ls)
theorem live_succ (ls : List Lk) (i : Nat) : liveL ls (i + 1) = if isRow ls i = true then liveL ls i ++ [i] else liveL ls i := by
  unfold liveL
  rw [List.range_succ, List.filter_append, List.filter_cons, List.filter_nil]
  split
  · rfl
  · rw [List.append_nil]
def natV (l : List Nat) : List V := l.map fun n => V.int (n : Nat)
theorem natV_snoc (l : List Nat) (i : Nat) : natV (l ++ [i]) = natV l ++ [.int (i : Nat)] := by unfold natV; rw [List.map_append]; rfl
def spLli : Sp := fun vs H Q _ => ∃ (lp : Addr) (us : List V) (ls : List Lk), vs = [.ref lp] ∧ LksAt H lp us ls ∧ ls.length ≤ 3000 ∧
  ∀ (r : Addr) (H' : Hp), H r = none → Same H H' → H' r = some (.lst (natV (liveL ls ls.length))) → Q (.ref r) H'
theorem sc_lli : FnScope ["_law_links", "_law_place"] ["_law_links"] (defScope s__law_live) := ⟨rfl, rfl, rfl, by decide +kernel, rfl, by decide +kernel, by decide +kernel⟩
theorem has_lli (F : FnAt K mg "_law_live" s__law_live ["_law_links"]) (B : Blt mg) (Ndict : mg "dict" = none) : Has P w K mg base 1 "_law_live" ["_law_links"] spLli := F.has fun F => by
  refine F.ok sc_lli (fun vs H Q E h => ?_) (fun cdv A outer s H vs Q E hr h => ?_)
  · obtain ⟨lp, us, ls, rfl, _⟩ := h
    rfl
  · obtain ⟨lp, us, ls, rfl, hL, hlen, q⟩ := h
    refine ⟨_, (pss_one (ps_ret (pe_lc (own := [("_law_place", 1)]) (g := gName 1) (tt := tB (tCB (rIsi K) (tCons (tOp (rIxL K) (tVar 0) (tVar 1)) (tCons (tC (.ty "dict")) tNil)))) (by rfl) sc_lli.nd (pi_range1 rfl B.range (pa_cons (pe_callB call_lenQ (by rfl) B.len PySem.boot_len (pa_cons (pv 0) pa_nil)) pa_nil)) (blkOk_by (own := [("_law_place", 1)]) (N := ["_law_links", "_law_place"]) (sc := defScope s__law_live) (by decide +kernel)) (fun _ _ _ _ _ => pg_name (i := 1) sc_lli.nd rfl (.inl rfl)) (fun _ _ _ _ _ => by exact pts_one (pt_val (pe_callB call_isi (by rfl) B.isinstance (by decide +kernel) (pa_cons (pe_ix ix_list (pv 0) (pv 1) (fun _ _ => rfl)) (pa_cons (pe_bltn (v := .ty "dict") (by rfl) Ndict (by decide +kernel) rfl) pa_nil))))) (fun _ _ _ _ _ => (pv 1))))), ?_⟩
    have hlst := hL.lst
    have ul := hL.len
    walk_at "go"
    refine w_kRng1 (j := ((us.length : Nat) : Int)) (by omega) (by omega) ?_
    refine w_lcR (fun p i H1 => Same H H1 ∧ H p = none ∧ H1 p = some (.lst (natV (liveL ls i)))) (fun p H1 h1 n1 => ⟨n1.same, n1.nn, h1⟩) ?_ ?_
    · rintro p i H1 hi ⟨s1, np, h1⟩
      have hi : i < ls.length := by omega
      have hll : (liveL ls i).length ≤ i := by
        have := List.length_filter_le (isRow ls) (List.range i)
        rw [List.length_range] at this
        exact this
      have hl1 := s1.at hlst
      walk_at "go"
      obtain ⟨b, hb⟩ : ∃ b, ls[i]? = some b := ⟨_, List.getElem?_eq_getElem hi⟩
      obtain ⟨v, hv, hE⟩ := paired_at hL.at_ hb
      refine w_ixL hl1 (by rw [Int.zero_add]; exact atI_nat hv) ?_
      walk_at "go"
      cases b with
      | inl h =>
        have hE : v = .int (h : Nat) := hE
        subst hE
        have e1 : isRow ls i = false := by unfold isRow; rw [hb]
        refine ⟨_, _, _, _, false, rfl, .ty "dict", .base (.int _), kit_ty (by decide +kernel), ?_⟩
        walk_at "go"
        refine ⟨s1, np, ?_⟩
        rw [live_succ, if_neg (by rw [e1]; decide)]
        exact h1
      | inr es =>
        obtain ⟨d, rfl, hd⟩ := hE
        have e1 : isRow ls i = true := by unfold isRow; rw [hb]
        refine ⟨_, _, _, _, true, rfl, .ty "dict", .base (.dK (s1.at hd)), kit_ty (by decide +kernel), ?_⟩
        walk_at "go"
        rw [Int.zero_add]
        refine w_kIt h1 (by unfold natV; rw [List.length_map]; exact lineLt_of (by omega)) (fun H2 h2 o2 => ⟨s1.off o2 np, np, ?_⟩)
        rw [live_succ, if_pos e1, natV_snoc]
        exact h2
    · rintro p H1 ⟨s1, np, h1⟩
      rw [show (((us.length : Nat) : Int)).toNat = ls.length by omega] at h1
      exact q p H1 np s1 h1
def spLgo : Sp := fun vs H Q _ => ∃ (lp : Addr) (us : List V) (ls : List Lk) (i : Nat) (x : Str), vs = [.ref lp, .int (i : Nat), .str x] ∧ LksAt H lp us ls ∧ LkOk ls ∧ i < ls.length ∧ ls.length ≤ 3000 ∧ Q (oPl (goH ls (hdN ls i) (tl x))) H
theorem fnd_notIn {es : List (Nat × Nat)} {s : Nat} : (valV (es.map fun e => (kSg e.1, V.int (e.2 : Nat))) (Sum.inr (one s))).isSome = (fnd es s).isSome := by
  rw [show valV (es.map fun e => (kSg e.1, V.int (e.2 : Nat))) (Sum.inr (one s)) = _ from fnd_val, Option.isSome_map]
theorem sc_lgo : FnScope ["_law_links", "_law_place", "_law_word_here", "_law_sign_here"] ["_law_links", "_law_place", "_law_word_here"] (defScope s__law_goes) := ⟨rfl, rfl, rfl, by decide +kernel, rfl, by decide +kernel, by decide +kernel⟩
theorem has_lgo (F : FnAt K mg "_law_goes" s__law_goes ["_law_links", "_law_place", "_law_word_here"]) (B : Blt mg) (h_Lhd : Has P w K mg base 1 "_law_head" ["_law_links", "_law_place"] spLhd) : Has P w K mg base 2 "_law_goes" ["_law_links", "_law_place", "_law_word_here"] spLgo := F.has fun F => by
  obtain ⟨f_Lhd, fd_Lhd, g_Lhd, k_Lhd, b_Lhd, G_Lhd⟩ := h_Lhd
  refine F.ok sc_lgo (fun vs H Q E h => ?_) (fun cdv A outer s H vs Q E hr h => ?_)
  · obtain ⟨lp, us, ls, i, x, rfl, _⟩ := h
    rfl
  · obtain ⟨lp, us, ls, i, x, rfl, hL, ok, hi, hlen, q⟩ := h
    refine ⟨_, (pss_cons (ps_set (i := 1) sc_lgo.nd rfl (.inl rfl) (pe_call G_Lhd (hr.mono (by decide)) (by rfl) g_Lhd k_Lhd b_Lhd .nil pass0 (pa_cons (pv 0) (pa_cons (pv 1) pa_nil)))) (pss_cons (ps_for PassesOwn.never rfl (pi_str (pv 2)) (pg_name (i := 3) sc_lgo.nd rfl (.inl rfl)) (pss_cons (ps_if (pt_cmp (pc_dnotin (hu_of hr) (pv 3) (pe_ix ix_list (pv 0) (pv 1) (fun _ _ => rfl)))) (pss_one (ps_ret pe_non)) pss_nil) (pss_one (ps_set (i := 1) sc_lgo.nd rfl (.inl rfl) (pe_call G_Lhd (hr.mono (by decide)) (by rfl) g_Lhd k_Lhd b_Lhd .nil pass0 (pa_cons (pv 0) (pa_cons (pe_dget (hu_of hr) (pe_ix ix_list (pv 0) (pv 1) (fun _ _ => rfl)) (pv 3) (fun _ _ => rfl)) pa_nil))))))) (pss_one (ps_ret (pv 1))))), ?_⟩
    walk_at "go"
    refine ⟨lp, us, ls, i, hdN ls i, rfl, hL, ok, hdN_hd ok hi, by omega, ?_⟩
    walk_at "go"
    refine w_str (fun j σ H1 => H1 = H ∧ ∃ p y3, σ = [some (.ref lp), some (.int ((p : Nat) : Int)), some (.str x), y3] ∧ HdL ls p p ∧ goH ls (hdN ls i) (tl x) = goH ls p ((tl x).drop j)) ⟨rfl, _, _, rfl, hd_self (hdN_hd ok hi), by rw [List.drop_zero]⟩ ?_ ?_
    · rintro j c σ H1 hc ⟨rfl, p, y3, rfl, hp, hg⟩
      have hjl := (List.getElem?_eq_some_iff.mp hc).1
      rw [List.drop_eq_getElem_cons hjl, (List.getElem?_eq_some_iff.mp hc).2] at hg
      obtain ⟨es, hes⟩ := hp.is
      obtain ⟨d, hdu, hdd, _, _⟩ := hL.row hes
      walk_at "go"
      refine w_ixL hL.lst (atI_nat hdu) ?_
      walk_at "go"
      rw [fnd_notIn]
      have hw := wyL_row hes c
      cases hf : fnd es c with
      | none =>
        refine w_ifB (fun _ => ?_) (fun z => nomatch z)
        walk_at "go"
        have : goH ls p (c :: (tl x).drop (j + 1)) = none := by
          show (nxL ls p c).bind _ = none
          unfold nxL
          rw [hw, hf]
          rfl
        rw [hg, this] at q
        exact q
      | some b =>
        refine w_ifB (fun z => nomatch z) (fun _ => ?_)
        walk_at "go"
        refine w_ixL hL.lst (atI_nat hdu) ?_
        walk_at "go"
        refine w_kDGetS hdd (v := .int (b : Nat)) (by rw [show valV (es.map fun e => (kSg e.1, V.int (e.2 : Nat))) (Sum.inr (one c)) = _ from fnd_val, hf]; rfl) ?_
        walk_at "go"
        have hb := (ok.rg p c b (by rw [hw]; exact hf)).2
        refine ⟨lp, us, ls, b, hdN ls b, rfl, hL, ok, hdN_hd ok hb, by omega, ?_⟩
        walk_at "go"
        refine ⟨rfl, _, _, rfl, hd_self (hdN_hd ok hb), ?_⟩
        rw [hg]
        show (nxL ls p c).bind (fun q => goH ls q ((tl x).drop (j + 1))) = _
        unfold nxL
        rw [hw, hf]
        rfl
    · rintro σ H1 ⟨rfl, p, y3, rfl, hp, hg⟩
      walk_at "go"
      rw [List.drop_length] at hg
      rw [hg] at q
      exact q
end
end Sf
namespace Sf
open PySem PySem.Spec PyProof.Rows L2 TL
section
variable {P : Program} {w : World} {K : PySem.W.Frag} {mg : Str → Option Value} {base : Heap} {C : Addr}
/-! ### need_pairs -/
/-- pairs of words in the heap -/
def PrAt (H : Hp) (v : V) (m : Str × Str) : Prop := ∃ t, v = .ref t ∧ H t = some (.tup [.str m.1, .str m.2])
abbrev PrsAt (H : Hp) (vs : List V) (ms : List (Str × Str)) : Prop := Paired (PrAt H) vs ms
theorem PrsAt.tps {H H' : Hp} (s : Tps H H') {vs : List V} {ms : List (Str × Str)} (h : PrsAt H vs ms) : PrsAt H' vs ms := Paired.mapP h fun v m ⟨t, e, ht⟩ => ⟨t, e, s _ _ ht⟩
def WdP (B : Nat) (ms : List (Str × Str)) : Prop := ∀ m ∈ ms, Wd m.1 ∧ Wd m.2 ∧ m.1.length ≤ B ∧ m.2.length ≤ B
def spNp : Sp := fun vs H Q _ => ∃ (a : Addr) (us : List V) (ms : List (Str × Str)), vs = [.ref a] ∧ H a = some (.lst us) ∧ PrsAt H us ms ∧ WdP 60 ms ∧ ∀ H', Same H H' → Q .non H'
end
end Sf
namespace Sf
open PySem PySem.Spec PyProof.Rows L2 TL
section
variable {K : PySem.W.Frag}
theorem w_eqNilD {H : Hp} {Q : VK} {p q : Addr} {ds : List PyData} {vs : List V} (h : H p = some (.lst vs)) (hd : DpAll K H vs ds) (hs : SeqAt.shaped (.list ds) = true) (hq : H q = some (.lst [])) (k : Q (.bl ds.isEmpty) H) : rEqD K (.ref p) (.ref q) H Q :=
  ⟨_, _, .lst (SqL.of h) hd, .lst (SqL.of hq) .nil, hs, by decide +kernel, by rw [eqv_nil]; exact k⟩
end
end Sf
namespace Sf
open PySem PySem.Spec PyProof.Rows L2 TL
section
variable {P : Program} {w : World} {K : PySem.W.Frag} {mg : Str → Option Value} {base : Heap}
def rDictD : List V → Hp → VK → Prop := fun xs H Q => ∃ (a : Addr) (kvs : List (Key × V)), xs = [.ref a] ∧ Rd H a (.dK kvs) ∧ ∀ p, H p = none → Q (.ref p) (upd H p (.dK kvs))
theorem call_dictDN {X : Cx} : CallR X (.type "dict") rDictD := call_dictD
/-! ### _law_gaps, _law_web, where there are no likenesses -/
def spLga0 : Sp := fun vs H Q _ => ∃ (lp kp : Addr), vs = [.ref lp, .ref kp] ∧ H kp = some (.lst []) ∧ ∀ (r : Addr) (H' : Hp), H r = none → Same H H' → H' r = some (.lst []) → Q (.ref r) H'
theorem sc_lga : FnScope ["_law_links", "_law_likenesses", "_law_found", "_law_left", "_law_right", "_law_place", "_law_one", "_law_other"] ["_law_links", "_law_likenesses"] (defScope s__law_gaps) := ⟨rfl, rfl, rfl, by decide +kernel, rfl, by decide +kernel, by decide +kernel⟩
theorem has_lga0 (F : FnAt K mg "_law_gaps" s__law_gaps ["_law_links", "_law_likenesses"]) (B : Blt mg) (h_Lli : Has P w K mg base 1 "_law_live" ["_law_links"] spLli) (h_Lgo : Has P w K mg base 2 "_law_goes" ["_law_links", "_law_place", "_law_word_here"] spLgo) : Has P w K mg base 3 "_law_gaps" ["_law_links", "_law_likenesses"] spLga0 := F.has fun F => by
  obtain ⟨f_Lli, fd_Lli, g_Lli, k_Lli, b_Lli, G_Lli⟩ := h_Lli
  obtain ⟨f_Lgo, fd_Lgo, g_Lgo, k_Lgo, b_Lgo, G_Lgo⟩ := h_Lgo
  refine F.ok sc_lga (fun vs H Q E h => ?_) (fun cdv A outer s H vs Q E hr h => ?_)
  · obtain ⟨lp, kp, rfl, _⟩ := h
    rfl
  · obtain ⟨lp, kp, rfl, hk, q⟩ := h
    refine ⟨_, (pss_cons (ps_set (i := 2) sc_lga.nd rfl (.inl rfl) (pe_lst pa_nil)) (pss_cons (ps_for PassesOwn.never rfl (pi_list (pv 1)) (pg_tup rfl (pgs_cons (pg_name (i := 3) sc_lga.nd rfl (.inl rfl)) (pgs_cons (pg_name (i := 4) sc_lga.nd rfl (.inl rfl)) pgs_nil))) (pss_one (ps_for PassesOwn.never rfl (pi_list (pe_call G_Lli (hr.mono (by decide)) (by rfl) g_Lli k_Lli b_Lli .nil pass0 (pa_cons (pv 0) pa_nil))) (pg_name (i := 5) sc_lga.nd rfl (.inl rfl)) (pss_cons (ps_par (i := 6) (j := 7) (by rfl) sc_lga.nd rfl rfl (by decide) rfl rfl (pa_cons (pe_call G_Lgo (hr.mono (by decide)) (by rfl) g_Lgo k_Lgo b_Lgo .nil pass0 (pa_cons (pv 0) (pa_cons (pv 5) (pa_cons (pv 3) pa_nil)))) (pa_cons (pe_call G_Lgo (hr.mono (by decide)) (by rfl) g_Lgo k_Lgo b_Lgo .nil pass0 (pa_cons (pv 0) (pa_cons (pv 5) (pa_cons (pv 4) pa_nil)))) pa_nil)) (by rfl)) (pss_cons (ps_if (PW.pt (pw_and (pt_cmpR op_notNn (pv 6) pe_non (nomark _)) (pw_and1 (pt_cmpR op_ne (pv 7) (pv 6) (nomark _))))) (pss_one (ps_expr (pe_bm PySem.F.plainAttrs_list PySem.F.slot_list_append PySem.F.type_list_append mt_append (pv 2) (pa_cons (pe_tup (pa_cons (pv 5) (pa_cons (pv 4) (pa_cons (pv 6) pa_nil)))) pa_nil)))) pss_nil) (pss_one (ps_if (PW.pt (pw_and (pt_cmpR op_notNn (pv 7) pe_non (nomark _)) (pw_and1 (pt_cmpR op_ne (pv 7) (pv 6) (nomark _))))) (pss_one (ps_expr (pe_bm PySem.F.plainAttrs_list PySem.F.slot_list_append PySem.F.type_list_append mt_append (pv 2) (pa_cons (pe_tup (pa_cons (pv 5) (pa_cons (pv 3) (pa_cons (pv 7) pa_nil)))) pa_nil)))) pss_nil))))))) (pss_one (ps_ret (pv 2))))), ?_⟩
    walk_at "go"
    refine w_newL (by walk_at "sz") (fun r H1 hr1 n1 => ?_)
    walk_at "go"
    refine w_list (xs := []) (fun i σ H2 => H2 = H1 ∧ ∃ y3 y4 y5 y6 y7, σ = [some (.ref lp), some (.ref kp), some (.ref r), y3, y4, y5, y6, y7]) ⟨rfl, _, _, _, _, _, rfl⟩ ?_ ?_ ?_
    · rintro i σ H2 _ ⟨rfl, _⟩
      exact n1.at hk
    · rintro i v σ H2 hv
      cases hv
    · rintro σ H2 ⟨rfl, y3, y4, y5, y6, y7, rfl⟩
      walk_at "go"
      exact q r H2 n1.nn n1.same hr1
def spLwb0 : Sp := fun vs H Q _ => ∃ (fp kp : Addr) (i : Int) (us : List V) (F : List Clm) (N : Nat), vs = [.ref fp, .ref kp, .int i] ∧ H fp = some (.lst us) ∧ PrsAt H us F ∧ H kp = some (.lst []) ∧ (∀ c ∈ F, Wd c.1 ∧ Wd c.2 ∧ c.1.length + c.2.length + 1 ≤ N) ∧ 1 + F.length * N ≤ 3000 ∧
  ∀ (t lp : Addr) (us' : List V) (ls' : List Lk) (H' : Hp), Same H H' → H' t = some (.tup [.ref lp, .int 0, .bl true]) → LksAt H' lp us' ls' → WbI F ls' → ls'.length ≤ 1 + F.length * N → Q (.ref t) H'
theorem sc_lwb : FnScope ["_law_facts", "_law_likenesses", "_law_often", "_law_links", "_law_one", "_law_other", "_law_end", "_law_many", "_law_gaps_here", "_law_row", "_law_after", "_law_place", "_law_word_here"] ["_law_facts", "_law_likenesses", "_law_often"] (defScope s__law_web) := ⟨rfl, rfl, rfl, by decide +kernel, rfl, by decide +kernel, by decide +kernel⟩
theorem has_lwb0 (F : FnAt K mg "_law_web" s__law_web ["_law_facts", "_law_likenesses", "_law_often"]) (B : Blt mg) (Ndict : mg "dict" = none) (h_Lli : Has P w K mg base 1 "_law_live" ["_law_links"] spLli) (h_Lly : Has P w K mg base 4 "_law_lay" ["_law_links", "_law_start", "_law_word_here", "_law_end"] spLly) (h_Lga : Has P w K mg base 3 "_law_gaps" ["_law_links", "_law_likenesses"] spLga0) : Has P w K mg base 5 "_law_web" ["_law_facts", "_law_likenesses", "_law_often"] spLwb0 := F.has fun F => by
  obtain ⟨f_Lli, fd_Lli, g_Lli, k_Lli, b_Lli, G_Lli⟩ := h_Lli
  obtain ⟨f_Lly, fd_Lly, g_Lly, k_Lly, b_Lly, G_Lly⟩ := h_Lly
  obtain ⟨f_Lga, fd_Lga, g_Lga, k_Lga, b_Lga, G_Lga⟩ := h_Lga
  refine F.ok sc_lwb (fun vs H Q E h => ?_) (fun cdv A outer s H vs Q E hr h => ?_)
  · obtain ⟨fp, kp, i, us, F, N, rfl, _⟩ := h
    rfl
  · obtain ⟨fp, kp, i, us, F, N, rfl, hfp, hpr, hkp, hF, hN, q⟩ := h
    refine ⟨_, (pss_cons (ps_set (i := 3) sc_lwb.nd rfl (.inl rfl) (pe_lst (pa_cons pe_dnewK pa_nil))) (pss_cons (ps_for PassesOwn.never rfl (pi_list (pv 0)) (pg_tup rfl (pgs_cons (pg_name (i := 4) sc_lwb.nd rfl (.inl rfl)) (pgs_cons (pg_name (i := 5) sc_lwb.nd rfl (.inl rfl)) pgs_nil))) (pss_cons (ps_expr (pe_bm PySem.F.plainAttrs_list PySem.F.slot_list_append PySem.F.type_list_append mt_append (pv 3) (pa_cons pe_dnewK pa_nil))) (pss_cons (ps_set (i := 6) sc_lwb.nd rfl (.inl rfl) (pe_op op_sub (pe_callB call_lenQ (by rfl) B.len PySem.boot_len (pa_cons (pv 3) pa_nil)) pe_int)) (pss_cons (ps_expr (pe_call G_Lly (hr.mono (by decide)) (by rfl) g_Lly k_Lly b_Lly .nil pass0 (pa_cons (pv 3) (pa_cons pe_int (pa_cons (pv 4) (pa_cons (pv 6) pa_nil)))))) (pss_one (ps_expr (pe_call G_Lly (hr.mono (by decide)) (by rfl) g_Lly k_Lly b_Lly .nil pass0 (pa_cons (pv 3) (pa_cons pe_int (pa_cons (pv 5) (pa_cons (pv 6) pa_nil))))))))))) (pss_cons (ps_set (i := 7) sc_lwb.nd rfl (.inl rfl) pe_int) (pss_cons (ps_set (i := 8) sc_lwb.nd rfl (.inl rfl) (pe_call G_Lga (hr.mono (by decide)) (by rfl) g_Lga k_Lga b_Lga .nil pass0 (pa_cons (pv 3) (pa_cons (pv 1) pa_nil)))) (pss_cons (ps_while PassesOwn.never (PW.pt (pw_and (pt_cmpR (op_neD hr.units) (pv 8) (pe_lst pa_nil) (nomark _)) (pw_and1 (pt_cmpR op_lt (pv 7) (pv 2) (nomark _))))) (pss_cons (ps_setLc (i := 10) (own := [("_law_row", 9)]) (g := gName 9) (tt := tYes) (te := tIf (tB (tCB (rIsi K) (tCons (tVar 9) (tCons (tC (.ty "dict")) tNil)))) (tCB rDictD (tCons (tVar 9) tNil)) (tVar 9)) (by rfl) sc_lwb.nd rfl rfl (sw_true rfl rfl rfl (by decide +kernel)) (pi_list (pv 3)) (blkOk_by (own := [("_law_row", 9)]) (N := ["_law_facts", "_law_likenesses", "_law_often", "_law_links", "_law_one", "_law_other", "_law_end", "_law_many", "_law_gaps_here", "_law_row", "_law_after", "_law_place", "_law_word_here"]) (sc := defScope s__law_web) (by decide +kernel)) (fun _ _ _ _ _ => pg_name (i := 9) sc_lwb.nd rfl (.inl rfl)) (fun _ _ _ _ _ => pts_nil) (fun _ _ _ _ _ => by exact (pe_ifExp (pt_val (pe_callB call_isi (by rfl) B.isinstance (by decide +kernel) (pa_cons (pv 9) (pa_cons (pe_bltn (v := .ty "dict") (by rfl) Ndict (by decide +kernel) rfl) pa_nil)))) (pe_callTy call_dictDN (by rfl) Ndict (by decide +kernel) (pa_cons (pv 9) pa_nil)) (pv 9)))) (pss_cons (ps_for PassesOwn.never rfl (pi_list (pv 8)) (pg_tup rfl (pgs_cons (pg_name (i := 11) sc_lwb.nd rfl (.inl rfl)) (pgs_cons (pg_name (i := 12) sc_lwb.nd rfl (.inl rfl)) (pgs_cons (pg_name (i := 6) sc_lwb.nd rfl (.inl rfl)) pgs_nil)))) (pss_one (ps_expr (pe_call G_Lly (hr.mono (by decide)) (by rfl) g_Lly k_Lly b_Lly .nil pass0 (pa_cons (pv 10) (pa_cons (pv 11) (pa_cons (pv 12) (pa_cons (pv 6) pa_nil)))))))) (pss_cons (ps_if (pt_cmpR op_gt (pe_callB call_lenQ (by rfl) B.len PySem.boot_len (pa_cons (pe_call G_Lli (hr.mono (by decide)) (by rfl) g_Lli k_Lli b_Lli .nil pass0 (pa_cons (pv 10) pa_nil)) pa_nil)) pe_int (nomark _)) (pss_one (ps_ret (pe_tup (pa_cons (pv 3) (pa_cons (pv 7) (pa_cons pe_bl pa_nil)))))) pss_nil) (pss_cons (ps_set (i := 3) sc_lwb.nd rfl (.inl rfl) (pv 10)) (pss_cons (ps_set (i := 8) sc_lwb.nd rfl (.inl rfl) (pe_call G_Lga (hr.mono (by decide)) (by rfl) g_Lga k_Lga b_Lga .nil pass0 (pa_cons (pv 3) (pa_cons (pv 1) pa_nil)))) (pss_one (ps_set (i := 7) sc_lwb.nd rfl (.inl rfl) (pe_op op_add (pv 7) pe_int))))))))) (pss_one (ps_ret (pe_tup (pa_cons (pv 3) (pa_cons (pv 7) (pa_cons (pe_cmpR (op_eqD hr.units) (pv 8) (pe_lst pa_nil) (nomark _)) pa_nil))))))))))), ?_⟩
    walk_at "go"
    refine w_dnewK (fun d0 H1 hd0 nd0 => ?_)
    walk_at "go"
    refine w_newL (by walk_at "sz") (fun lp H2 hlp nlp => ?_)
    walk_at "go"
    have hFl : us.length = F.length := Paired.length hpr
    have nlp0 : H lp = none := nd0.same.free nlp.nn
    refine w_list (xs := us) (fun j σ H3 => ∃ us1 ls1 y4 y5 y6, σ = [some (.ref fp), some (.ref kp), some (.int i), some (.ref lp), y4, y5, y6, none, none, none, none, none, none] ∧ LksAt H3 lp us1 ls1 ∧ WbI (F.take j) ls1 ∧ ls1.length ≤ 1 + j * N ∧ Same H H3 ∧ (∀ d, V.ref d ∈ us1 → H d = none)) ?_ ?_ ?_ ?_
    · refine ⟨[.ref d0], [.inr []], none, none, none, rfl, ⟨hlp, .cons ⟨d0, rfl, nlp.at hd0⟩ .nil, fun a b d ha hb => ?_⟩, .zero, by simp, nd0.same.trans nlp.same, fun d h => ?_⟩
      · have ha := (List.getElem?_eq_some_iff.mp ha).1
        have hb := (List.getElem?_eq_some_iff.mp hb).1
        have ha : a < 1 := ha
        have hb : b < 1 := hb
        omega
      · cases List.mem_singleton.mp h
        exact nd0.nn
    · rintro j σ H3 _ ⟨us1, ls1, y4, y5, y6, _, _, _, _, s3, _⟩
      exact s3.at hfp
    · rintro j v σ H3 hv ⟨us1, ls1, y4, y5, y6, rfl, hL, I, hl, s3, hrow⟩
      obtain ⟨⟨x, y⟩, hc, t, rfl, ht⟩ := paired_get hpr hv
      have ht3 := s3.at ht
      obtain ⟨wx, wy, wl⟩ := hF (x, y) (List.mem_of_getElem? hc)
      have wx : Wd x := wx
      have wy : Wd y := wy
      have wl : x.length + y.length + 1 ≤ N := wl
      have hjl : j < F.length := (List.getElem?_eq_some_iff.mp hc).1
      have hjN : (j + 1) * N ≤ F.length * N := Nat.mul_le_mul_right _ hjl
      rw [Nat.add_mul, Nat.one_mul] at hjN
      have hlst := hL.lst
      have ul := hL.len
      have pos := I.pos
      walk_at "go"
      refine w_dnewK (fun d H4 hd nd => ?_)
      walk_at "go"
      refine w_append (nd.at hlst) (lineLt_of (by omega)) (fun H5 h5 o5 => ?_)
      have dlp : d ≠ lp := (nd.ne hlst).symm
      have hL5 := hL.app h5 (o5.at dlp hd) nd.nn (fun b x h n => o5.at n (nd.at h))
      have s5 : Same H H5 := (s3.nw nd).off o5 nlp0
      have row5 : ∀ e, V.ref e ∈ us1 ++ [V.ref d] → H e = none := fun e h => by
        rcases List.mem_append.mp h with h | h
        · exact hrow e h
        · cases List.mem_singleton.mp h
          exact s3.free nd.nn
      walk_at "go"
      rw [show (((us1 ++ [V.ref d]).length : Nat) : Int) - 1 = ((ls1.length : Nat) : Int) by rw [List.length_append, List.length_singleton, ul]; omega]
      have fin : ∀ {us2 : List V} {H6 H7 : Hp} {us3 : List V}, Same H H6 → (∀ d, V.ref d ∈ us2 → H d = none) → LFr lp us2 H6 us3 H7 → Same H H7 ∧ (∀ d, V.ref d ∈ us3 → H d = none) := fun s r f => ⟨fun b o h => f.fr b o (s b o h) (fun z => by rw [z, nlp0] at h; cases h) (fun z => by rw [r b z] at h; cases h), fun d h => (f.nw d h).elim (r d) fun e => s.free e⟩
      have l5 : (ls1 ++ [Sum.inr []] : List Lk).length = ls1.length + 1 := by rw [List.length_append]; rfl
      refine ⟨lp, _, _, 0, x, ls1.length, rfl, hL5, I.ok.app, wx, by omega, by omega, by omega, fun us6 ls6 H6 hL6 L6 fr6 => ?_⟩
      obtain ⟨s6, row6⟩ := fin s5 row5 fr6
      have le6 := L6.le
      have len6 := L6.len
      have xt := len_tl x
      have yt := len_tl y
      walk_at "go"
      refine ⟨lp, _, _, 0, y, ls1.length, rfl, hL6, L6.ok, wy, by omega, by omega, by omega, fun us7 ls7 H7 hL7 L7 fr7 => ?_⟩
      obtain ⟨s7, row7⟩ := fin s6 row6 fr7
      have len7 := L7.len
      walk_at "go"
      refine ⟨us7, ls7, _, _, _, rfl, hL7, ?_, ?_, s7, row7⟩
      · rw [take_snoc hc]
        exact I.step L6 L7
      · rw [Nat.add_mul, Nat.one_mul]
        omega
    · rintro σ H3 ⟨us1, ls1, y4, y5, y6, rfl, hL, I, hl, s3, hrow⟩
      rw [hFl, List.take_length] at I
      rw [hFl] at hl
      walk_at "go"
      refine ⟨lp, kp, rfl, s3.at hkp, fun r H4 nr s4 hr4 => ?_⟩
      walk_at "go"
      refine w_while (m := 0) (fun m σ H5 => ∃ y12, σ = [some (.ref fp), some (.ref kp), some (.int i), some (.ref lp), y4, y5, y6, some (.int 0), some (.ref r), none, none, none, y12] ∧ Same H4 H5) ⟨none, rfl, .refl _⟩ ?_
      rintro m σ H5 ⟨y12, rfl, s5⟩
      walk_at "go"
      refine w_newL (by walk_at "sz") (fun z H6 hz nz => ?_)
      refine w_neNil (nz.at (s5.at hr4)) .nil (by decide +kernel) hz ?_
      walk_at "go"
      refine w_andF ?_
      refine w_whF ?_
      walk_at "go"
      refine w_newL (by walk_at "sz") (fun z2 H7 hz2 nz2 => ?_)
      refine w_eqNilD (nz2.at (nz.at (s5.at hr4))) .nil (by decide +kernel) hz2 ?_
      walk_at "go"
      have s7 : Same H3 H7 := ((s4.trans s5).nw nz).nw nz2
      refine w_newT (by walk_at "sz") (fun t H8 ht nt => ?_)
      have s8 := s7.nw nt
      exact q t lp us1 ls1 H8 (s3.trans s8) ht (hL.keep (by rw [hL.lst, s8.at hL.lst]) (fun d _ o e => s8.at e)) I hl
end
end Sf
namespace Sf
open PySem PySem.Spec PyProof.Rows L2 TL
/-! ### links as a world by places -/
noncomputable def lkL (ls : List Lk) (c : Nat) : List (Int × Int) := (List.range ls.length).filterMap fun p => (nxL ls p c).map fun q => (((p : Nat) : Int), ((q : Nat) : Int))
theorem fm_lk (f : Nat → Option Nat) (p : Nat) : ∀ n, lk ((List.range n).filterMap fun p => (f p).map fun q => (((p : Nat) : Int), ((q : Nat) : Int))) ((p : Nat) : Int) = if p < n then (f p).map fun q => ((q : Nat) : Int) else none
  | 0 => rfl
  | n + 1 => by
    rw [List.range_succ, List.filterMap_append, lk_app, fm_lk f p n]
    have one : lk ([n].filterMap fun p => (f p).map fun q => (((p : Nat) : Int), ((q : Nat) : Int))) ((p : Nat) : Int) = if p = n then (f p).map fun q => ((q : Nat) : Int) else none := by
      rw [List.filterMap_cons, List.filterMap_nil]
      by_cases h : p = n
      · subst h
        rw [if_pos rfl]
        cases f p with
        | none => rfl
        | some q =>
          show lk [(((p : Nat) : Int), ((q : Nat) : Int))] _ = _
          unfold lk
          rw [List.find?_cons, decide_eq_true rfl]
          rfl
      · rw [if_neg h]
        cases f n with
        | none => rfl
        | some q =>
          show lk [(((n : Nat) : Int), ((q : Nat) : Int))] _ = _
          unfold lk
          rw [List.find?_cons, decide_eq_false (by show ¬ ((n : Nat) : Int) = _; omega)]
          rfl
    rw [one]
    by_cases h1 : p < n
    · rw [if_pos h1, if_neg (show ¬ p = n by omega), if_pos (show p < n + 1 by omega), Option.or_none]
    · rw [if_neg h1, Option.none_or]
      by_cases h2 : p = n
      · rw [if_pos h2, if_pos (show p < n + 1 by omega)]
      · rw [if_neg h2, if_neg (show ¬ p < n + 1 by omega)]
theorem nx_out {ls : List Lk} {p c : Nat} (h : ls.length ≤ p) : nxL ls p c = none := by
  unfold nxL wyL
  rw [List.getElem?_eq_none h]
  rfl
theorem lkL_stp (ls : List Lk) (c p : Nat) : stp (lkL ls) c ((p : Nat) : Int) = (nxL ls p c).map fun q => ((q : Nat) : Int) := by
  show lk (lkL ls c) _ = _
  unfold lkL
  rw [fm_lk (fun p => nxL ls p c) p ls.length]
  split
  · rfl
  · rename_i h
    rw [nx_out (by omega)]
    rfl
theorem lkL_mem {ls : List Lk} {c : Nat} {x y : Int} (h : (x, y) ∈ lkL ls c) : ∃ p q : Nat, x = (p : Nat) ∧ y = (q : Nat) ∧ nxL ls p c = some q := by
  obtain ⟨p, _, hp⟩ := List.mem_filterMap.mp h
  obtain ⟨q, hq, e⟩ := Option.map_eq_some_iff.mp hp
  cases e
  exact ⟨p, q, rfl, rfl, hq⟩
theorem fm_nd (f : Nat → Option Nat) : ∀ n, (((List.range n).filterMap fun p => (f p).map fun q => (((p : Nat) : Int), ((q : Nat) : Int))).map (·.1)).Nodup
  | 0 => .nil
  | n + 1 => by
    rw [List.range_succ, List.filterMap_append, List.map_append, List.nodup_append]
    refine ⟨fm_nd f n, ?_, fun a ha b hb e => ?_⟩
    · rw [List.filterMap_cons, List.filterMap_nil]
      cases f n with
      | none => exact .nil
      | some q => exact List.pairwise_singleton _ _
    · obtain ⟨u, hu, rfl⟩ := List.mem_map.mp ha
      obtain ⟨v, hv, rfl⟩ := List.mem_map.mp hb
      obtain ⟨p, hp, e1⟩ := List.mem_filterMap.mp hu
      obtain ⟨p', hp', e2⟩ := List.mem_filterMap.mp hv
      obtain ⟨_, _, rfl⟩ := Option.map_eq_some_iff.mp e1
      obtain ⟨_, _, rfl⟩ := Option.map_eq_some_iff.mp e2
      have := List.mem_range.mp hp
      rw [List.mem_singleton] at hp'
      have e : ((p : Nat) : Int) = ((p' : Nat) : Int) := e
      omega
theorem lkL_nd (ls : List Lk) : LNd (lkL ls) := fun c _ => fm_nd (fun p => nxL ls p c) ls.length
theorem lkL_led (ls : List Lk) : ∀ (l : List Nat) (p : Nat), ledM (stp (lkL ls)) l ((p : Nat) : Int) = (goH ls p l).map fun q => ((q : Nat) : Int)
  | [], _ => rfl
  | c :: l, p => by
    show (stp (lkL ls) c _).bind (ledM _ l) = ((nxL ls p c).bind fun q => goH ls q l).map _
    rw [lkL_stp]
    cases nxL ls p c with
    | none => rfl
    | some q => exact lkL_led ls l q
/-- heads -/
def HdI (ls : List Lk) (x : Int) : Prop := ∃ p : Nat, x = (p : Nat) ∧ HdL ls p p
theorem HdI.stp {ls : List Lk} (ok : LkOk ls) {c : Nat} {x y : Int} (h : stp (lkL ls) c x = some y) : HdI ls y := by
  obtain ⟨p, q, rfl, rfl, hq⟩ := lkL_mem (lk_mem h)
  exact ⟨q, rfl, nxL_row ok hq⟩
theorem ex1_hd {ls : List Lk} (ok : LkOk ls) {k : Fd} {fs : List Fd} {c : Nat} (h : ∀ q ∈ fs, HdI ls q.1) : ∀ q ∈ ex1 (lkL ls) k fs c, HdI ls q.1 := fun q hq => by
  unfold ex1 at hq
  split at hq
  · rename_i e he
    split at hq
    · exact h q hq
    · rcases List.mem_append.mp hq with z | z
      · exact h q z
      · rw [List.mem_singleton.mp z]
        exact HdI.stp ok he
  · exact h q hq
theorem exS_hd {ls : List Lk} (ok : LkOk ls) {k : Fd} : ∀ (cs : List Nat) (fs : List Fd), (∀ q ∈ fs, HdI ls q.1) → ∀ q ∈ exS (lkL ls) k fs cs, HdI ls q.1
  | [], fs, h => h
  | c :: cs, fs, h => exS_hd ok cs _ (ex1_hd ok h)
theorem bfs_hd {ls : List Lk} (ok : LkOk ls) (h0 : 0 < ls.length) : ∀ i, ∀ q ∈ bfs (lkL ls) 0 i, HdI ls q.1
  | 0 => fun q hq => by
    rw [List.mem_singleton.mp hq]
    exact ⟨0, rfl, hd_zero ok h0⟩
  | i + 1 => by
    cases h : (bfs (lkL ls) 0 i)[i]? with
    | none => rw [bfs_stop (List.getElem?_eq_none_iff.mp h)]; exact bfs_hd ok h0 i
    | some k => rw [bfs_succ h]; exact exS_hd ok sgs _ (bfs_hd ok h0 i)
theorem ex1_ndI {L : Nat → List (Int × Int)} {k : Fd} {fs : List Fd} {c : Nat} (h : (fs.map (·.1)).Nodup) : ((ex1 L k fs c).map (·.1)).Nodup := by
  unfold ex1
  split
  · split
    · exact h
    · rename_i hn
      rw [List.map_append, List.nodup_append]
      refine ⟨h, List.pairwise_singleton _ _, fun a ha b hb z => ?_⟩
      rw [z, List.mem_singleton.mp hb] at ha
      exact hn ha
  · exact h
theorem exS_ndI {L : Nat → List (Int × Int)} {k : Fd} : ∀ (l : List Nat) {fs : List Fd}, (fs.map (·.1)).Nodup → ((exS L k fs l).map (·.1)).Nodup
  | [], _, h => h
  | _ :: l, _, h => exS_ndI l (ex1_ndI h)
theorem bfs_ndI {L : Nat → List (Int × Int)} {p : Int} : ∀ i, ((bfs L p i).map (·.1)).Nodup
  | 0 => List.pairwise_singleton _ _
  | i + 1 => by
    cases h : (bfs L p i)[i]? with
    | none => rw [bfs_stop (List.getElem?_eq_none_iff.mp h)]; exact bfs_ndI i
    | some k => rw [bfs_succ h]; exact exS_ndI sgs (bfs_ndI i)
theorem isRow_hd {ls : List Lk} {p : Nat} : isRow ls p = true ↔ HdL ls p p := by
  unfold isRow
  constructor
  · intro h
    split at h
    · rename_i e
      exact .row e
    · cases h
  · intro h
    obtain ⟨es, e⟩ := h.is
    rw [e]
section
variable {ls : List Lk} {F : List Clm}
theorem live_mem {p : Nat} : p ∈ liveL ls ls.length ↔ HdL ls p p := by
  unfold liveL
  rw [List.mem_filter, List.mem_range, isRow_hd]
  exact ⟨fun h => h.2, fun h => ⟨h.lt, h⟩⟩
theorem WbI.few (I : WbI F ls) (i : Nat) : (bfs (lkL ls) 0 i).length ≤ (liveL ls ls.length).length := by
  have := nd_len ((bfs (lkL ls) 0 i).map (·.1)) ((liveL ls ls.length).map fun p => ((p : Nat) : Int)) (bfs_ndI i) fun x hx => by
    obtain ⟨q, hq, rfl⟩ := List.mem_map.mp hx
    obtain ⟨p, e, hp⟩ := bfs_hd I.ok I.pos i q hq
    exact List.mem_map.mpr ⟨p, live_mem.mpr hp, e.symm⟩
  rwa [List.length_map, List.length_map] at this
theorem FinB.goes {fs : List Fd} (h : FinB (lkL ls) 0 fs) : ∀ (l : List Nat) {p q : Nat}, (∀ c ∈ l, sgn c = true) → ((p : Nat) : Int) ∈ fs.map (·.1) → goH ls p l = some q → ((q : Nat) : Int) ∈ fs.map (·.1)
  | [], p, q, _, hp, e => by cases e; exact hp
  | c :: l, p, q, hl, hp, e => by
    obtain ⟨m, h1, h2⟩ := Option.bind_eq_some_iff.mp (show (nxL ls p c).bind (fun q => goH ls q l) = some q from e)
    obtain ⟨k, hk, ek⟩ := List.mem_map.mp hp
    refine FinB.goes h l (fun d hd => hl d (List.mem_cons_of_mem _ hd)) (h.closed (k := k) (c := c) hk (sgn_sgs (hl c List.mem_cons_self)) ?_) h2
    rw [ek, lkL_stp, h1]
    rfl
theorem WbI.all (I : WbI F ls) {fs : List Fd} (h : FinB (lkL ls) 0 fs) {p : Nat} (hp : HdL ls p p) : ((p : Nat) : Int) ∈ fs.map (·.1) := by
  obtain ⟨l, hl, e⟩ := (I.cn p hp.lt).goH I.ok I.pos hp.lt
  rw [hdN_of hp] at e
  obtain ⟨t, ht⟩ := h.head
  exact h.goes l hl (by rw [ht]; exact List.mem_cons_self) e
theorem WbI.more (I : WbI F ls) {i : Nat} (h : i < (liveL ls ls.length).length) : i < (bfs (lkL ls) 0 i).length := by
  rcases Nat.lt_or_ge i (bfs (lkL ls) 0 i).length with z | z
  · exact z
  · have fin : FinB (lkL ls) 0 (bfs (lkL ls) 0 i) := ⟨i, rfl, z⟩
    have := nd_len ((liveL ls ls.length).map fun p => ((p : Nat) : Int)) ((bfs (lkL ls) 0 i).map (·.1)) (List.Pairwise.map _ (fun a b h e => h (Int.ofNat.inj e)) (List.nodup_range.filter _)) fun x hx => by
      obtain ⟨p, hp, rfl⟩ := List.mem_map.mp hx
      exact I.all fin (live_mem.mp hp)
    rw [List.length_map, List.length_map] at this
    omega
theorem WbI.fin (I : WbI F ls) : FinB (lkL ls) 0 (bfs (lkL ls) 0 (liveL ls ls.length).length) := ⟨_, rfl, I.few _⟩
end
/-! rows of a world as the law tells them -/
theorem nodup_fm {α β : Type} {f : α → List β} : ∀ {l : List α}, l.Nodup → (∀ a ∈ l, (f a).Nodup) → (∀ a ∈ l, ∀ b ∈ l, ∀ x, x ∈ f a → x ∈ f b → a = b) → (l.flatMap f).Nodup
  | [], _, _, _ => .nil
  | a :: l, nd, h1, h2 => by
    have nd' := List.nodup_cons.mp nd
    rw [List.flatMap_cons, List.nodup_append]
    refine ⟨h1 a List.mem_cons_self, nodup_fm nd'.2 (fun b hb => h1 b (List.mem_cons_of_mem _ hb)) (fun b hb c hc x => h2 b (List.mem_cons_of_mem _ hb) c (List.mem_cons_of_mem _ hc) x), fun x hx y hy e => ?_⟩
    subst e
    obtain ⟨b, hb, hxb⟩ := List.mem_flatMap.mp hy
    exact nd'.1 (by rw [h2 a List.mem_cons_self b (List.mem_cons_of_mem _ hb) x hx hxb]; exact hb)
def rwC (L : Nat → List (Int × Int)) (ks : List Int) (p : Int) (cs : List Nat) : List Mv := cs.filterMap fun c => (stp L c p).map fun q => (c, rk ks p, rk ks q)
def rwL (L : Nat → List (Int × Int)) (ks qs : List Int) : List Mv := qs.flatMap fun p => rwC L ks p smls
theorem rwC_mem {L : Nat → List (Int × Int)} {ks : List Int} {p : Int} {cs : List Nat} {m : Mv} : m ∈ rwC L ks p cs ↔ m.1 ∈ cs ∧ ∃ q, stp L m.1 p = some q ∧ m.2.1 = rk ks p ∧ m.2.2 = rk ks q := by
  unfold rwC
  rw [List.mem_filterMap]
  constructor
  · rintro ⟨c, hc, e⟩
    obtain ⟨q, hq, rfl⟩ := Option.map_eq_some_iff.mp e
    exact ⟨hc, q, hq, rfl, rfl⟩
  · rintro ⟨hc, q, hq, e1, e2⟩
    refine ⟨m.1, hc, ?_⟩
    rw [hq]
    show some (m.1, rk ks p, rk ks q) = some m
    rw [← e1, ← e2]
theorem rwC_nd {L : Nat → List (Int × Int)} {ks : List Int} {p : Int} : ∀ {cs : List Nat}, cs.Nodup → (rwC L ks p cs).Nodup
  | [], _ => .nil
  | c :: cs, nd => by
    have nd' := List.nodup_cons.mp nd
    have ih := rwC_nd (L := L) (ks := ks) (p := p) nd'.2
    unfold rwC at ih ⊢
    rw [List.filterMap_cons]
    cases e : stp L c p with
    | none => exact ih
    | some q =>
      refine List.nodup_cons.mpr ⟨fun z => ?_, ih⟩
      exact nd'.1 (rwC_mem.mp z).1
theorem mvs_mem {L : Nat → List (Int × Int)} (hN : LNd L) {m : Mv} : m ∈ mvsOf L ↔ m.1 ∈ smls ∧ stp L m.1 m.2.1 = some m.2.2 := by
  unfold mvsOf mvC
  rw [List.mem_flatMap]
  constructor
  · rintro ⟨c, hc, h⟩
    obtain ⟨q, hq, rfl⟩ := List.mem_map.mp h
    exact ⟨hc, lk_of (uniq_of (hN c (smls_sgs c hc))) hq⟩
  · rintro ⟨h1, h2⟩
    exact ⟨m.1, h1, List.mem_map.mpr ⟨_, lk_mem h2, rfl⟩⟩
theorem mvs_nd {L : Nat → List (Int × Int)} (hN : LNd L) : (mvsOf L).Nodup := by
  refine nodup_fm smls_nd (fun c hc => ?_) (fun a _ b _ x ha hb => ?_)
  · have h := hN c (smls_sgs c hc)
    unfold mvC
    unfold List.Nodup at h ⊢
    rw [List.pairwise_map] at h ⊢
    exact h.imp fun {a b} h e => h (by
      have := congrArg (fun m : Mv => m.2.1) e
      exact this)
  · unfold mvC at ha hb
    obtain ⟨u, _, rfl⟩ := List.mem_map.mp ha
    obtain ⟨v, _, e⟩ := List.mem_map.mp hb
    exact (congrArg (fun m : Mv => m.1) e).symm
/-- worlds with alike steps have the same moves -/
theorem mvs_perm {L L' : Nat → List (Int × Int)} (hN : LNd L) (hN' : LNd L') (h : ∀ c ∈ sgs, ∀ j, stp L c j = stp L' c j) : (mvsOf L).Perm (mvsOf L') := by
  refine (List.perm_ext_iff_of_nodup (mvs_nd hN) (mvs_nd hN')).mpr fun m => ?_
  rw [mvs_mem hN, mvs_mem hN']
  refine and_congr_right fun hm => ?_
  rw [h m.1 (smls_sgs _ hm)]
theorem rwL_perm {L : Nat → List (Int × Int)} {ks : List Int} (hN : LNd L) (nd : ks.Nodup) (hcl : ∀ c ∈ sgs, ∀ q ∈ L c, q.1 ∈ ks → q.2 ∈ ks) : (rwL L ks ks).Perm (mvsOf (renL ks L)) := by
  refine (List.perm_ext_iff_of_nodup ?_ (mvs_nd (ren_nd hN))).mpr fun m => ?_
  · refine nodup_fm nd (fun p _ => rwC_nd smls_nd) (fun a ha b hb x hx hy => ?_)
    obtain ⟨_, _, _, e1, _⟩ := rwC_mem.mp hx
    obtain ⟨_, _, _, e2, _⟩ := rwC_mem.mp hy
    exact rk_inj ha hb (e1.symm.trans e2)
  · rw [mvs_mem (ren_nd hN)]
    have iso := iso_ren hN hcl
    constructor
    · intro h
      obtain ⟨p, hp, h⟩ := List.mem_flatMap.mp h
      obtain ⟨hc, q, hq, e1, e2⟩ := rwC_mem.mp h
      refine ⟨hc, ?_⟩
      rw [e1, iso.st _ (smls_sgs _ hc) p hp, hq, e2]
      rfl
    · rintro ⟨hc, h⟩
      by_cases hx : ∃ p ∈ ks, rk ks p = m.2.1
      · obtain ⟨p, hp, e⟩ := hx
        rw [← e, iso.st _ (smls_sgs _ hc) p hp] at h
        obtain ⟨q, hq, e2⟩ := Option.map_eq_some_iff.mp h
        exact List.mem_flatMap.mpr ⟨p, hp, rwC_mem.mpr ⟨hc, q, hq, e.symm, e2.symm⟩⟩
      · rw [ren_none fun x hx' z => hx ⟨x, hx', z⟩] at h
        cases h
theorem rwC_len {L : Nat → List (Int × Int)} {ks : List Int} {p : Int} (cs : List Nat) : (rwC L ks p cs).length ≤ cs.length := List.length_filterMap_le _ _
theorem rwL_len {L : Nat → List (Int × Int)} {ks : List Int} : ∀ qs : List Int, (rwL L ks qs).length ≤ 8 * qs.length
  | [] => Nat.zero_le _
  | p :: qs => by
    have := rwL_len (L := L) (ks := ks) qs
    have h := rwC_len (L := L) (ks := ks) (p := p) smls
    have h8 : smls.length = 8 := rfl
    show (rwC L ks p smls ++ rwL L ks qs).length ≤ 8 * (qs.length + 1)
    rw [List.length_append]
    omega
end Sf
namespace Sf
open PySem PySem.Spec PyProof.Rows L2 TL
section
variable {P : Program} {w : World} {K : PySem.W.Frag} {mg : Str → Option Value} {base : Heap}
/-! ### _law_web_world -/
theorem goH_one {ls : List Lk} {p : Nat} (hp : HdL ls p p) (c : Nat) : goH ls (hdN ls p) (tl (one c)) = nxL ls p c := by
  rw [hdN_of hp, tl_one]
  show (nxL ls p c).bind (fun q => some q) = _
  cases nxL ls p c <;> rfl
theorem ex1_none {L : Nat → List (Int × Int)} {k : Fd} {fs : List Fd} {c : Nat} (h : stp L c k.1 = none) : ex1 L k fs c = fs := by
  unfold ex1
  rw [h]
theorem ex1_in {L : Nat → List (Int × Int)} {k : Fd} {fs : List Fd} {c : Nat} {e : Int} (h : stp L c k.1 = some e) (hm : e ∈ fs.map (·.1)) : ex1 L k fs c = fs := by
  unfold ex1
  rw [h]
  dsimp only
  rw [if_pos hm]
theorem ex1_new {L : Nat → List (Int × Int)} {k : Fd} {fs : List Fd} {c : Nat} {e : Int} (h : stp L c k.1 = some e) (hm : e ∉ fs.map (·.1)) : (ex1 L k fs c).map (·.1) = fs.map (·.1) ++ [e] := by
  unfold ex1
  rw [h]
  dsimp only
  rw [if_neg hm, List.map_append]
  rfl
def spLww : Sp := fun vs H Q _ => ∃ (lp : Addr) (us : List V) (ls : List Lk) (F : List Clm), vs = [.ref lp] ∧ LksAt H lp us ls ∧ WbI F ls ∧ ls.length ≤ 3000 ∧
  ∀ (t a : Addr) (fs : List Fd) (us' : List V) (ms : List Mv) (H' : Hp), Same H H' → H' t = some (.tup [.int (fs.length : Nat), .ref a]) → FinB (lkL ls) 0 fs → fs.length ≤ ls.length → H' a = some (.lst us') → MvsAt H' us' ms → ms.length ≤ 100000 → ms.Perm (mvsOf (renL (fs.map (·.1)) (lkL ls))) → Q (.ref t) H'
theorem sc_lww : FnScope ["_law_links", "_law_found", "_law_at", "_law_sign_here", "_law_end", "_law_rows", "_law_letter"] ["_law_links"] (defScope s__law_web_world) := ⟨rfl, rfl, rfl, by decide +kernel, rfl, by decide +kernel, by decide +kernel⟩
theorem has_lww (F : FnAt K mg "_law_web_world" s__law_web_world ["_law_links"]) (B : Blt mg) (h_Lli : Has P w K mg base 1 "_law_live" ["_law_links"] spLli) (h_Lgo : Has P w K mg base 2 "_law_goes" ["_law_links", "_law_place", "_law_word_here"] spLgo) : Has P w K mg base 3 "_law_web_world" ["_law_links"] spLww := F.has fun F => by
  obtain ⟨f_Lli, fd_Lli, g_Lli, k_Lli, b_Lli, G_Lli⟩ := h_Lli
  obtain ⟨f_Lgo, fd_Lgo, g_Lgo, k_Lgo, b_Lgo, G_Lgo⟩ := h_Lgo
  refine F.ok sc_lww (fun vs H Q E h => ?_) (fun cdv A outer s H vs Q E hr h => ?_)
  · obtain ⟨lp, us, ls, F, rfl, _⟩ := h
    rfl
  · obtain ⟨lp, us, ls, F, rfl, hL, I, hlen, q⟩ := h
    refine ⟨_, (pss_cons (ps_set (i := 1) sc_lww.nd rfl (.inl rfl) (pe_lst (pa_cons pe_int pa_nil))) (pss_cons (ps_for PassesOwn.never rfl (pi_range1 rfl B.range (pa_cons (pe_callB call_lenQ (by rfl) B.len PySem.boot_len (pa_cons (pe_call G_Lli (hr.mono (by decide)) (by rfl) g_Lli k_Lli b_Lli .nil pass0 (pa_cons (pv 0) pa_nil)) pa_nil)) pa_nil)) (pg_name (i := 2) sc_lww.nd rfl (.inl rfl)) (pss_one (ps_for PassesOwn.never rfl (pi_str pe_str) (pg_name (i := 3) sc_lww.nd rfl (.inl rfl)) (pss_cons (ps_set (i := 4) sc_lww.nd rfl (.inl rfl) (pe_call G_Lgo (hr.mono (by decide)) (by rfl) g_Lgo k_Lgo b_Lgo .nil pass0 (pa_cons (pv 0) (pa_cons (pe_ix ix_list (pv 1) (pv 2) (fun _ _ => rfl)) (pa_cons (pv 3) pa_nil))))) (pss_one (ps_if (PW.pt (pw_and (pt_cmpR op_notNn (pv 4) pe_non (nomark _)) (pw_and1 (pt_cmpR op_notIn_seq (pv 4) (pv 1) rfl)))) (pss_one (ps_expr (pe_bm PySem.F.plainAttrs_list PySem.F.slot_list_append PySem.F.type_list_append mt_append (pv 1) (pa_cons (pv 4) pa_nil)))) pss_nil)))))) (pss_cons (ps_set (i := 5) sc_lww.nd rfl (.inl rfl) (pe_lst pa_nil)) (pss_cons (ps_for PassesOwn.never rfl (pi_range1 rfl B.range (pa_cons (pe_callB call_lenQ (by rfl) B.len PySem.boot_len (pa_cons (pv 1) pa_nil)) pa_nil)) (pg_name (i := 2) sc_lww.nd rfl (.inl rfl)) (pss_one (ps_for PassesOwn.never rfl (pi_str pe_str) (pg_name (i := 6) sc_lww.nd rfl (.inl rfl)) (pss_cons (ps_set (i := 4) sc_lww.nd rfl (.inl rfl) (pe_call G_Lgo (hr.mono (by decide)) (by rfl) g_Lgo k_Lgo b_Lgo .nil pass0 (pa_cons (pv 0) (pa_cons (pe_ix ix_list (pv 1) (pv 2) (fun _ _ => rfl)) (pa_cons (pv 6) pa_nil))))) (pss_one (ps_if (pt_cmpR op_notNn (pv 4) pe_non (nomark _)) (pss_one (ps_expr (pe_bm PySem.F.plainAttrs_list PySem.F.slot_list_append PySem.F.type_list_append mt_append (pv 5) (pa_cons (pe_tup (pa_cons (pv 6) (pa_cons (pv 2) (pa_cons (pe_bm PySem.F.plainAttrs_list PySem.F.slot_list_index PySem.F.type_list_index mt_index (pv 1) (pa_cons (pv 4) pa_nil)) pa_nil)))) pa_nil)))) pss_nil)))))) (pss_one (ps_ret (pe_tup (pa_cons (pe_callB call_lenQ (by rfl) B.len PySem.boot_len (pa_cons (pv 1) pa_nil)) (pa_cons (pe_callB (call_sortM hr.units) (by rfl) B.sorted (by decide +kernel) (pa_cons (pv 5) pa_nil)) pa_nil))))))))), ?_⟩
    have keepL : ∀ {H1 : Hp}, Same H H1 → LksAt H1 lp us ls := fun s => hL.keep (by rw [hL.lst, s.at hL.lst]) (fun d _ o e => s.at e)
    have hlive : (liveL ls ls.length).length ≤ ls.length := by
      have := List.length_filter_le (isRow ls) (List.range ls.length)
      rw [List.length_range] at this
      exact this
    have ok := I.ok
    walk_at "go"
    refine w_newL (by walk_at "sz") (fun f H1 hf1 nf1 => ?_)
    walk_at "go"
    refine ⟨lp, us, ls, rfl, keepL nf1.same, hlen, fun r H2 nr s2 hr2 => ?_⟩
    walk_at "go"
    have nf : H f = none := nf1.nn
    have hnl : (natV (liveL ls ls.length)).length = (liveL ls ls.length).length := by unfold natV; rw [List.length_map]
    rw [hnl]
    refine w_kRng1 (j := (((liveL ls ls.length).length : Nat) : Int)) (by omega) (by omega) ?_
    rw [show ((((liveL ls ls.length).length : Nat) : Int)).toNat = (liveL ls ls.length).length by omega]
    generalize hN : (liveL ls ls.length).length = N
    have fin : FinB (lkL ls) 0 (bfs (lkL ls) 0 N) := by rw [← hN]; exact I.fin
    refine w_range (fun i σ H3 => ∃ y2 y3 y4, σ = [some (.ref lp), some (.ref f), y2, y3, y4, none, none] ∧ Same H H3 ∧ H3 f = some (.lst (((bfs (lkL ls) 0 i).map (·.1)).map V.int))) ⟨none, none, none, rfl, nf1.same.trans s2, s2.at hf1⟩ ?_ ?_
    · rintro i σ H3 hi ⟨y2, y3, y4, rfl, s3, hf3⟩
      have hil : i < (bfs (lkL ls) 0 i).length := I.more (by rw [hN]; exact hi)
      have hfew := I.few i
      have hk : (bfs (lkL ls) 0 i)[i]? = some (bfs (lkL ls) 0 i)[i] := List.getElem?_eq_getElem hil
      generalize (bfs (lkL ls) 0 i)[i] = k at hk
      obtain ⟨p, ep, hp⟩ := bfs_hd ok I.pos i k (List.mem_of_getElem? hk)
      walk_at "go"
      refine w_str (fun j σ H4 => ∃ y3 y4, σ = [some (.ref lp), some (.ref f), some (.int (0 + (i : Int))), y3, y4, none, none] ∧ Same H H4 ∧ H4 f = some (.lst (((exS (lkL ls) k (bfs (lkL ls) 0 i) (sgs.take j)).map (·.1)).map V.int))) ⟨y3, y4, rfl, s3, hf3⟩ ?_ ?_
      · rintro j c σ H4 hc ⟨y3, y4, rfl, s4, hf4⟩
        rw [sgs_tl] at hc
        have hcs : c ∈ sgs := List.mem_of_getElem? hc
        have hk4 := pre_get (exS_pre (L := lkL ls) k (sgs.take j) (bfs (lkL ls) 0 i)) hk
        walk_at "go"
        refine w_ixL hf4 (v := .int ((p : Nat) : Int)) (by rw [Int.zero_add]; exact atI_nat (by rw [List.getElem?_map, List.getElem?_map, hk4, ← ep]; rfl)) ?_
        walk_at "go"
        refine ⟨lp, us, ls, p, one c, rfl, keepL s4, ok, hp.lt, hlen, ?_⟩
        rw [goH_one hp]
        have hst : stp (lkL ls) c k.1 = (nxL ls p c).map fun q => ((q : Nat) : Int) := by rw [ep]; exact lkL_stp ls c p
        have hsn : exS (lkL ls) k (bfs (lkL ls) 0 i) (sgs.take (j + 1)) = ex1 (lkL ls) k (exS (lkL ls) k (bfs (lkL ls) 0 i) (sgs.take j)) c := by rw [take_snoc hc, exS_snoc]
        cases e : nxL ls p c with
        | none =>
          rw [e] at hst
          unfold oPl
          walk_at "go"
          refine ⟨_, _, rfl, s4, ?_⟩
          rw [hsn, ex1_none hst]
          exact hf4
        | some q =>
          rw [e] at hst
          unfold oPl
          walk_at "go"
          refine w_notInI hf4 ?_
          walk_at "go"
          refine w_ifN2 (fun h1 => ?_) (fun h1 => ?_)
          · walk_at "go"
            refine w_append hf4 (by
              have : ((exS (lkL ls) k (bfs (lkL ls) 0 i) (sgs.take j)).map (·.1)).length ≤ ls.length := by
                have hnd := exS_ndI (L := lkL ls) (k := k) (sgs.take j) (bfs_ndI (L := lkL ls) (p := 0) i)
                have := nd_len _ ((liveL ls ls.length).map fun p => ((p : Nat) : Int)) hnd fun x hx => by
                  obtain ⟨q', hq', rfl⟩ := List.mem_map.mp hx
                  obtain ⟨p', e', hp'⟩ := exS_hd ok (sgs.take j) (bfs (lkL ls) 0 i) (bfs_hd ok I.pos i) q' hq'
                  exact List.mem_map.mpr ⟨p', live_mem.mpr hp', e'.symm⟩
                rw [List.length_map (as := liveL ls ls.length)] at this
                omega
              rw [List.length_map]
              exact lineLt_of (by omega)) (fun H5 h5 o5 => ?_)
            walk_at "go"
            refine ⟨_, _, rfl, s4.off o5 nf, ?_⟩
            rw [hsn, ex1_new hst h1, List.map_append]
            exact h5
          · walk_at "go"
            refine ⟨_, _, rfl, s4, ?_⟩
            rw [hsn, ex1_in hst h1]
            exact hf4
      · rintro σ H4 ⟨y3, y4, rfl, s4, hf4⟩
        refine ⟨_, _, _, rfl, s4, ?_⟩
        rw [sgs_tl, List.take_length, ← bfs_succ hk] at hf4
        exact hf4
    · rintro σ H3 ⟨y2, y3, y4, rfl, s3, hf3⟩
      generalize hks : (bfs (lkL ls) 0 N).map (·.1) = ks at hf3
      have hnd : ks.Nodup := by rw [← hks]; exact bfs_ndI N
      have hkl : ks.length ≤ ls.length := by
        have := I.few N
        rw [← hks, List.length_map]
        omega
      have hcl : ∀ c ∈ sgs, ∀ q ∈ lkL ls c, q.1 ∈ ks → q.2 ∈ ks := by
        intro c hc q hq h
        rw [← hks] at h ⊢
        exact fin.cl (lkL_nd ls) hc q hq h
      walk_at "go"
      refine w_newL (by walk_at "sz") (fun rr H4 hrr nrr => ?_)
      walk_at "go"
      have nrr0 : H rr = none := s3.free nrr.nn
      have rrf : rr ≠ f := (nrr.ne hf3).symm
      rw [show (ks.map V.int).length = ks.length from List.length_map ..]
      refine w_kRng1 (j := ((ks.length : Nat) : Int)) (by omega) (by omega) ?_
      rw [show (((ks.length : Nat) : Int)).toNat = ks.length by omega]
      refine w_range (fun i σ H5 => ∃ y2 y3 y4 y6 us5, σ = [some (.ref lp), some (.ref f), y2, y3, y4, some (.ref rr), y6] ∧ Same H H5 ∧ H5 f = some (.lst (ks.map V.int)) ∧ H5 rr = some (.lst us5) ∧ MvsAt H5 us5 (rwL (lkL ls) ks (ks.take i))) ⟨_, _, _, _, [], rfl, s3.nw nrr, nrr.at hf3, hrr, .nil⟩ ?_ ?_
      · rintro i σ H5 hi ⟨y2, y3, y4, y6, us5, rfl, s5, hf5, hr5, hm5⟩
        have hki : ks[i]? = some ks[i] := List.getElem?_eq_getElem hi
        obtain ⟨p, ep, hp⟩ : HdI ls ks[i] := by
          have := List.mem_of_getElem? hki
          generalize ks[i] = z at this
          rw [← hks] at this
          obtain ⟨k, hk, rfl⟩ := List.mem_map.mp this
          exact bfs_hd ok I.pos N k hk
        rw [ep] at hki
        have hrk : rk ks ((p : Nat) : Int) = (i : Int) := rk_at hnd hki
        walk_at "go"
        refine w_str (fun j σ H6 => ∃ y4 y6 us6, σ = [some (.ref lp), some (.ref f), some (.int (0 + (i : Int))), y3, y4, some (.ref rr), y6] ∧ Same H H6 ∧ H6 f = some (.lst (ks.map V.int)) ∧ H6 rr = some (.lst us6) ∧ MvsAt H6 us6 (rwL (lkL ls) ks (ks.take i) ++ rwC (lkL ls) ks ((p : Nat) : Int) (smls.take j))) ⟨y4, y6, us5, rfl, s5, hf5, hr5, by rw [List.take_zero]; unfold rwC; rw [List.filterMap_nil, List.append_nil]; exact hm5⟩ ?_ ?_
        · rintro j c σ H6 hc ⟨y4, y6, us6, rfl, s6, hf6, hr6, hm6⟩
          rw [smls_tl] at hc
          have hul : us6.length = _ := Paired.length hm6
          have hll := rwL_len (L := lkL ls) (ks := ks) (ks.take i)
          have hcl2 := rwC_len (L := lkL ls) (ks := ks) (p := ((p : Nat) : Int)) (smls.take j)
          have ht1 : (ks.take i).length ≤ ks.length := List.length_take_le' _ _
          have ht2 : (smls.take j).length ≤ 8 := List.length_take_le' j smls
          rw [List.length_append] at hul
          have hst : stp (lkL ls) c ((p : Nat) : Int) = (nxL ls p c).map fun q => ((q : Nat) : Int) := lkL_stp ls c p
          walk_at "go"
          refine w_ixL hf6 (by rw [Int.zero_add]; exact atI_nat (by rw [List.getElem?_map, hki]; rfl)) ?_
          walk_at "go"
          refine ⟨lp, us, ls, p, one c, rfl, keepL s6, ok, hp.lt, hlen, ?_⟩
          rw [goH_one hp]
          have hsn : rwC (lkL ls) ks ((p : Nat) : Int) (smls.take (j + 1)) = rwC (lkL ls) ks ((p : Nat) : Int) (smls.take j) ++ (((nxL ls p c).map fun q => (c, (i : Int), rk ks ((q : Nat) : Int))).toList) := by
            unfold rwC
            rw [take_snoc hc, List.filterMap_append, List.filterMap_cons, List.filterMap_nil, hst, hrk]
            cases nxL ls p c <;> rfl
          cases e : nxL ls p c with
          | none =>
            rw [e] at hsn
            unfold oPl
            walk_at "go"
            refine ⟨_, _, us6, rfl, s6, hf6, hr6, ?_⟩
            rw [hsn]
            show MvsAt H6 us6 (_ ++ (_ ++ []))
            rw [List.append_nil]
            exact hm6
          | some q1 =>
            rw [e] at hsn hst
            unfold oPl
            walk_at "go"
            have hqk : ((q1 : Nat) : Int) ∈ ks := hcl c (smls_sgs c (List.mem_of_getElem? hc)) _ (lk_mem hst) (List.mem_of_getElem? hki)
            refine w_indexR hf6 hnd hqk ?_
            walk_at "go"
            refine w_newT (by walk_at "sz") (fun t H7 ht nt => ?_)
            walk_at "go"
            refine w_append (nt.at hr6) (lineLt_of (by omega)) (fun H8 h8 o8 => ?_)
            walk_at "go"
            have T8 : Tps H7 H8 := Tps.refl.off (nt.at hr6) o8
            refine ⟨_, _, us6 ++ [.ref t], rfl, (s6.nw nt).off o8 nrr0, o8.at rrf.symm (nt.at hf6), h8, ?_⟩
            rw [hsn, ← List.append_assoc]
            refine paired_snocL ⟨t, rfl, ?_⟩ ((hm6.tps (.of nt.same)).tps T8)
            have := T8 _ _ ht
            rw [Int.zero_add] at this
            exact this
        · rintro σ H6 ⟨y4, y6, us6, rfl, s6, hf6, hr6, hm6⟩
          refine ⟨_, _, _, _, us6, rfl, s6, hf6, hr6, ?_⟩
          rw [smls_tl, List.take_length] at hm6
          rw [take_snoc hki]
          show MvsAt H6 us6 ((ks.take i ++ [((p : Nat) : Int)]).flatMap _)
          rw [List.flatMap_append, List.flatMap_cons, List.flatMap_nil, List.append_nil]
          exact hm6
      · rintro σ H5 ⟨y2, y3, y4, y6, us5, rfl, s5, hf5, hr5, hm5⟩
        rw [List.take_length] at hm5
        have hperm := rwL_perm (lkL_nd ls) hnd hcl
        have hml := rwL_len (L := lkL ls) (ks := ks) ks
        walk_at "go"
        rw [show (ks.map V.int).length = ks.length from List.length_map ..]
        refine w_sortM hr5 hm5 (fun r3 H6 us3 hr3 hm3 n3 => ?_)
        walk_at "go"
        refine w_newT (by walk_at "sz") (fun t H7 ht nt => ?_)
        have e1 : ks.length = (bfs (lkL ls) 0 N).length := by rw [← hks, List.length_map]
        rw [e1] at ht hkl
        refine q t r3 (bfs (lkL ls) 0 N) us3 (sortM (rwL (lkL ls) ks ks)) H7 ((s5.nw n3).nw nt) ht fin hkl (nt.at hr3) ((hm3.tps (.of n3.same)).tps (.of nt.same)) (by rw [sortM_len]; omega) ?_
        rw [hks]
        exact sortM_is.trans hperm
end
end Sf
namespace Sf
open PySem PySem.Spec PyProof.Rows L2 TL
/-! ### the spots of a word as places with ways -/
def SpL (w s : List Nat) : Prop := ∃ i, i ≤ w.length ∧ s = shortL (w.take i)
theorem short_red (w : List Nat) : RedS (shortL w).reverse := by
  unfold shortL
  rw [List.reverse_reverse]
  exact runS_red (s := []) trivial
theorem pushL_undo {s : List Nat} {c : Nat} (hr : RedS s.reverse) (hs : Sg s) (hc : sgn c = true) : push (push s c) (flipC c) = s := by
  unfold push
  rw [List.reverse_reverse, pushS_inv hr (fun d hd => hs d (List.mem_reverse.mp hd)) hc, List.reverse_reverse]
theorem SpL.red {w s : List Nat} (h : SpL w s) : RedS s.reverse := by
  obtain ⟨i, _, rfl⟩ := h
  exact short_red _
theorem SpL.sg {w s : List Nat} (hw : Sg w) (h : SpL w s) : Sg s := by
  obtain ⟨i, _, rfl⟩ := h
  exact shortL_sg fun c hc => hw c (List.mem_of_mem_take hc)
open Classical in
noncomputable def spT (w : List Nat) (hw : Sg w) : Aut (List Nat) where
  st := []
  nx := fun s c => if sgn c = true ∧ SpL w s ∧ SpL w (push s c) then some (push s c) else none
  sg := fun p s q h => by
    split at h
    · rename_i z
      exact z.1
    · cases h
  inv := fun p s q h => by
    split at h
    · rename_i z
      cases h
      obtain ⟨hc, h1, h2⟩ := z
      have e := pushL_undo h1.red (h1.sg hw) hc
      rw [if_pos ⟨flip_sgn hc, h2, by rw [e]; exact h1⟩, e]
    · cases h
section
variable {w : List Nat} {hw : Sg w}
theorem spT_nx {s : List Nat} {c : Nat} {q : List Nat} (h : (spT w hw).nx s c = some q) : sgn c = true ∧ SpL w s ∧ SpL w q ∧ q = push s c := by
  unfold spT at h
  dsimp only at h
  split at h
  · rename_i z
    cases h
    exact ⟨z.1, z.2.1, z.2.2, rfl⟩
  · cases h
theorem spT_take : ∀ i, i ≤ w.length → (spT w hw).go [] (w.take i) = some (shortL (w.take i))
  | 0, _ => by rw [List.take_zero]; rfl
  | i + 1, h => by
    have hg : w[i]? = some w[i] := List.getElem?_eq_getElem h
    have ih := spT_take i (by omega)
    rw [take_snoc hg, Aut.go_app, ih, shortL_snoc]
    have hc : sgn w[i] = true := hw _ (List.getElem_mem h)
    have e : (spT w hw).nx (shortL (w.take i)) w[i] = some (push (shortL (w.take i)) w[i]) := by
      unfold spT
      dsimp only
      rw [if_pos ⟨hc, ⟨i, by omega, rfl⟩, ⟨i + 1, h, by rw [take_snoc hg, shortL_snoc]⟩⟩]
    show ((spT w hw).nx (shortL (w.take i)) w[i]).bind (fun q => some q) = _
    rw [e]
    rfl
theorem spT_sp : ∀ {l : List Nat} {s r : List Nat}, SpL w s → (spT w hw).go s l = some r → SpL w r
  | [], _, _, hs, h => by cases h; exact hs
  | c :: l, s, r, _, h => by
    obtain ⟨m, h1, h2⟩ := Option.bind_eq_some_iff.mp (show ((spT w hw).nx s c).bind (fun q => (spT w hw).go q l) = some r from h)
    exact spT_sp (spT_nx h1).2.2.1 h2
theorem sp_nil (w : List Nat) : SpL w [] := ⟨0, Nat.zero_le _, by rw [List.take_zero]; rfl⟩
/-- the word pushed leads as the word and the sign -/
theorem Aut.go_push {κ : Type} {B : Aut κ} {p r r' : κ} {l : List Nat} {c : Nat} (h : B.go p l = some r) (k : B.nx r c = some r') : B.go p (push l c) = some r' := by
  rcases List.eq_nil_or_concat l with rfl | ⟨m, x, rfl⟩
  · rw [push_nil]
    cases h
    show (B.nx p c).bind (fun q => some q) = _
    rw [k]; rfl
  · rw [List.concat_eq_append] at h ⊢
    rw [push_last]
    obtain ⟨q, h1, h2⟩ := go_snoc h
    split
    · rename_i e
      subst e
      have := B.inv _ _ _ h2
      rw [flip2 (B.sg _ _ _ k), k] at this
      rw [h1, Option.some.inj this]
    · rw [Aut.go_app, h]
      show (B.nx r c).bind (fun q => some q) = _
      rw [k]; rfl
theorem spot_leads {κ : Type} {B : Aut κ} {q : κ} (h : B.go B.st w = some q) : ∀ i, i ≤ w.length → ∃ q, B.go B.st (w.take i) = some q ∧ B.go B.st (shortL (w.take i)) = some q
  | 0, _ => ⟨B.st, by rw [List.take_zero]; rfl, by rw [List.take_zero]; rfl⟩
  | i + 1, hi => by
    obtain ⟨q', h1, h2⟩ := spot_leads h i (by omega)
    have hg : w[i]? = some w[i] := List.getElem?_eq_getElem hi
    have e : w = w.take (i + 1) ++ w.drop (i + 1) := (List.take_append_drop _ _).symm
    rw [e] at h
    obtain ⟨m, h3, _⟩ := Aut.pre h
    rw [take_snoc hg] at h3
    obtain ⟨m', h4, h5⟩ := go_snoc h3
    rw [h1] at h4
    cases h4
    refine ⟨m, by rw [take_snoc hg]; exact h3, ?_⟩
    rw [take_snoc hg, shortL_snoc]
    exact Aut.go_push h2 h5
theorem spot_walk {κ : Type} {B : Aut κ} {q : κ} (h : B.go B.st w = some q) : ∀ (n : Nat) (l r : List Nat), l.length = n → (spT w hw).go [] l = some r → ∃ q, B.go B.st l = some q ∧ B.go B.st r = some q
  | 0, l, r, hn, hl => by
    have : l = [] := List.eq_nil_of_length_eq_zero hn
    subst this
    cases hl
    exact ⟨B.st, rfl, rfl⟩
  | n + 1, l, r, hn, hl => by
    rcases List.eq_nil_or_concat l with rfl | ⟨m, c, rfl⟩
    · cases hn
    · rw [List.concat_eq_append] at hl hn ⊢
      obtain ⟨s, h1, h2⟩ := go_snoc hl
      rw [List.length_append] at hn
      obtain ⟨q', g1, g2⟩ := spot_walk h n m s (by simpa using hn) h1
      obtain ⟨hc, _, ⟨i, hi, er⟩, e⟩ := spT_nx h2
      obtain ⟨q2, _, k2⟩ := spot_leads h i hi
      rw [← er] at k2
      have key : B.nx q' c = some q2 := by
        rcases List.eq_nil_or_concat s with rfl | ⟨y, x, rfl⟩
        · rw [push_nil] at e
          rw [e] at k2
          cases g2
          obtain ⟨z, k3, k4⟩ := go_snoc (x := []) k2
          cases k3
          exact k4
        · rw [List.concat_eq_append] at e g2
          rw [push_last] at e
          split at e
          · rename_i ex
            subst ex
            rw [← e] at g2
            obtain ⟨z, k3, k4⟩ := go_snoc g2
            rw [k2] at k3
            cases k3
            have := B.inv _ _ _ k4
            rw [flip2 hc] at this
            exact this
          · rw [e] at k2
            obtain ⟨z, k3, k4⟩ := go_snoc k2
            rw [g2] at k3
            cases k3
            exact k4
      refine ⟨q2, ?_, k2⟩
      rw [Aut.go_app, g1]
      show (B.nx q' c).bind (fun q => some q) = _
      rw [key]; rfl
end
theorem spot_uni {x : Str} (hx : Wd x) : Uni [(x, x)] (spT (tl x) hx) where
  so := fun f hf => by
    rw [List.mem_singleton.mp hf]
    have := spT_take (w := tl x) (hw := hx) (tl x).length (Nat.le_refl _)
    rw [List.take_length] at this
    exact ⟨_, this, this⟩
  un := fun u v r hu hv μ T hT => by
    obtain ⟨q, h, _⟩ := hT (x, x) (List.mem_singleton.mpr rfl)
    obtain ⟨q1, a1, a2⟩ := spot_walk (hw := hx) h _ (tl u) r rfl hu
    obtain ⟨q2, b1, b2⟩ := spot_walk (hw := hx) h _ (tl v) r rfl hv
    rw [a2] at b2
    cases b2
    exact ⟨q1, a1, b1⟩
/-! how many -/
theorem fd_uniqS {l : List Fd} (nd : (l.map (·.1)).Nodup) : ∀ p ∈ l, ∀ q ∈ l, p.1 = q.1 → p = q := by
  induction l with
  | nil => intro p hp; cases hp
  | cons a l ih =>
    have nd' := List.nodup_cons.mp nd
    have no : ∀ q ∈ l, a.1 ≠ q.1 := fun q hq e => nd'.1 (List.mem_map.mpr ⟨q, hq, e.symm⟩)
    intro p hp q hq e
    rcases List.mem_cons.mp hp with h1 | h1
    · rcases List.mem_cons.mp hq with h2 | h2
      · rw [h1, h2]
      · exact absurd (by rw [← h1]; exact e) (no q h2)
    · rcases List.mem_cons.mp hq with h2 | h2
      · exact absurd (by rw [← h2]; exact e.symm) (no p h1)
      · exact ih nd'.2 p h1 q h2 e
theorem nd_mapOn {α β : Type} {f : α → β} {l : List α} (nd : l.Nodup) (inj : ∀ a ∈ l, ∀ b ∈ l, f a = f b → a = b) : (l.map f).Nodup := by
  unfold List.Nodup at nd ⊢
  rw [List.pairwise_map]
  exact nd.imp_of_mem fun {a b} ha hb h e => h (inj a ha b hb e)
theorem FinB.ledin {L : Nat → List (Int × Int)} {fs : List Fd} {p : Int} (h : FinB L p fs) : ∀ (l : List Nat) {x e : Int}, (∀ c ∈ l, c ∈ sgs) → x ∈ fs.map (·.1) → ledM (stp L) l x = some e → e ∈ fs.map (·.1)
  | [], x, e, _, hx, k => by cases k; exact hx
  | c :: l, x, e, hl, hx, k => by
    obtain ⟨m, h1, h2⟩ := Option.bind_eq_some_iff.mp (show (stp L c x).bind (ledM (stp L) l) = some e from k)
    obtain ⟨q, hq, rfl⟩ := List.mem_map.mp hx
    exact FinB.ledin h l (fun d hd => hl d (List.mem_cons_of_mem _ hd)) (h.closed hq (hl c List.mem_cons_self) h1) h2
end Sf
namespace Sf
open PySem PySem.Spec PyProof.Rows L2 TL
/-! ### words that come home -/
def LoopS {κ : Type} (T : Aut κ) (l : List Nat) : Prop := T.go T.st (shortL l) = some T.st
section
variable {κ : Type} {T : Aut κ}
theorem Aut.go_short {p : κ} : ∀ (n : Nat) (l : List Nat) {q : κ}, l.length = n → T.go p l = some q → T.go p (shortL l) = some q
  | 0, l, q, hn, h => by
    have : l = [] := List.eq_nil_of_length_eq_zero hn
    subst this
    exact h
  | n + 1, l, q, hn, h => by
    rcases List.eq_nil_or_concat l with rfl | ⟨m, c, rfl⟩
    · cases hn
    · rw [List.concat_eq_append] at h hn ⊢
      rw [List.length_append] at hn
      obtain ⟨r, h1, h2⟩ := go_snoc h
      rw [shortL_snoc]
      exact Aut.go_push (Aut.go_short n m (by simpa using hn) h1) h2
theorem Aut.go_back : ∀ {l : List Nat} {p q : κ}, T.go p l = some q → T.go q (backL l) = some p
  | [], p, q, h => by cases h; rfl
  | c :: l, p, q, h => by
    obtain ⟨m, h1, h2⟩ := Option.bind_eq_some_iff.mp (show (T.nx p c).bind (fun q => T.go q l) = some q from h)
    rw [backL_cons, Aut.go_app, Aut.go_back h2]
    show (T.nx m (flipC c)).bind (fun q => some q) = _
    rw [T.inv _ _ _ h1]
    rfl
theorem short_app {u v : List Nat} (hu : Sg u) (hv : Sg v) : shortL (shortL u ++ shortL v) = shortL (u ++ v) := by
  have h1 := glu_shortL hu hv
  have h2 := glu_short (short_rdc hu) (short_rdc hv)
  rw [h1] at h2
  exact h2.symm
theorem LoopS.nil : LoopS T [] := rfl
theorem LoopS.app {u v : List Nat} (hu : Sg u) (hv : Sg v) (a : LoopS T u) (b : LoopS T v) : LoopS T (u ++ v) := by
  unfold LoopS at a b ⊢
  rw [← short_app hu hv]
  refine Aut.go_short (p := T.st) _ _ rfl ?_
  rw [Aut.go_app, a]
  exact b
theorem LoopS.back {u : List Nat} (hu : Sg u) (a : LoopS T u) : LoopS T (backL u) := by
  unfold LoopS at a ⊢
  have h := Aut.go_back a
  have e := congrArg tl (back_shortL hu)
  have e : backL (shortL u) = shortL (backL u) := e
  rw [← e]
  exact h
theorem LoopS.unback {u : List Nat} (hu : Sg u) (a : LoopS T (backL u)) : LoopS T u := by
  have := LoopS.back (backL_sg hu) a
  rw [backL_back hu] at this
  exact this
end
/-- the facts of a rose -/
def roseF (ws : List Str) : List Clm := ws.map fun w => (shortT w, Str.ofString "")
theorem hd_loop {κ : Type} (T : Aut κ) (x : Str) : T.Hd (shortT x, Str.ofString "") ↔ LoopS T (tl x) := by
  constructor
  · rintro ⟨r, h1, h2⟩
    have h2 : T.go T.st (tl (Str.ofString "")) = some r := h2
    rw [tl_empty] at h2
    cases h2
    exact h1
  · intro h
    exact ⟨T.st, h, by rw [tl_empty]; rfl⟩
theorem rose_hd {κ : Type} (T : Aut κ) (ws : List Str) : (∀ f ∈ roseF ws, T.Hd f) ↔ ∀ w ∈ ws, LoopS T (tl w) := by
  unfold roseF
  constructor
  · intro h w hw
    exact (hd_loop T w).mp (h _ (List.mem_map.mpr ⟨w, hw, rfl⟩))
  · intro h f hf
    obtain ⟨w, hw, rfl⟩ := List.mem_map.mp hf
    exact (hd_loop T w).mpr (h w hw)
/-- made of words, by loops -/
inductive MadeL (ws : List Str) : List Nat → Prop
  | nil : MadeL ws []
  | fwd {l : List Nat} {w : Str} : MadeL ws l → w ∈ ws → MadeL ws (l ++ tl w)
  | bwd {l : List Nat} {w : Str} : MadeL ws l → w ∈ ws → MadeL ws (l ++ backL (tl w))
theorem MadeL.sg {ws : List Str} (hw : ∀ w ∈ ws, Wd w) {l : List Nat} (h : MadeL ws l) : Sg l := by
  induction h with
  | nil => exact fun c hc => nomatch hc
  | fwd _ h1 ih => exact fun c hc => (List.mem_append.mp hc).elim (ih c) (hw _ h1 c)
  | bwd _ h1 ih => exact fun c hc => (List.mem_append.mp hc).elim (ih c) (backL_sg (hw _ h1) c)
theorem MadeL.loop {κ : Type} {T : Aut κ} {ws : List Str} (hw : ∀ w ∈ ws, Wd w) (hT : ∀ w ∈ ws, LoopS T (tl w)) {l : List Nat} (h : MadeL ws l) : LoopS T l := by
  induction h with
  | nil => exact .nil
  | fwd h0 h1 ih => exact .app (h0.sg hw) (hw _ h1) ih (hT _ h1)
  | bwd h0 h1 ih => exact .app (h0.sg hw) (backL_sg (hw _ h1)) ih ((hT _ h1).back (hw _ h1))
/-- facts that hold in the same things -/
theorem Uni.like {κ : Type} {F G : List Clm} {A : Aut κ} (U : Uni F A) (h : ∀ (μ : Type) (T : Aut μ), (∀ f ∈ F, T.Hd f) ↔ ∀ f ∈ G, T.Hd f) : Uni G A :=
  ⟨(h _ A).mp U.so, fun u v r hu hv μ T hT => U.un u v r hu hv μ T ((h μ T).mpr hT)⟩
/-- a word alike, when shortened, to one that is made of words -/
def LoopMade (ws : List Str) (v : Str) : Prop := ∃ l, MadeL ws l ∧ shortL (tl v) = shortL l
/-- each of one lot, or its back, is in the other lot, whose further ones are made of the first -/
theorem roses_like {ws vs : List Str} (hw : ∀ w ∈ ws, Wd w) (h1 : ∀ v ∈ vs, LoopMade ws v) (h2 : ∀ w ∈ ws, ∃ v ∈ vs, tl v = tl w ∨ tl v = backL (tl w)) (μ : Type) (T : Aut μ) : (∀ f ∈ roseF ws, T.Hd f) ↔ ∀ f ∈ roseF vs, T.Hd f := by
  rw [rose_hd, rose_hd]
  constructor
  · intro h v hv
    obtain ⟨l, hl, e⟩ := h1 v hv
    have := hl.loop hw h
    unfold LoopS at this ⊢
    rw [e]
    exact this
  · intro h w hw'
    obtain ⟨v, hv, e | e⟩ := h2 w hw'
    · rw [← e]; exact h v hv
    · have := h v hv
      rw [e] at this
      exact this.unback (hw w hw')
end Sf
namespace Sf
open PySem PySem.Spec PyProof.Rows L2 TL
/-! ### the law's rows as a world -/
theorem mvs_wok {L : Nat → List (Int × Int)} {n : Int} {ms : List Mv} (hN : LNd L) (inv : ∀ c ∈ sgs, ∀ x y, stp L c x = some y → stp L (flipC c) y = some x) (rg : ∀ c ∈ sgs, ∀ x y, stp L c x = some y → 0 ≤ x ∧ x < n ∧ 0 ≤ y ∧ y < n) (hp : ms.Perm (mvsOf L)) :
    WOk n ms ∧ ∀ c ∈ sgs, ∀ j, stp (LM ms) c j = stp L c j := by
  have mem : ∀ m : Mv, m ∈ ms ↔ m.1 ∈ smls ∧ stp L m.1 m.2.1 = some m.2.2 := fun m => by rw [hp.mem_iff, mvs_mem hN]
  have nd : ms.Nodup := hp.nodup_iff.mpr (mvs_nd hN)
  have ok : WOk n ms := by
    refine ⟨fun m hm => ?_, ?_⟩
    · obtain ⟨h1, h2⟩ := (mem m).mp hm
      have := rg m.1 (smls_sgs _ h1) _ _ h2
      have h8 := smls_iff.mp h1
      omega
    · refine List.Pairwise.imp_of_mem (fun {a b} ha hb hab e => ?_) nd
      obtain ⟨a1, a2⟩ := (mem a).mp ha
      obtain ⟨b1, b2⟩ := (mem b).mp hb
      refine ⟨fun z => hab ?_, fun z => hab ?_⟩
      · rw [e, z, b2] at a2
        exact Prod.ext e (Prod.ext z (Option.some.inj a2).symm)
      · have i1 := inv _ (smls_sgs _ a1) _ _ a2
        have i2 := inv _ (smls_sgs _ b1) _ _ b2
        rw [e, z, i2] at i1
        exact Prod.ext e (Prod.ext (Option.some.inj i1).symm z)
  refine ⟨ok, fun c hc j => ?_⟩
  have key : ∀ y, (j, y) ∈ LM ms c ↔ stp L c j = some y := fun y => by
    rw [LM_mem]
    constructor
    · rintro ⟨m, hm, ⟨rfl, rfl, rfl⟩ | ⟨_, h1, rfl, rfl⟩⟩
      · exact ((mem m).mp hm).2
      · obtain ⟨a1, a2⟩ := (mem m).mp hm
        have := inv _ (smls_sgs _ a1) _ _ a2
        have h8 := smls_iff.mp a1
        have e : flipC m.1 = c := by
          unfold flipC
          rw [if_pos (by omega), h1]
          omega
        rw [e] at this
        exact this
    · intro h
      rcases sgn_iff.mp (sgs_iff.mp hc) with h97 | h65
      · exact ⟨(c, j, y), (mem _).mpr ⟨smls_iff.mpr h97, h⟩, .inl ⟨rfl, rfl, rfl⟩⟩
      · have := inv c hc _ _ h
        have e : flipC c = c + 32 := by
          unfold flipC
          rw [if_neg (by omega)]
        rw [e] at this
        exact ⟨(c + 32, y, j), (mem _).mpr ⟨smls_iff.mpr (by omega), this⟩, .inr ⟨by show c + 32 ≠ c; omega, rfl, rfl, rfl⟩⟩
  cases e : stp L c j with
  | some y => exact lk_of (LM_uniq ok (sgs_iff.mp hc)) ((key y).mpr e)
  | none =>
    cases e2 : stp (LM ms) c j with
    | none => rfl
    | some y =>
      have := (key y).mp (lk_mem e2)
      rw [e] at this
      cases this
theorem ren_inv {L : Nat → List (Int × Int)} {ks : List Int} (hN : LNd L) (hcl : ∀ c ∈ sgs, ∀ q ∈ L c, q.1 ∈ ks → q.2 ∈ ks) (inv : ∀ c ∈ sgs, ∀ x y, stp L c x = some y → stp L (flipC c) y = some x) :
    (∀ c ∈ sgs, ∀ x y, stp (renL ks L) c x = some y → stp (renL ks L) (flipC c) y = some x) ∧ (∀ c ∈ sgs, ∀ x y, stp (renL ks L) c x = some y → 0 ≤ x ∧ x < (ks.length : Int) ∧ 0 ≤ y ∧ y < (ks.length : Int)) := by
  have iso := iso_ren hN hcl
  have key : ∀ c ∈ sgs, ∀ x y, stp (renL ks L) c x = some y → ∃ p ∈ ks, ∃ q ∈ ks, x = rk ks p ∧ y = rk ks q ∧ stp L c p = some q := fun c hc x y h => by
    by_cases hx : ∃ p ∈ ks, rk ks p = x
    · obtain ⟨p, hp, rfl⟩ := hx
      rw [iso.st c hc p hp] at h
      obtain ⟨q, hq, rfl⟩ := Option.map_eq_some_iff.mp h
      exact ⟨p, hp, q, iso.cl c hc p hp q hq, rfl, rfl, hq⟩
    · rw [ren_none fun p hp z => hx ⟨p, hp, z⟩] at h
      cases h
  refine ⟨fun c hc x y h => ?_, fun c hc x y h => ?_⟩
  · obtain ⟨p, hp, q, hq, rfl, rfl, e⟩ := key c hc x y h
    have fc : flipC c ∈ sgs := sgs_iff.mpr (flip_sgn (sgs_iff.mp hc))
    rw [iso.st _ fc q hq, inv c hc p q e]
    rfl
  · obtain ⟨p, hp, q, hq, rfl, rfl, e⟩ := key c hc x y h
    have h1 := rk_rg hp
    have h2 := rk_rg hq
    exact ⟨h1.1, h1.2, h2.1, h2.2⟩
theorem lkL_inv {ls : List Lk} (ok : LkOk ls) (iv : InvL (rlL ls []) (wsL ls [] 0)) : ∀ c ∈ sgs, ∀ x y, stp (lkL ls) c x = some y → stp (lkL ls) (flipC c) y = some x := fun c hc x y h => by
  obtain ⟨p, q, rfl, rfl, hq⟩ := lkL_mem (lk_mem h)
  rw [lkL_stp, show nxL ls q (flipC c) = some p from (lkA ok iv).inv p c q hq]
  rfl
theorem ledM_alike {L L' : Nat → List (Int × Int)} (h : ∀ c ∈ sgs, ∀ j, stp L c j = stp L' c j) : ∀ (l : List Nat) (x : Int), (∀ c ∈ l, sgn c = true) → ledM (stp L) l x = ledM (stp L') l x
  | [], _, _ => rfl
  | c :: l, x, hl => by
    show (stp L c x).bind (ledM (stp L) l) = (stp L' c x).bind (ledM (stp L') l)
    rw [h c (sgn_sgs (hl c List.mem_cons_self)) x]
    congr 1
    funext y
    exact ledM_alike h l y fun d hd => hl d (List.mem_cons_of_mem _ hd)
end Sf
namespace Sf
open PySem PySem.Spec PyProof.Rows L2 TL
section
variable {P : Program} {w : World} {K : PySem.W.Frag} {mg : Str → Option Value} {base : Heap} {C CT CF CW : Addr}
/-! ### _law_lots, _law_product -/
def spLts : Sp := fun vs H Q _ => ∃ (b l : Addr) (u sz : Int), vs = [.ref b, .int u, .int sz] ∧ Bag H b l ∧ 0 ≤ u ∧ u ≤ 100 ∧ 0 ≤ sz ∧ sz ≤ 60 ∧
  ∀ (f : Addr) (ws : List Str) (H' : Hp), H' f = some (.lst (ws.map V.str)) → (∀ w ∈ ws, Wd w ∧ w.length ≤ sz.toNat) → ws.length ≤ u.toNat → H f = none → f ≠ b → f ≠ l → Bag H' b l → Fx b H H' → Q (.ref f) H'
theorem sc_lts : FnScope ["_law_bag", "_law_upto", "_law_size", "_law_found", "_law_turn"] ["_law_bag", "_law_upto", "_law_size"] (defScope s__law_lots) := ⟨rfl, rfl, rfl, by decide +kernel, rfl, by decide +kernel, by decide +kernel⟩
theorem has_lts (F : FnAt K mg "_law_lots" s__law_lots ["_law_bag", "_law_upto", "_law_size"]) (B : Blt mg) (h_Pu : HasPull P w K mg base) (h_Wo : HasWord P w K mg base) : Has P w K mg base 4 "_law_lots" ["_law_bag", "_law_upto", "_law_size"] spLts := F.has fun F => by
  obtain ⟨f_Pu, fd_Pu, g_Pu, k_Pu, b_Pu, G_Pu⟩ := h_Pu
  obtain ⟨f_Wo, fd_Wo, g_Wo, k_Wo, b_Wo, G_Wo⟩ := h_Wo
  refine F.ok sc_lts (fun vs H Q E h => ?_) (fun cdv A outer s H vs Q E hr h => ?_)
  · obtain ⟨b, l, u, sz, rfl, _⟩ := h
    rfl
  · obtain ⟨b, l, u, sz, rfl, hB, u0, u1, s0, s1, q⟩ := h
    refine ⟨_, (pss_cons (ps_set (i := 3) sc_lts.nd rfl (.inl rfl) (pe_lst pa_nil)) (pss_cons (ps_for PassesOwn.never rfl (pi_range1 rfl B.range (pa_cons (pe_call G_Pu (hr.mono (by decide)) (by rfl) g_Pu k_Pu b_Pu .nil pass0 (pa_cons (pv 0) (pa_cons (pe_op op_add (pv 1) pe_int) pa_nil))) pa_nil)) (pg_name (i := 4) sc_lts.nd rfl (.inl rfl)) (pss_one (ps_expr (pe_bm PySem.F.plainAttrs_list PySem.F.slot_list_append PySem.F.type_list_append mt_append (pv 3) (pa_cons (pe_call G_Wo (hr.mono (by decide)) (by rfl) g_Wo k_Wo b_Wo .nil pass0 (pa_cons (pv 0) (pa_cons (pv 2) (pa_cons pe_int pa_nil)))) pa_nil))))) (pss_one (ps_ret (pv 3))))), ?_⟩
    walk_at "go"
    refine w_newL (by walk_at "sz") (fun f H1 hf nf => ?_)
    have B1 := hB.nw nf
    have fb := hB.ne nf.nn
    have fl := hB.neL nf.nn
    walk_at "go"
    refine ⟨b, l, _, rfl, B1, by omega, by omega, fun k H2 k0 k1 B2 f2 => ?_⟩
    walk_at "go"
    refine w_kRng1 (by omega) (by omega) ?_
    refine w_range (fun i σ H3 => ∃ (y4 : Option V) (ws : List Str), σ = [some (.ref b), some (.int u), some (.int sz), some (.ref f), y4] ∧ H3 f = some (.lst (ws.map V.str)) ∧ (∀ w ∈ ws, Wd w ∧ w.length ≤ sz.toNat) ∧ ws.length = i ∧ Bag H3 b l ∧ Fx b H H3) ⟨none, [], rfl, f2.at fb hf, (fun _ h => nomatch h), rfl, B2, (Fx.refl.nw nf).trans f2⟩ ?_ ?_
    · rintro i σ H3 hi ⟨y4, ws, rfl, hf3, hw3, hl3, B3, f3⟩
      walk_at "go"
      refine ⟨b, l, sz, 2, rfl, B3, by omega, by omega, by decide, by decide, fun x H4 hx hxl B4 f4 => ?_⟩
      walk_at "go"
      refine w_append (f4.at fb hf3) (by rw [List.length_map]; exact lineLt_of (by omega)) (fun H5 h5 o5 => ?_)
      walk_at "go"
      refine ⟨_, ws ++ [x], rfl, by rw [h5, List.map_append]; rfl, fun w hw => ?_, by rw [List.length_append, hl3]; rfl, B4.off fb fl o5, (f3.trans f4).off o5 nf.nn⟩
      rcases List.mem_append.mp hw with h | h
      · exact hw3 w h
      · rw [List.mem_singleton.mp h]; exact ⟨hx, hxl⟩
    · rintro σ H3 ⟨y4, ws, rfl, hf3, hw3, hl3, B3, f3⟩
      walk_at "go"
      exact q f ws H3 hf3 hw3 (by omega) nf.nn fb fl B3 f3
end
end Sf
namespace Sf
open PySem PySem.Spec PyProof.Rows L2 TL
section
variable {P : Program} {w : World} {K : PySem.W.Frag} {mg : Str → Option Value} {base : Heap} {C CT CF CW : Addr}
/-! ### lists of words -/
theorem dp_strs {H : Hp} : ∀ l : List Str, DpAll K H (l.map V.str) (l.map PyData.str)
  | [] => .nil
  | _ :: l => .cons (.str _) (dp_strs l)
theorem shaped_strs {l : List Str} (h : ∀ x ∈ l, Wd x) : SeqAt.shaped (.list (l.map PyData.str)) = true := shaped_list (fun x hx => by
  rw [PyData.canLay0]
  exact strOk_wd (h x hx)) (fun x _ => by
  rw [PyData.depth]
  decide)
def WsOk (ws : List Str) : Prop := ∀ w ∈ ws, Wd w ∧ w.length ≤ 60
theorem short_wd {x : Str} (h : Wd x) : Wd (shortT x) := shortL_sg h
theorem short_le (x : Str) : (shortT x).length ≤ x.length := by
  unfold shortT
  rw [mkS_len]
  have h1 := shortL_len (tl x)
  have h2 : x.length = (tl x).length := len_tl x
  omega
theorem rose_bnd {ws : List Str} (h : WsOk ws) : WdP 60 (roseF ws) ∧ ∀ c ∈ roseF ws, c.1.length + c.2.length + 1 ≤ 61 := by
  have key : ∀ c ∈ roseF ws, Wd c.1 ∧ c.1.length ≤ 60 ∧ c.2 = Str.ofString "" := fun c hc => by
    obtain ⟨w, hw, rfl⟩ := List.mem_map.mp hc
    obtain ⟨a, b⟩ := h w hw
    exact ⟨short_wd a, Nat.le_trans (short_le w) b, rfl⟩
  refine ⟨fun c hc => ?_, fun c hc => ?_⟩
  · obtain ⟨a, b, e⟩ := key c hc
    exact ⟨a, by rw [e]; exact wd_nil, b, by rw [e, len_empty]; decide⟩
  · obtain ⟨a, b, e⟩ := key c hc
    rw [e, len_empty]
    omega
theorem rose_len (ws : List Str) : (roseF ws).length = ws.length := List.length_map ..
/-! ### the law's rose -/
def spLro : Sp := fun vs H Q _ => ∃ (p : Addr) (ws : List Str), vs = [.ref p] ∧ H p = some (.lst (ws.map V.str)) ∧ WsOk ws ∧ ws.length ≤ 10 ∧
  ∀ (ls : List Lk) (I : WbI (roseF ws) ls) (t a : Addr) (fs : List Fd) (us' : List V) (ms : List Mv) (H' : Hp), Same H H' → H' t = some (.tup [.int (fs.length : Nat), .ref a]) → FinB (lkL ls) 0 fs → fs.length ≤ 1000 → H' a = some (.lst us') → MvsAt H' us' ms → ms.length ≤ 100000 → ms.Perm (mvsOf (renL (fs.map (·.1)) (lkL ls))) → Q (.ref t) H'
theorem sc_lro : FnScope ["_law_words", "_law_word_here"] ["_law_words"] (defScope s__law_rose) := ⟨rfl, rfl, rfl, by decide +kernel, rfl, by decide +kernel, by decide +kernel⟩
theorem has_lro (F : FnAt K mg "_law_rose" s__law_rose ["_law_words"]) (h_Sh : HasShort P w K mg base) (h_Lwb : Has P w K mg base 5 "_law_web" ["_law_facts", "_law_likenesses", "_law_often"] spLwb0) (h_Lww : Has P w K mg base 3 "_law_web_world" ["_law_links"] spLww) : Has P w K mg base 6 "_law_rose" ["_law_words"] spLro := F.has fun F => by
  obtain ⟨f_Sh, fd_Sh, g_Sh, k_Sh, b_Sh, G_Sh⟩ := h_Sh
  obtain ⟨f_Lwb, fd_Lwb, g_Lwb, k_Lwb, b_Lwb, G_Lwb⟩ := h_Lwb
  obtain ⟨f_Lww, fd_Lww, g_Lww, k_Lww, b_Lww, G_Lww⟩ := h_Lww
  refine F.ok sc_lro (fun vs H Q E h => ?_) (fun cdv A outer s H vs Q E hr h => ?_)
  · obtain ⟨p, ws, rfl, _⟩ := h
    rfl
  · obtain ⟨p, ws, rfl, hp, hw, hl, q⟩ := h
    refine ⟨_, (pss_one (ps_ret (pe_call G_Lww (hr.mono (by decide)) (by rfl) g_Lww k_Lww b_Lww .nil pass0 (pa_cons (pe_ix ix_tup (pe_call G_Lwb (hr.mono (by decide)) (by rfl) g_Lwb k_Lwb b_Lwb .nil pass0 (pa_cons (pe_lc (own := [("_law_word_here", 1)]) (g := gName 1) (tt := tYes) (by rfl) sc_lro.nd (pi_list (pv 0)) (blkOk_by (own := [("_law_word_here", 1)]) (N := ["_law_words", "_law_word_here"]) (sc := defScope s__law_rose) (by decide +kernel)) (fun _ _ _ _ _ => pg_name (i := 1) sc_lro.nd rfl (.inl rfl)) (fun _ _ _ _ _ => pts_nil) (fun _ _ _ _ _ => (pe_tup (pa_cons (pe_call G_Sh (hr.mono (by decide)) (by rfl) g_Sh k_Sh b_Sh .nil pass0 (pa_cons (pv 1) pa_nil)) (pa_cons pe_str pa_nil))))) (pa_cons (pe_lst pa_nil) (pa_cons pe_int pa_nil)))) pe_int (fun _ _ => rfl)) pa_nil)))), ?_⟩
    walk_at "go"
    refine w_lcL (xs := ws.map V.str) (fun r i H1 => ∃ us, Same H H1 ∧ H r = none ∧ H1 r = some (.lst us) ∧ PrsAt H1 us (roseF (ws.take i))) (fun r H1 h1 n1 => ⟨[], n1.same, n1.nn, h1, .nil⟩) ?_ ?_ ?_
    · rintro r i H1 _ ⟨us, s1, _⟩
      exact s1.at hp
    · rintro r i v H1 hv ⟨us, s1, nr, hr1, hu⟩
      rw [List.getElem?_map, Option.map_eq_some_iff] at hv
      obtain ⟨x, hx, rfl⟩ := hv
      obtain ⟨a, b⟩ := hw x (List.mem_of_getElem? hx)
      have hil : i < ws.length := (List.getElem?_eq_some_iff.mp hx).1
      have hul : us.length ≤ i := by
        rw [show us.length = _ from Paired.length hu, rose_len, List.length_take]
        omega
      walk_at "go"
      refine ⟨x, rfl, a, by omega, fun H2 s2 => ?_⟩
      walk_at "go"
      refine w_newT (by walk_at "sz") (fun t H3 ht nt => ?_)
      refine w_kIt (nt.at (s2.at hr1)) (lineLt_of (by omega)) (fun H4 h4 o4 => ?_)
      have T4 : Tps H3 H4 := Tps.refl.off (nt.at (s2.at hr1)) o4
      refine ⟨us ++ [.ref t], ((s1.trans s2).nw nt).off o4 nr, nr, h4, ?_⟩
      rw [take_snoc hx]
      unfold roseF
      rw [List.map_append]
      exact paired_snocL ⟨t, rfl, T4 _ _ ht⟩ (hu.tps (((Tps.of s2).trans (.of nt.same)).trans T4))
    · rintro r H1 ⟨us, s1, nr, hr1, hu⟩
      rw [List.length_map, List.take_length] at hu
      obtain ⟨b1, b2⟩ := rose_bnd hw
      walk_at "go"
      refine w_newL (by walk_at "sz") (fun kp H2 hkp nkp => ?_)
      walk_at "go"
      have hn : (roseF ws).length ≤ 10 := by rw [rose_len]; exact hl
      refine ⟨r, kp, 0, us, roseF ws, 61, rfl, nkp.at hr1, hu.tps (.of nkp.same), hkp, fun c hc => ⟨(b1 c hc).1, (b1 c hc).2.1, b2 c hc⟩, by omega, fun t lp us' ls H3 s3 ht hL I hll => ?_⟩
      walk_at "go"
      refine ⟨lp, us', ls, roseF ws, rfl, hL, I, by omega, fun t2 a fs us2 ms H4 s4 ht2 fin hfl ha hms hml hmp => ?_⟩
      exact q ls I t2 a fs us2 ms H4 (((s1.nw nkp).trans s3).trans s4) ht2 fin (by omega) ha hms hml hmp
end
end Sf
namespace Sf
open PySem PySem.Spec PyProof.Rows L2 TL
/-! ### k52's law: the mathematics -/
theorem rk_get {ks : List Int} (nd : ks.Nodup) {x : Int} (h : x ∈ ks) : ∃ j : Nat, ks[j]? = some x ∧ rk ks x = (j : Int) := by
  obtain ⟨j, hj⟩ := List.mem_iff_getElem?.mp h
  exact ⟨j, hj, rk_at nd hj⟩
theorem fd_get {fs : List Fd} {j : Nat} {x : Int} (h : (fs.map (·.1))[j]? = some x) : ∃ k, fs[j]? = some k ∧ k.1 = x := by
  rw [List.getElem?_map, Option.map_eq_some_iff] at h
  exact h
theorem LM_stp {n : Int} {ms : List Mv} (ok : WOk n ms) {m : Mv} (h : m ∈ ms) : stp (LM ms) m.1 m.2.1 = some m.2.2 := by
  have := ok.rg m h
  exact lk_of (uniq_of (LM_nd ok m.1 (sgs_iff.mpr (sgn_iff.mpr (by omega))))) (LM_mem.mpr ⟨m, h, .inl ⟨rfl, rfl, rfl⟩⟩)
structure RowOf (ms : List Mv) (fs : List Fd) (m : Mv) : Prop where
  sm : m.1 ∈ smls
  at_ : ∃ (s e : Nat) (ks ke : Fd), m.2.1 = (s : Int) ∧ m.2.2 = (e : Int) ∧ fs[s]? = some ks ∧ fs[e]? = some ke ∧ stp (LM ms) m.1 ks.1 = some ke.1
theorem row_of {n : Int} {ms : List Mv} {fs : List Fd} (ok : WOk n ms) (fin : FinB (LM ms) 0 fs) (nd : (fs.map (·.1)).Nodup) {m : Mv} (h : m ∈ sortM (rowM (fs.map (·.1)) ms)) : RowOf ms fs m := by
  have h := sortM_mem.mp h
  unfold rowM at h
  obtain ⟨q, hq, rfl⟩ := List.mem_map.mp h
  rw [List.mem_filter] at hq
  have hx := of_decide_eq_true hq.2
  have rg := ok.rg q hq.1
  have hsm : q.1 ∈ smls := smls_iff.mpr (by omega)
  have hy : q.2.2 ∈ fs.map (·.1) := fin.cl (LM_nd ok) (c := q.1) (smls_sgs _ hsm) q.2 (LM_mem.mpr ⟨q, hq.1, .inl ⟨rfl, rfl, rfl⟩⟩) hx
  obtain ⟨s, hs, es⟩ := rk_get nd hx
  obtain ⟨e, he, ee⟩ := rk_get nd hy
  obtain ⟨ks, hks, eks⟩ := fd_get hs
  obtain ⟨ke, hke, eke⟩ := fd_get he
  exact ⟨hsm, s, e, ks, ke, es, ee, hks, hke, by rw [eks, eke]; exact LM_stp ok hq.1⟩
theorem mks_home {n : Int} {ms : List Mv} {fs : List Fd} (ok : WOk n ms) (fin : FinB (LM ms) 0 fs) (okf : FsOk n fs) (hn : n ≤ 1000) {w : Str} (h : w ∈ mksL fs (sortM (rowM (fs.map (·.1)) ms))) : Wd w ∧ w.length ≤ 3000 ∧ ledM (stp (LM ms)) (tl w) 0 = some 0 := by
  unfold mksL at h
  obtain ⟨m, hm, e⟩ := List.mem_filterMap.mp h
  obtain ⟨hsm, s, e', ks, ke, h1, h2, h3, h4, h5⟩ := row_of ok fin okf.nd hm
  have len := okf.len
  have hI : Inv1 (stp (LM ms)) := inv_world ok
  unfold mk1 at e
  rw [h1, h2, wyI_at h3, wyI_at h4] at e
  split at e
  · cases e
  · cases e
    have hc := sgs_iff.mp (smls_sgs _ hsm)
    have w1 := fin.wd ks (List.mem_of_getElem? h3)
    have w2 := fin.wd ke (List.mem_of_getElem? h4)
    have l1 := okf.wl ks (List.mem_of_getElem? h3)
    have l2 := okf.wl ke (List.mem_of_getElem? h4)
    refine ⟨short_wd ((w1.app (wd_one hc)).app (backT_wd w2)), ?_, mk_home hI w1 w2 hc (fin.led ks (List.mem_of_getElem? h3)) h5 (fin.led ke (List.mem_of_getElem? h4))⟩
    refine Nat.le_trans (short_le _) ?_
    rw [len_app, len_app, len_one, bk_len]
    omega
theorem rows_eq {n : Int} {ms : List Mv} (ok : WOk n ms) (ks : List Int) : sortM (mvsOf (renL ks (LM ms))) = sortM (rowM ks ms) := by
  rw [sortM_perm (ren_perm ok ks), sortM_perm sortM_is]
theorem wok0 : WOk 1 [] := ⟨fun m hm => (by cases hm), .nil⟩
theorem wok1 : WOk 1 [(98, 0, 0)] := ⟨fun m hm => by rw [List.mem_singleton.mp hm]; decide, List.pairwise_singleton _ _⟩
theorem fin0 : FinB (LM []) 0 [(0, Str.ofString "")] := ⟨1, by decide +kernel, by decide⟩
theorem fin1 : FinB (LM [(98, 0, 0)]) 0 [(0, Str.ofString "")] := ⟨1, by decide +kernel, by decide⟩
theorem mks0 : mksL [(0, Str.ofString "")] (sortM (mvsOf (renL ([((0 : Int), Str.ofString "")].map (·.1)) (LM [])))) = [] := by
  have e : mvsOf (renL ([((0 : Int), Str.ofString "")].map (·.1)) (LM [])) = [] := by decide +kernel
  rw [e]
  have h : sortM [] = [] := List.eq_nil_of_length_eq_zero (sortM_len [])
  rw [h]
  rfl
theorem mks1 : mksL [(0, Str.ofString "")] (sortM (mvsOf (renL ([((0 : Int), Str.ofString "")].map (·.1)) (LM [(98, 0, 0)])))) = [Str.ofString "b"] := by
  have e : mvsOf (renL ([((0 : Int), Str.ofString "")].map (·.1)) (LM [(98, 0, 0)])) = [(98, 0, 0)] := by decide +kernel
  rw [e]
  have h : sortM [((98 : Nat), (0 : Int), (0 : Int))] = [(98, 0, 0)] := List.perm_singleton.mp sortM_is
  rw [h]
  decide +kernel
theorem lets_ok {d : Int} (h0 : 0 ≤ d) (h1 : d < 4) : ∃ z : Str, atI [V.str (Str.ofString "ab"), V.str (Str.ofString "a"), V.str (Str.ofString "abc"), V.str (Str.ofString "cd")] d = some (.str z) ∧ (∀ c ∈ tl z, 97 ≤ c ∧ c ≤ 104) ∧ (tl z).Nodup ∧ (tl z).length ≤ 8 := by
  obtain rfl | rfl | rfl | rfl : d = 0 ∨ d = 1 ∨ d = 2 ∨ d = 3 := by omega
  · exact ⟨_, rfl, by decide +kernel, by decide +kernel, by decide +kernel⟩
  · exact ⟨_, rfl, by decide +kernel, by decide +kernel, by decide +kernel⟩
  · exact ⟨_, rfl, by decide +kernel, by decide +kernel, by decide +kernel⟩
  · exact ⟨_, rfl, by decide +kernel, by decide +kernel, by decide +kernel⟩
theorem eqv_ref2 {H : Hp} {p q : Addr} {n : Nat} {xs ys : List V} (hp : H p = some (.lst xs)) (hq : H q = some (.lst ys)) (hl : xs.length = ys.length) (h1 : xs.length ≤ 100000) (h : ∀ (i : Nat) (x y : V), xs[i]? = some x → ys[i]? = some y → Eqv H n x y) : Eqv H (n + 1) (.ref p) (.ref q) := .inr ⟨p, q, xs, ys, rfl, rfl, .inl ⟨hp, hq⟩, hl, h1, h⟩
theorem eqv_strs {H : Hp} {p q : Addr} {ws : List Str} (h1 : H p = some (.lst (ws.map V.str))) (h2 : H q = some (.lst (ws.map V.str))) (hl : ws.length ≤ 100000) {n : Nat} : Eqv H (n + 1) (.ref p) (.ref q) := eqv_ref2 h1 h2 rfl (by rw [List.length_map]; exact hl) fun i x y hx hy => by
  rw [hx] at hy
  cases hy
  rw [List.getElem?_map, Option.map_eq_some_iff] at hx
  obtain ⟨k, _, rfl⟩ := hx
  exact .flat rfl
section
variable {P : Program} {w : World} {K : PySem.W.Frag} {mg : Str → Option Value} {base : Heap} {C : Addr}
def spLaw (K : PySem.W.Frag) : Sp := fun vs H Q _ => ∃ (a : Addr) (ns : List Int), vs = [.ref a] ∧ SqL K H a (ns.map V.int) ∧ ns.length ≤ 63 ∧ ∀ H', Q (.bl true) H'
theorem sc_law : FnScope ["_law_script", "_law_bag", "_law_turn", "_law_many", "_law_moves", "_law_world_here", "_law_places", "_law_words", "_law_rows", "_law_due", "_law_letter", "_law_start", "_law_end", "_law_step", "_law_found", "_law_word_here"] ["_law_script"] (defScope s_law) := ⟨rfl, rfl, rfl, by decide +kernel, rfl, by decide +kernel, by decide +kernel⟩
theorem ok_law {f : Addr} {fd : FuncData} (F : Fun K "law" "law" s_law f fd) (B : Blt mg) (T_World : WC K mg C) (mk : PySem.W.makesIn K C = true) (kc : PySem.W.keepIn K (.ref C) = true)
    (h_Be : HasBegin P w K mg base) (h_Pu : HasPull P w K mg base) (h_Lw : HasLw P w K mg base) (h_Lts : Has P w K mg base 4 "_law_lots" ["_law_bag", "_law_upto", "_law_size"] spLts) (h_Lro : Has P w K mg base 6 "_law_rose" ["_law_words"] spLro) (h_WI : HasM P w K mg base C 4 "__init__" ["self", "many", "moves"] (spWI C))
    (h_Lse : Has P w K mg base 2 "_law_seen" ["_law_many", "_law_moves", "_law_place"] spLse) (h_Sh : HasShort P w K mg base) (h_Ba : HasBack P w K mg base) (h_Mks : Has P w K mg base 8 "makers" ["world"] (spMks C)) (h_Sa : HasSame P w K mg base 2) (h_Lld : HasLld P w K mg base) : FnOk P w K mg base CX0 10 f fd ["_law_script"] (spLaw K) := by
  obtain ⟨f_Be, fd_Be, g_Be, k_Be, b_Be, G_Be⟩ := h_Be
  obtain ⟨f_Pu, fd_Pu, g_Pu, k_Pu, b_Pu, G_Pu⟩ := h_Pu
  obtain ⟨f_Lw, fd_Lw, g_Lw, k_Lw, b_Lw, G_Lw⟩ := h_Lw
  obtain ⟨f_Lts, fd_Lts, g_Lts, k_Lts, b_Lts, G_Lts⟩ := h_Lts
  obtain ⟨f_Lro, fd_Lro, g_Lro, k_Lro, b_Lro, G_Lro⟩ := h_Lro
  obtain ⟨f_Lse, fd_Lse, g_Lse, k_Lse, b_Lse, G_Lse⟩ := h_Lse
  obtain ⟨f_Sh, fd_Sh, g_Sh, k_Sh, b_Sh, G_Sh⟩ := h_Sh
  obtain ⟨f_Ba, fd_Ba, g_Ba, k_Ba, b_Ba, G_Ba⟩ := h_Ba
  obtain ⟨f_Mks, fd_Mks, g_Mks, k_Mks, b_Mks, G_Mks⟩ := h_Mks
  obtain ⟨f_Sa, fd_Sa, g_Sa, k_Sa, b_Sa, G_Sa⟩ := h_Sa
  obtain ⟨f_Lld, fd_Lld, g_Lld, k_Lld, b_Lld, G_Lld⟩ := h_Lld
  obtain ⟨f_WI, fd_WI, m_WI, b_WI, G_WI⟩ := h_WI
  have M_WI : Mk K C f_WI := ⟨mk, m_WI.at_, m_WI.fn, kc⟩
  have g_World := T_World.mgC
  refine F.ok sc_law (fun vs H Q E h => ?_) (fun cdv A outer s H vs Q E hr h => ?_)
  · obtain ⟨a, ns, rfl, _⟩ := h
    rfl
  · obtain ⟨a, ns, rfl, hS, hlen, q⟩ := h
    refine ⟨_, (pss_cons (ps_set (i := 1) sc_law.nd rfl (.inl rfl) (pe_call G_Be (hr.mono (by decide)) (by rfl) g_Be k_Be b_Be .nil pass0 (pa_cons (pv 0) pa_nil))) (pss_cons (ps_for PassesOwn.never rfl (pi_range1 rfl B.range (pa_cons pe_int pa_nil)) (pg_name (i := 2) sc_law.nd rfl (.inl rfl)) (pss_cons (ps_asg (pe_call G_Lw (hr.mono (by decide)) (by rfl) g_Lw k_Lw b_Lw .nil pass0 (pa_cons (pv 1) (pa_cons pe_int (pa_cons (pe_ix ix_list (pe_lst (pa_cons pe_str (pa_cons pe_str (pa_cons pe_str (pa_cons pe_str pa_nil))))) (pe_call G_Pu (hr.mono (by decide)) (by rfl) g_Pu k_Pu b_Pu .nil pass0 (pa_cons (pv 1) (pa_cons pe_int pa_nil))) (fun _ _ => rfl)) pa_nil)))) (pg_tup rfl (pgs_cons (pg_name (i := 3) sc_law.nd rfl (.inl rfl)) (pgs_cons (pg_name (i := 4) sc_law.nd rfl (.inr rfl)) pgs_nil)))) (pss_cons (ps_if (pt_cmpR op_eq (pe_call G_Pu (hr.mono (by decide)) (by rfl) g_Pu k_Pu b_Pu .nil pass0 (pa_cons (pv 1) (pa_cons pe_int pa_nil))) pe_int (nomark _)) (pss_one (ps_asg (pe_call G_Lro (hr.mono (by decide)) (by rfl) g_Lro k_Lro b_Lro .nil pass0 (pa_cons (pe_call G_Lts (hr.mono (by decide)) (by rfl) g_Lts k_Lts b_Lts .nil pass0 (pa_cons (pv 1) (pa_cons pe_int (pa_cons pe_int pa_nil)))) pa_nil)) (pg_tup rfl (pgs_cons (pg_name (i := 3) sc_law.nd rfl (.inl rfl)) (pgs_cons (pg_name (i := 4) sc_law.nd rfl (.inr rfl)) pgs_nil))))) pss_nil) (pss_cons (ps_set (i := 5) sc_law.nd rfl (.inl rfl) (pe_make M_WI G_WI (hr.mono (by decide)) (by rfl) g_World b_WI .nil pass0 (pa_cons (pv 3) (pa_cons (pv 4) pa_nil)))) (pss_cons (ps_asg (pe_call G_Lse (hr.mono (by decide)) (by rfl) g_Lse k_Lse b_Lse .nil pass0 (pa_cons (pv 3) (pa_cons (pv 4) (pa_cons pe_int pa_nil)))) (pg_tup rfl (pgs_cons (pg_name (i := 6) sc_law.nd rfl (.inl rfl)) (pgs_cons (pg_name (i := 7) sc_law.nd rfl (.inl rfl)) (pgs_cons (pg_name (i := 8) sc_law.nd rfl (.inl rfl)) pgs_nil))))) (pss_cons (ps_set (i := 9) sc_law.nd rfl (.inl rfl) (pe_lst pa_nil)) (pss_cons (ps_for PassesOwn.never rfl (pi_list (pv 8)) (pg_tup rfl (pgs_cons (pg_name (i := 10) sc_law.nd rfl (.inl rfl)) (pgs_cons (pg_name (i := 11) sc_law.nd rfl (.inl rfl)) (pgs_cons (pg_name (i := 12) sc_law.nd rfl (.inl rfl)) pgs_nil)))) (pss_one (ps_if (PW.pt (pw_and (pt_cmpR op_ne (pe_ix ix_list (pv 7) (pv 12) (fun _ _ => rfl)) (pe_op op_addS (pe_ix ix_list (pv 7) (pv 11) (fun _ _ => rfl)) (pv 10)) (nomark _)) (pw_and1 (pt_cmpR op_ne (pe_ix ix_list (pv 7) (pv 11) (fun _ _ => rfl)) (pe_op op_addS (pe_ix ix_list (pv 7) (pv 12) (fun _ _ => rfl)) (pe_m0 PySem.F.slot_str_upper PySem.F.type_str_upper mt_upN (pv 10))) (nomark _))))) (pss_one (ps_expr (pe_bm PySem.F.plainAttrs_list PySem.F.slot_list_append PySem.F.type_list_append mt_append (pv 9) (pa_cons (pe_call G_Sh (hr.mono (by decide)) (by rfl) g_Sh k_Sh b_Sh .nil pass0 (pa_cons (pe_op op_addS (pe_op op_addS (pe_ix ix_list (pv 7) (pv 11) (fun _ _ => rfl)) (pv 10)) (pe_call G_Ba (hr.mono (by decide)) (by rfl) g_Ba k_Ba b_Ba .nil pass0 (pa_cons (pe_ix ix_list (pv 7) (pv 12) (fun _ _ => rfl)) pa_nil))) pa_nil)) pa_nil)))) pss_nil))) (pss_one (ps_for PassesOwn.never rfl (pi_range1 rfl B.range (pa_cons pe_int pa_nil)) (pg_name (i := 13) sc_law.nd rfl (.inl rfl)) (pss_cons (ps_set (i := 14) sc_law.nd rfl (.inl rfl) (pe_call G_Mks (hr.mono (by decide)) (by rfl) g_Mks k_Mks b_Mks .nil pass0 (pa_cons (pv 5) pa_nil))) (pss_cons (ps_if (PW.pt (pw_or (pt_not (pt_val (pe_call G_Sa (hr.mono (by decide)) (by rfl) g_Sa k_Sa b_Sa .nil pass0 (pa_cons (pv 14) (pa_cons (pv 9) pa_nil))))) (pw_or1 (pt_not (pt_val (pe_callB (cr_all rfl) (by rfl) B.all (by decide +kernel) (pa_cons (pe_lc (own := [("_law_word_here", 15)]) (g := gName 15) (tt := tYes) (by rfl) sc_law.nd (pi_list (pv 14)) (blkOk_by (own := [("_law_word_here", 15)]) (N := ["_law_script", "_law_bag", "_law_turn", "_law_many", "_law_moves", "_law_world_here", "_law_places", "_law_words", "_law_rows", "_law_due", "_law_letter", "_law_start", "_law_end", "_law_step", "_law_found", "_law_word_here"]) (sc := defScope s_law) (by decide +kernel)) (fun _ _ _ _ _ => pg_name (i := 15) sc_law.nd rfl (.inl rfl)) (fun _ _ _ _ _ => pts_nil) (fun _ _ _ _ _ => (pe_cmpR op_eq (pe_call G_Lld (hr.mono (by decide)) (by rfl) g_Lld k_Lld b_Lld .nil pass0 (pa_cons (pv 4) (pa_cons (pv 15) (pa_cons pe_int pa_nil)))) pe_int (nomark _)))) pa_nil))))))) (pss_one (ps_ret pe_bl)) pss_nil) (pss_one (ps_expr (pe_bm PySem.F.plainAttrs_list PySem.F.slot_list_append PySem.F.type_list_append mt_append (pv 14) (pa_cons pe_str pa_nil))))))))))))))) (pss_one (ps_ret (pe_and (pe_cmpR (op_eqD hr.units) (pe_call G_Mks (hr.mono (by decide)) (by rfl) g_Mks k_Mks b_Mks .nil pass0 (pa_cons (pe_make M_WI G_WI (hr.mono (by decide)) (by rfl) g_World b_WI .nil pass0 (pa_cons pe_int (pa_cons (pe_lst pa_nil) pa_nil))) pa_nil)) (pe_lst pa_nil) (nomark _)) (pe_one (pe_cmpR (op_eqD hr.units) (pe_call G_Mks (hr.mono (by decide)) (by rfl) g_Mks k_Mks b_Mks .nil pass0 (pa_cons (pe_make M_WI G_WI (hr.mono (by decide)) (by rfl) g_World b_WI .nil pass0 (pa_cons pe_int (pa_cons (pe_lst (pa_cons (pe_tup (pa_cons pe_str (pa_cons pe_int (pa_cons pe_int pa_nil)))) pa_nil)) pa_nil))) pa_nil)) (pe_lst (pa_cons pe_str pa_nil)) (nomark _)))))))), ?_⟩
    walk_at "go"
    refine ⟨a, ns, rfl, hS, fun b l H1 nb B1 s1 => ?_⟩
    walk_at "go"
    refine w_kRng1 (by decide) (by decide) ?_
    refine w_range (fun i σ H2 => ∃ (y2 y3 y4 y5 y6 y7 y8 y9 y10 y11 y12 y13 y14 y15 : Option V), σ = [some (.ref a), some (.ref b), y2, y3, y4, y5, y6, y7, y8, y9, y10, y11, y12, y13, y14, y15] ∧ Bag H2 b l) ⟨_, _, _, _, _, _, _, _, _, _, _, _, _, _, rfl, B1⟩ ?_ ?_
    · rintro i σ H2 hi ⟨y2, y3, y4, y5, y6, y7, y8, y9, y10, y11, y12, y13, y14, y15, rfl, B2⟩
      walk_at "go"
      refine w_newL (by walk_at "sz") (fun r0 H3 hr0 nr0 => ?_)
      walk_at "go"
      refine ⟨b, l, 4, rfl, B2.nw nr0, by decide, by decide, fun d H4 d0 d1 B4 f4 => ?_⟩
      obtain ⟨z, hz, z1, z2, z3⟩ := lets_ok d0 d1
      walk_at "go"
      refine w_ixL (f4.at (B2.ne nr0.nn) hr0) hz ?_
      walk_at "go"
      refine ⟨b, l, 7, z, rfl, B4, by decide, by decide, z1, z2, z3, fun t f n us ms H5 ht5 hf5 hm5 ok n1 n16 hml hin B5 f5 nf nfb nfl => ?_⟩
      walk_at "gs"
      refine w_seqJ (fun σ H6 => ∃ (n : Int) (f : Addr) (us : List V) (ms : List Mv), σ = [some (.ref a), some (.ref b), some (.int (0 + (i : Int))), some (.int n), some (.ref f), y5, y6, y7, y8, y9, y10, y11, y12, y13, y14, y15] ∧ Bag H6 b l ∧ H6 f = some (.lst us) ∧ MvsAt H6 us ms ∧ WOk n ms ∧ 1 ≤ n ∧ n ≤ 1000 ∧ ms.length ≤ 10000) (fun N hN => ?_) ?_
      · walk_at "go"
        refine ⟨b, l, 2, rfl, B5, by decide, by decide, fun e H6 e0 e1 B6 f6 => ?_⟩
        walk_at "go"
        refine w_if2 (fun h1 => ?_) (fun h1 => ?_)
        · walk_at "go"
          refine ⟨b, l, 4, 6, rfl, B6, by decide, by decide, by decide, by decide, fun fw ws H7 hfw hws hwl nfw nfwb nfwl B7 f7 => ?_⟩
          walk_at "go"
          refine ⟨fw, ws, rfl, hfw, fun w hw => ⟨(hws w hw).1, by have := (hws w hw).2; show w.length ≤ 60; omega⟩, by omega, fun ls I t8 a8 fs us8 ms8 H8 s8 ht8 fin hfl ha8 hms8 hml8 hmp => ?_⟩
          walk_at "go"
          have hcl := fun c hc => fin.cl (lkL_nd ls) (c := c) hc
          obtain ⟨ri, rr⟩ := ren_inv (lkL_nd ls) hcl (lkL_inv I.ok I.inv)
          rw [List.length_map] at rr
          obtain ⟨wok, hst⟩ := mvs_wok (ren_nd (lkL_nd ls)) ri rr hmp
          have hne : 1 ≤ fs.length := by
            obtain ⟨t, e⟩ := fin.head
            rw [e]
            exact Nat.succ_pos _
          have B8 := B7.same s8
          have nd : (fs.map (·.1)).Nodup := by
            obtain ⟨N, rfl, _⟩ := fin
            exact bfs_ndI N
          refine hN _ _ ⟨((fs.length : Nat) : Int), a8, us8, ms8, rfl, B8, ha8, hms8, wok, by omega, by omega, ?_⟩
          have h1 := (rwL_perm (lkL_nd ls) nd hcl).length_eq
          have h2 := hmp.length_eq
          have h3 := rwL_len (L := lkL ls) (ks := fs.map (·.1)) (fs.map (·.1))
          rw [List.length_map] at h3
          omega
        · walk_at "go"
          refine hN _ _ ⟨n, f, us, ms, rfl, B6, f6.at nfb hf5, hm5.tps (.fx B5 f6), ok, n1, by omega, by omega⟩
      · rintro σ H6 ⟨n, f, us, ms, rfl, B6, hf6, hm6, ok, n1, n2, hml⟩
        walk_at "go"
        refine w_world hf6 hm6 ok (by omega) n1 n2 (fun p H7 G7 hW7 sG7 hG7 s7 => ?_)
        have hW := hW7.same sG7
        have hI : Inv1 (stp (LM ms)) := inv_world ok
        have hLR := LM_rg ok
        have hLN := LM_nd ok
        have hsz : ∀ c ∈ sgs, (LM ms c).length ≤ 10000 := fun c _ => Nat.le_trans (LM_len ms c) hml
        have B7 := B6.same s7
        have hm7 := hm6.tps (.of s7)
        have hf7 := s7.at hf6
        walk_at "go"
        refine ⟨n, 0, f, us, ms, rfl, hf7, hm7, ok, hml, n2, by omega, by omega, fun t8 fo wd rw H8 fs us8 s8 nt8 nfo nwd nrw ht8 hfo8 hwd8 hrw8 hm8 fin okf => ?_⟩
        have len := okf.len
        have B8 := B7.same s8
        walk_at "go"
        refine w_newL (by walk_at "sz") (fun du H9 hdu9 ndu => ?_)
        walk_at "go"
        have hul : us8.length = _ := Paired.length hm8
        have hrl : (sortM (rowM (fs.map (·.1)) ms)).length ≤ 10000 := by rw [sortM_len]; exact Nat.le_trans (rowM_len _ _) hml
        generalize hR : sortM (rowM (fs.map (·.1)) ms) = R at hm8 hul hrl
        have drw : du ≠ rw := (ndu.ne hrw8).symm
        have dwd : du ≠ wd := (ndu.ne hwd8).symm
        refine w_list (xs := us8) (fun i' σ H10 => ∃ (y10 y11 y12 : Option V), σ = [some (.ref a), some (.ref b), some (.int (0 + (i : Int))), some (.int n), some (.ref f), some (.ref p), some (.ref fo), some (.ref wd), some (.ref rw), some (.ref du), y10, y11, y12, y13, y14, y15] ∧ Same H8 H10 ∧ H10 wd = some (.lst (wyV fs)) ∧ H10 rw = some (.lst us8) ∧ MvsAt H10 us8 R ∧ H10 du = some (.lst ((mksL fs (R.take i')).map V.str))) ⟨_, _, _, rfl, ndu.same, ndu.at hwd8, ndu.at hrw8, hm8.tps (.of ndu.same), by rw [List.take_zero]; exact hdu9⟩ (fun i' σ H10 _ ⟨_, _, _, _, _, _, h, _⟩ => h) ?_ ?_
        · rintro i' v σ H10 hv ⟨y10, y11, y12, rfl, s10, hwd10, hrw10, hm10, hdu10⟩
          obtain ⟨m, hmi, t, rfl, ht⟩ := paired_get hm10 hv
          have hil : i' < R.length := (List.getElem?_eq_some_iff.mp hmi).1
          have hmr : m ∈ R := List.mem_of_getElem? hmi
          obtain ⟨hsm, s0, e0, ks, ke, em1, em2, hks, hke, _⟩ := row_of ok fin okf.nd (m := m) (by rw [hR]; exact hmr)
          obtain ⟨lc, m1, m2⟩ := m
          have em1 : m1 = (s0 : Int) := em1
          have em2 : m2 = (e0 : Int) := em2
          subst em1 em2
          have hsm : lc ∈ smls := hsm
          have hlr := smls_iff.mp hsm
          have hlg : sgn lc = true := sgs_iff.mp (smls_sgs lc hsm)
          have w1 := fin.wd ks (List.mem_of_getElem? hks)
          have w2 := fin.wd ke (List.mem_of_getElem? hke)
          have l1 := okf.wl ks (List.mem_of_getElem? hks)
          have l2 := okf.wl ke (List.mem_of_getElem? hke)
          have a1 : atI (wyV fs) (s0 : Int) = some (.str ks.2) := atI_nat (by unfold wyV; rw [List.getElem?_map, hks]; rfl)
          have a2 : atI (wyV fs) (e0 : Int) = some (.str ke.2) := atI_nat (by unfold wyV; rw [List.getElem?_map, hke]; rfl)
          have hsn : mksL fs (R.take (i' + 1)) = mksL fs (R.take i') ++ (mk1 fs (lc, (s0 : Int), (e0 : Int))).toList := by rw [take_snoc hmi, mksL_snoc]
          have hm1 : mk1 fs (lc, (s0 : Int), (e0 : Int)) = if ke.2 = ks.2 ++ one lc ∨ ks.2 = ke.2 ++ one (lc - 32) then none else some (mkT ks.2 lc ke.2) := by
            unfold mk1
            rw [wyI_at hks, wyI_at hke]
          walk_at "go"
          refine w_ixL hwd10 a2 ?_
          walk_at "go"
          refine w_ixL hwd10 a1 ?_
          walk_at "go"
          refine w_addS (line_of (by rw [len_one]; omega)) ?_
          walk_at "go"
          have keep : mk1 fs (lc, (s0 : Int), (e0 : Int)) = none → mksL fs (R.take (i' + 1)) = mksL fs (R.take i') := fun h => by
            rw [hsn, h]
            exact List.append_nil _
          refine w_andN2 (fun h1 => ?_) (fun h1 => ?_)
          · walk_at "go"
            refine w_ixL hwd10 a1 ?_
            walk_at "go"
            refine w_ixL hwd10 a2 ?_
            walk_at "go"
            refine w_up1 hlr ?_
            refine w_addS (line_of (by rw [len_one]; omega)) ?_
            walk_at "go"
            refine w_ifN2 (fun h2 => ?_) (fun h2 => ?_)
            · rw [if_neg (fun z => z.elim h1 h2)] at hm1
              walk_at "go"
              refine w_ixL hwd10 a1 ?_
              walk_at "go"
              refine w_addS (line_of (by rw [len_one]; omega)) ?_
              walk_at "go"
              refine w_ixL hwd10 a2 ?_
              walk_at "go"
              refine ⟨ke.2, rfl, w2, by omega, fun H11 s11 => ?_⟩
              have bl := bk_len ke.2
              refine w_addS (line_of (by rw [len_app, len_one]; omega)) ?_
              walk_at "go"
              refine ⟨_, rfl, (w1.app (wd_one hlg)).app (backT_wd w2), by rw [len_app, len_app, len_one]; omega, fun H12 s12 => ?_⟩
              have s1012 := s11.trans s12
              have hml2 := mksL_len fs (R.take i')
              rw [List.length_take] at hml2
              walk_at "go"
              refine w_append (s1012.at hdu10) (by rw [List.length_map]; exact lineLt_of (by omega)) (fun H13 h13 o13 => ?_)
              walk_at "go"
              refine ⟨_, _, _, rfl, (s10.trans s1012).off o13 ndu.nn, o13.at dwd.symm (s1012.at hwd10), o13.at drw.symm (s1012.at hrw10), (hm10.tps (.of s1012)).tps (Tps.refl.off (s1012.at hdu10) o13), ?_⟩
              rw [hsn, hm1, List.map_append]
              exact h13
            · rw [if_pos (.inr h2)] at hm1
              walk_at "go"
              exact ⟨_, _, _, rfl, s10, hwd10, hrw10, hm10, by rw [keep hm1]; exact hdu10⟩
          · rw [if_pos (.inl h1)] at hm1
            walk_at "go"
            exact ⟨_, _, _, rfl, s10, hwd10, hrw10, hm10, by rw [keep hm1]; exact hdu10⟩
        · rintro σ H10 ⟨y10, y11, y12, rfl, s10, hwd10, hrw10, hm10, hdu10⟩
          rw [hul, List.take_length] at hdu10
          have s710 := s8.trans s10
          have B10 := B7.same s710
          have hml2 := mksL_len fs R
          walk_at "go"
          refine w_kRng1 (by decide) (by decide) ?_
          refine w_range (fun j σ H11 => ∃ (y13 y14 y15 : Option V), σ = [some (.ref a), some (.ref b), some (.int (0 + (i : Int))), some (.int n), some (.ref f), some (.ref p), some (.ref fo), some (.ref wd), some (.ref rw), some (.ref du), y10, y11, y12, y13, y14, y15] ∧ Same H10 H11) ⟨_, _, _, rfl, .refl _⟩ ?_ ?_
          · rintro j σ H11 hj ⟨y13, y14, y15, rfl, s11⟩
            have s711 := s710.trans s11
            walk_at "go"
            refine ⟨p, n, LM ms, rfl, hW.same s711, hLR, hLN, hI, hsz, by omega, n2, fun r12 H12 gs nr12 s12 hr12 fing okg => ?_⟩
            have eg := fing.one fin
            subst eg
            rw [rows_eq ok, hR] at hr12
            have hdu12 := s12.at (s11.at hdu10)
            have s712 := s711.trans s12
            walk_at "go"
            refine ⟨_, _, rfl, eqv_strs hr12 hdu12 (by omega), fun H13 s13 => ?_⟩
            walk_at "go"
            have hr13 := s13.at hr12
            have s713 := s712.trans s13
            refine w_lcL (xs := (mksL gs R).map V.str) (fun r i H14 => Same H13 H14 ∧ H13 r = none ∧ H14 r = some (.lst ((List.replicate i true).map V.bl))) (fun r H14 hr nr => ⟨nr.same, nr.nn, hr⟩) (fun r i H14 _ ⟨h, _⟩ => h.at hr13) ?_ ?_
            · rintro r i2 v H14 hv ⟨s14, nr, hr14⟩
              rw [List.getElem?_map, Option.map_eq_some_iff] at hv
              obtain ⟨x, hx, rfl⟩ := hv
              have hil : i2 < (mksL gs R).length := (List.getElem?_eq_some_iff.mp hx).1
              obtain ⟨x1, x2, x3⟩ := mks_home ok fin okf n2 (w := x) (by rw [hR]; exact List.mem_of_getElem? hx)
              walk_at "go"
              have s714 := s713.trans s14
              refine ⟨f, us, ms, x, 0, rfl, s714.at hf7, hm7.tps (.of s714), fun m hm => by have := ok.rg m hm; omega, by omega, x1, fun H15 s15 => ?_⟩
              rw [x3]
              show rEq (V.int 0) (V.int 0) H15 _
              walk_at "go"
              rw [decide_eq_true rfl]
              refine w_kIt (s15.at hr14) (lineLt_of (by rw [List.length_map, List.length_replicate]; omega)) (fun H16 h16 o16 => ⟨(s14.trans s15).off o16 nr, nr, ?_⟩)
              rw [h16, List.replicate_succ', List.map_append]
              rfl
            · rintro r H14 ⟨s14, nr, hr14⟩
              walk_at "go"
              refine w_all hr14 ?_
              have hr1 : ∀ k : Nat, (List.replicate k true).all id = true := fun k => by
                induction k with
                | zero => rfl
                | succ k ih => rw [List.replicate_succ, List.all_cons, ih]; rfl
              rw [hr1]
              walk_at "go"
              have nr12' : H11 r12 = none := nr12
              refine w_append ((s13.trans s14).at hr12) (by rw [List.length_map]; exact lineLt_of (by omega)) (fun H16 h16 o16 => ?_)
              walk_at "go"
              exact ⟨_, _, _, rfl, s11.trans (((s12.trans s13).trans s14).off o16 nr12')⟩
          · rintro σ H11 ⟨y13, y14, y15, rfl, s11⟩
            walk_at "go"
            exact ⟨_, _, _, _, _, _, _, _, _, _, _, _, _, _, rfl, B10.same s11⟩
    · rintro σ H2 ⟨y2, y3, y4, y5, y6, y7, y8, y9, y10, y11, y12, y13, y14, y15, rfl, B2⟩
      walk_at "go"
      refine w_newL (by walk_at "sz") (fun l3 H3 hl3 nl3 => ?_)
      walk_at "go"
      refine w_world hl3 .nil wok0 (by decide) (by decide) (by decide) (fun p H4 G4 hW4 sG4 hG4 s4 => ?_)
      walk_at "go"
      refine ⟨p, 1, LM [], rfl, hW4.same sG4, LM_rg wok0, LM_nd wok0, inv_world wok0, fun c _ => Nat.le_trans (LM_len [] c) (by decide), by decide, by decide, fun r5 H5 gs nr5 s5 hr5 fing okg => ?_⟩
      rw [fing.one fin0, mks0] at hr5
      walk_at "go"
      refine w_newL (by walk_at "sz") (fun l6 H6 hl6 nl6 => ?_)
      refine w_eqSame (d := .list []) (.lst (SqL.of (nl6.at hr5)) .nil) (.lst (SqL.of hl6) .nil) (by decide +kernel) ?_
      walk_at "go"
      refine w_newT (by walk_at "sz") (fun t7 H7 ht7 nt7 => ?_)
      walk_at "go"
      refine w_newL (by walk_at "sz") (fun l8 H8 hl8 nl8 => ?_)
      walk_at "go"
      refine w_world hl8 (ms := [(98, 0, 0)]) (.cons ⟨t7, rfl, nl8.at ht7⟩ .nil) wok1 (by decide) (by decide) (by decide) (fun p9 H9 G9 hW9 sG9 hG9 s9 => ?_)
      walk_at "go"
      refine ⟨p9, 1, LM [(98, 0, 0)], rfl, hW9.same sG9, LM_rg wok1, LM_nd wok1, inv_world wok1, fun c _ => Nat.le_trans (LM_len [(98, 0, 0)] c) (by decide), by decide, by decide, fun r10 H10 gs' nr10 s10 hr10 fing' okg' => ?_⟩
      rw [fing'.one fin1, mks1] at hr10
      walk_at "go"
      refine w_newL (by walk_at "sz") (fun l11 H11 hl11 nl11 => ?_)
      refine w_eqSame (d := .list [.str (Str.ofString "b")]) (.lst (SqL.of (nl11.at hr10)) (.cons (.str _) .nil)) (.lst (SqL.of hl11) (.cons (.str _) .nil)) (by decide +kernel) ?_
      exact q _
end
end Sf
open PySem PySem.W PyProof.Rows
/-! the head: what the top leaves (a list of its objects by their places) is written out by the tactic's own auxiliary definitions; the lemma here holds of nothing but False and serves that alone -/
namespace Sf
def dumD : DefRec := ⟨"zzz", ⟨[], [], none, [], [], none, []⟩, [], ⟨.function, [], false, false, []⟩, default⟩
section
local macro_rules | `(tactic| kernel_rfl) => `(tactic| exact False.elim (by assumption))
local macro_rules | `(tactic| decide +kernel) => `(tactic| exact False.elim (by assumption))
local macro_rules | `(tactic| rfl) => `(tactic| first | exact (show defOf _ _ = some (Sf.dumD, []) from False.elim (by assumption)) | exact False.elim (by assumption))
set_option maxRecDepth 100000 in
set_option maxHeartbeats 0 in
theorem hx (h : False) : (OpenLaw.row PySem.Challenge.rw_spoorfold_k52_makers_of_worlds).Holds := by
  w_on; k_headL
  case hw => w_witness2
  case hc =>
    k_fill
    intro w s₀ s₁ mg mb G Y a o pm cd doc dV kV ho hd hcd hD hmg
    have KX := kIn_of Y
    have e : mg ("zzz" : PySem.Str) = none := mg_none_of KX G.T.g (by k_is)
    have e2 : mg ("zzz" : PySem.Str) = some (.ref a) := hmg
    exact nomatch (e.symm.trans e2)
end
end Sf
namespace Sf
open PySem PySem.W PySem.Calls PyProof.Rows
abbrev rwR : OpenRow := OpenLaw.row PySem.Challenge.rw_spoorfold_k52_makers_of_worlds
def p0 : Params where
  strHash := fun _ => 0
  shareClass := fun _ => 0
  mergeTok := id
  idOf := fun _ => 0
  idOfShared := fun _ _ => 0
  followText := fun _ => true
  idOfImm := fun _ => 0
def looseK0 : List PySem.Str := ["_wall", "SpoorError", "BadWorld", "Lacking", "NoPlace", "LETTERS", "SIGNS", "turned", "glued", "is_upto", "MOST_PLACES", "World", "leads_by", "is_move", "renumbered", "world_of", "makers", "tree_of", "_law_begin", "_law_pull"]
def looseK1 : List PySem.Str := ["_law_world", "_law_live", "_law_head", "_law_goes", "_law_web_world", "_law_flip", "_law_join", "_law_link", "_law_lay", "_law_gaps", "_law_web", "_law_short", "_law_rose", "_law_sign", "_law_word", "_law_lots", "_law_led", "_law_seen", "_law_back", "_law_same"]
def looseK : List PySem.Str := looseK0 ++ looseK1
noncomputable def asK : List Addr := (Sf.hx.heap_1 p0).map (·.1)
theorem asK_eq : ∀ P, asK = (Sf.hx.heap_1 P).map (·.1) := fun P => by kernel_rfl
abbrev qvK : Program := view rwR.prog [46]
noncomputable abbrev hkK : Hook := kHook Sf.hx.heap_1 asK asK_eq
noncomputable def obK (s : SharedT) : hkK.α := asK.map (HandSHeadRun.getT s)
theorem obK_eq (s : SharedT) : obK s = hkK.obs s.abs := List.map_congr_left fun a _ => HandSHeadRun.getT_eq s a
theorem split3 {S α β γ : Type} {o : Option S} {f : S → α} {g : S → β} {h : S → γ} {a : α} {b : β} {c : γ} (h1 : o.map f = some a) (h2 : o.map g = some b) (h3 : o.map h = some c) : o.map (fun s => (f s, g s, h s)) = some (a, b, c) := by
  cases o with
  | none => cases h1
  | some s =>
    cases h1
    cases h2
    cases h3
    rfl
open HandSHeadRun in
theorem runK1 (w : World) (os : OsState) : (endF (stepQ (denQ tabQ) rwR.prog w) 2842 rwR.prog w os).map (fun s => looksF rwR.prog (boot_heap w.params) s.abs) = some true := by kernel_rfl
open HandSHeadRun in
theorem runK2 (w : World) (os : OsState) : (endF (stepQ (denQ tabQ) rwR.prog w) 2842 rwR.prog w os).map (fun s => seenQ qvK looseK (importedModules rwR.prog.main.body) (fun s => xlAt qvK [] s && recOk rwR.toRowW.records s) s.abs) = some (openGood qvK looseK) := by kernel_rfl
open HandSHeadRun in
theorem runK3 (w : World) (os : OsState) : (endF (stepQ (denQ tabQ) rwR.prog w) 2842 rwR.prog w os).map (fun s => asK.map (HandSHeadRun.getT s)) = some ((Sf.hx.heap_1 w.params).map fun x => some x.2) := by kernel_rfl
theorem runK (w : World) : HandSHeadRun.RunEq rwR qvK hkK obK 2842 looseK w := fun os => split3 (runK1 w os) (runK2 w os) (runK3 w os)
end Sf
namespace Sf
open PySem PySem.Spec PyProof.Rows L2 TL
theorem all_mk {P : Program} {w : World} {K : PySem.W.Frag} {h : Heap} {mg : Str → Option Value} {fa f : Addr} (X : K.In h) (G : h.Ns mainGlobals mg) (hfa : mg "law" = some (.ref fa))
    {od an : Option Addr} {sl : Array (Option Value)} {oc kV dc pm cd ct : Value}
    (aL : PySem.W.nsIn K mainGlobals "law" = some (some (.ref f))) (lL : K.lookup f = some ⟨oc, od, .func (PySem.W.fnOf "law" "law" (defArgs s_law) (defBody s_law) (defScope s_law) .none kV dc pm an cd ct), sl⟩) (cL : PySem.W.codeIn K cd "law" = true) (kL : PySem.W.keepIn K (.ref f) = true)
    (F_law_pull : FnAt K mg "_law_pull" s__law_pull ["_law_bag", "_law_many"])
    (F_law_begin : FnAt K mg "_law_begin" s__law_begin ["_law_script"])
    (F_law_flip : FnAt K mg "_law_flip" s__law_flip ["_law_sign_here"])
    (F_law_sign : FnAt K mg "_law_sign" s__law_sign ["_law_bag", "_law_many"])
    (F_law_word : FnAt K mg "_law_word" s__law_word ["_law_bag", "_law_upto", "_law_many"])
    (Fis_upto : FnAt K mg "is_upto" s_is_upto ["thing", "most"])
    (Fis_move : FnAt K mg "is_move" s_is_move ["move", "many"])
    (Fleads_by : FnAt K mg "leads_by" s_leads_by ["many", "moves"])
    (Frenumbered : FnAt K mg "renumbered" s_renumbered ["led", "numbers"])
    (Fworld_of : FnAt K mg "world_of" s_world_of ["many", "leads"])
    (Fturned : FnAt K mg "turned" s_turned ["word"])
    (Fglued : FnAt K mg "glued" s_glued ["one", "other"])
    (Ftree_of : FnAt K mg "tree_of" s_tree_of ["ways"])
    (Fmakers : FnAt K mg "makers" s_makers ["world"])
    (F_law_world : FnAt K mg "_law_world" s__law_world ["_law_bag", "_law_upto", "_law_letters"])
    (F_law_led : FnAt K mg "_law_led" s__law_led ["_law_moves", "_law_word_here", "_law_place"])
    (F_law_seen : FnAt K mg "_law_seen" s__law_seen ["_law_many", "_law_moves", "_law_place"])
    (F_law_head : FnAt K mg "_law_head" s__law_head ["_law_links", "_law_place"])
    (F_law_join : FnAt K mg "_law_join" s__law_join ["_law_links", "_law_one", "_law_other"])
    (F_law_link : FnAt K mg "_law_link" s__law_link ["_law_links", "_law_start", "_law_sign_here", "_law_end"])
    (F_law_lay : FnAt K mg "_law_lay" s__law_lay ["_law_links", "_law_start", "_law_word_here", "_law_end"])
    (F_law_live : FnAt K mg "_law_live" s__law_live ["_law_links"])
    (F_law_goes : FnAt K mg "_law_goes" s__law_goes ["_law_links", "_law_place", "_law_word_here"])
    (F_law_gaps : FnAt K mg "_law_gaps" s__law_gaps ["_law_links", "_law_likenesses"])
    (F_law_web : FnAt K mg "_law_web" s__law_web ["_law_facts", "_law_likenesses", "_law_often"])
    (F_law_web_world : FnAt K mg "_law_web_world" s__law_web_world ["_law_links"])
    (F_law_short : FnAt K mg "_law_short" s__law_short ["_law_word_here"])
    (F_law_back : FnAt K mg "_law_back" s__law_back ["_law_word_here"])
    (F_law_lots : FnAt K mg "_law_lots" s__law_lots ["_law_bag", "_law_upto", "_law_size"])
    (F_law_rose : FnAt K mg "_law_rose" s__law_rose ["_law_words"])
    (F_law_same : FnAt K mg "_law_same" s__law_same ["_law_found", "_law_due"])
    (B : Blt mg) (Nenumerate : mg "enumerate" = none) (Ndict : mg "dict" = none) (Nmax : mg "max" = none) {t_SIGNS : Tok} (C_SIGNS : mg "SIGNS" = some (.str (Str.ofString "aAbBcCdDeEfFgGhH") t_SIGNS)) {t_LETTERS : Tok} (C_LETTERS : mg "LETTERS" = some (.str (Str.ofString "abcdefgh") t_LETTERS)) {t_MOST_PLACES : Tok} (C_MOST_PLACES : mg "MOST_PLACES" = some (.int 1000 t_MOST_PLACES)) {CWorld : Addr} (TWorld : WC K mg CWorld) (mkWorld : PySem.W.makesIn K CWorld = true) (kcWorld : PySem.W.keepIn K (.ref CWorld) = true)
    (MWorld___init__ : MAt K CWorld "__init__" "World.__init__" s_World___init__ ["self", "many", "moves"])
    (MWorld_led : MAt K CWorld "led" "World.led" s_World_led ["self", "word", "place"])
    (MWorld_moves : MAt K CWorld "moves" "World.moves" s_World_moves ["self"])
    (MWorld_need_place : MAt K CWorld "need_place" "World.need_place" s_World_need_place ["self", "place"])
    (MWorld_come_to : MAt K CWorld "come_to" "World.come_to" s_World_come_to ["self", "place"])
    {CL fL : Addr} (L_ : LE K mg CL fL) (FL_ : FbD K "__init__" "Lacking.__init__" s_Lacking___init__ fL ["self", "word", "message"])
    {CNoPlace fNoPlace : Addr} (ENoPlace : EL K mg "NoPlace" CNoPlace fNoPlace) (INoPlace : Fb K "__init__" "NoPlace.__init__" s_NoPlace___init__ fNoPlace ["self", "place"])
    (nNoPlace_place : PySem.W.findIn K (.ref CNoPlace) "place" = some none)
    {tkseen : Tok} (MWorld_seen : MAtD K CWorld "seen" "World.seen" s_World_seen ["self", "place"] (.int 0 tkseen))
    {tkways : Tok} (MWorld_ways : MAtD K CWorld "ways" "World.ways" s_World_ways ["self", "place"] (.int 0 tkways)) :
    ∃ fd : FuncData, (∀ (s : Shared) (v : Value), BindsTo s fd ⟨[v], []⟩ [("_law_script", v)]) ∧ ∀ base : Heap, K.In base → base.Ns mainGlobals mg → FnOk P w K mg base CX0 10 fa fd ["_law_script"] (spLaw K) := by
  have e := hfa.symm.trans (PySem.W.mg_of X G aL)
  cases e
  have FL := fun_mk (st := s_law) lL cL kL
  refine ⟨PySem.W.fnOf "law" "law" (defArgs s_law) (defBody s_law) (defScope s_law) .none kV dc pm an cd ct, fun s v => .of_eq rfl, fun base _ _ => ?_⟩
  obtain ⟨fdL, FL1, bL⟩ := FL_
  obtain ⟨fdN, FN, bN⟩ := INoPlace
  have G_N := ok_npx (P := P) (w := w) (base := base) FN L_ FL1 bL
  have h_Sa := has_same (P := P) (w := w) (base := base) F_law_same B
  have h_Pu := has_pull (P := P) (w := w) (base := base) F_law_pull B
  have h_Be := has_begin (P := P) (w := w) (base := base) F_law_begin B
  have h_Fl := has_flip (P := P) (w := w) (base := base) F_law_flip
  have h_Si := has_sign (P := P) (w := w) (base := base) F_law_sign h_Pu
  have h_Wo := has_word (P := P) (w := w) (base := base) F_law_word B h_Pu h_Si h_Fl
  have h_Up := has_up (P := P) (w := w) (base := base) Fis_upto B
  have h_Im := has_im (P := P) (w := w) (base := base) Fis_move B h_Up C_LETTERS
  have h_Lb := has_lb (P := P) (w := w) (base := base) Fleads_by B h_Im C_SIGNS
  have h_WI := has_wi (P := P) (w := w) (base := base) MWorld___init__ B TWorld h_Up h_Lb C_MOST_PLACES
  have h_Led := has_led (P := P) (w := w) (base := base) MWorld_led TWorld
  have h_Lw := has_lw (P := P) (w := w) (base := base) F_law_world B h_Pu
  have h_Lld := has_lld (P := P) (w := w) (base := base) F_law_led
  have h_NplX := has_nplX (P := P) (w := w) (base := base) MWorld_need_place B TWorld h_Up ENoPlace nNoPlace_place G_N bN
  have h_Ct := has_ct (P := P) (w := w) (base := base) MWorld_come_to TWorld C_SIGNS
  have h_Rn := has_rn (P := P) (w := w) (base := base) Frenumbered
  have h_Wf := has_wf (P := P) (w := w) (base := base) Fworld_of B TWorld mkWorld kcWorld h_WI
  have h_Wy := has_wyX (P := P) (w := w) (base := base) MWorld_ways B TWorld h_NplX h_Ct
  have h_Se := has_seX (P := P) (w := w) (base := base) MWorld_seen B Nenumerate TWorld C_SIGNS h_NplX h_Ct h_Rn h_Wf
  have h_Lse := has_lse (P := P) (w := w) (base := base) F_law_seen B h_Lld
  have h_Mv := has_mvs (P := P) (w := w) (base := base) MWorld_moves B TWorld C_LETTERS
  have h_Lhd := has_lhd (P := P) (w := w) (base := base) F_law_head B
  have h_Ljn := has_ljn (P := P) (w := w) (base := base) F_law_join B Nmax h_Lhd
  have h_Llk := has_llk (P := P) (w := w) (base := base) F_law_link B h_Lhd h_Ljn h_Fl
  have h_Lly := has_lly (P := P) (w := w) (base := base) F_law_lay B h_Ljn h_Llk
  have h_Lli := has_lli (P := P) (w := w) (base := base) F_law_live B Ndict
  have h_Lgo := has_lgo (P := P) (w := w) (base := base) F_law_goes B h_Lhd
  have h_Lga := has_lga0 (P := P) (w := w) (base := base) F_law_gaps B h_Lli h_Lgo
  have h_Lwb := has_lwb0 (P := P) (w := w) (base := base) F_law_web B Ndict h_Lli h_Lly h_Lga
  have h_Lww := has_lww (P := P) (w := w) (base := base) F_law_web_world B h_Lli h_Lgo
  have h_Sh := has_short (P := P) (w := w) (base := base) F_law_short h_Fl
  have h_Ba := has_back (P := P) (w := w) (base := base) F_law_back h_Fl
  have h_Lts := has_lts (P := P) (w := w) (base := base) F_law_lots B h_Pu h_Wo
  have h_Lro := has_lro (P := P) (w := w) (base := base) F_law_rose h_Sh h_Lwb h_Lww
  have hG := has_glued (P := P) (w := w) (base := base) Fglued B B.min
  have h_Tu := has_turned (P := P) (w := w) (base := base) Fturned
  have h_To := has_to (P := P) (w := w) (base := base) Ftree_of Nenumerate
  have h_Mks := has_mks (P := P) (w := w) (base := base) Fmakers TWorld h_Tu hG h_To h_Mv h_Se h_Wy
  exact ok_law FL B TWorld mkWorld kcWorld h_Be h_Pu h_Lw h_Lts h_Lro h_WI h_Lse h_Sh h_Ba h_Mks (h_Sa 2) h_Lld
end Sf
open PySem PySem.W PyProof.Rows
set_option maxRecDepth 100000 in
set_option maxHeartbeats 0 in
theorem PySem.Challenge.cw_spoorfold_k52_makers_of_worlds_holds : PySem.Challenge.rw_spoorfold_k52_makers_of_worlds.Holds := by
  w_on; o_law
  refine HandSHeadRun.head_any (r := OpenLaw.row PySem.Challenge.rw_spoorfold_k52_makers_of_worlds) (q := Sf.qvK) (H := PySem.W.kHook Sf.hx.heap_1 Sf.asK Sf.asK_eq) (ob := Sf.obK) (M := 2842) (loose := Sf.looseK) (d := HandSHeadRun.topDef (OpenLaw.row PySem.Challenge.rw_spoorfold_k52_makers_of_worlds).prog 46) (kwd := []) Sf.obK_eq (by kernel_rfl) (fun s => by kernel_rfl) Sf.runK (by kernel_rfl) (by kernel_rfl) (by kernel_rfl) (by rfl) (by first | assumption | decide +kernel) (by decide +kernel) ⟨rfl, rfl, rfl, rfl, rfl, by decide +kernel⟩ ?hw ?hc
  case hw => w_witness2
  case hc =>
  k_fill
  refine L2.walk_of (l := PySem.Challenge.rw_spoorfold_k52_makers_of_worlds) (n := 63) (k := 10) (x := "_law_script") (CX := fun _ => L2.CX0) (sp := fun w => Sf.spLaw _) rfl (by decide) (by kernel_rfl) ⟨rfl, by decide, by decide⟩ (fun w h Y => PySem.W.kIn_of Y) ?F (fun _ _ a ns hl _ hS => ⟨a, ns, rfl, hS, hl, fun _ => rfl⟩) (fun _ _ _ _ _ h => h)
  case F =>
    intro w mg fa h KX G hmg0
    have hmg : mg ("law" : PySem.Str) = some (.ref fa) := by
      have e : (HandSHeadRun.topDef (OpenLaw.row PySem.Challenge.rw_spoorfold_k52_makers_of_worlds).prog 46).name = ("law" : PySem.Str) := by kernel_rfl
      rw [← e]
      exact hmg0
    clear hmg0
    refine' Sf.all_mk KX G hmg ?aL ?lL ?cL ?kL (Sf.fnAt_mk KX G ?a0 ?l0 ?c0 ?k0 (fun _ _ _ _ _ _ us hl => match us, hl with | [_, _], _ => rfl)) (Sf.fnAt_mk KX G ?a1 ?l1 ?c1 ?k1 (fun _ _ _ _ _ _ us hl => match us, hl with | [_], _ => rfl)) (Sf.fnAt_mk KX G ?a2 ?l2 ?c2 ?k2 (fun _ _ _ _ _ _ us hl => match us, hl with | [_], _ => rfl)) (Sf.fnAt_mk KX G ?a3 ?l3 ?c3 ?k3 (fun _ _ _ _ _ _ us hl => match us, hl with | [_, _], _ => rfl)) (Sf.fnAt_mk KX G ?a4 ?l4 ?c4 ?k4 (fun _ _ _ _ _ _ us hl => match us, hl with | [_, _, _], _ => rfl)) (Sf.fnAt_mk KX G ?a5 ?l5 ?c5 ?k5 (fun _ _ _ _ _ _ us hl => match us, hl with | [_, _], _ => rfl)) (Sf.fnAt_mk KX G ?a6 ?l6 ?c6 ?k6 (fun _ _ _ _ _ _ us hl => match us, hl with | [_, _], _ => rfl)) (Sf.fnAt_mk KX G ?a7 ?l7 ?c7 ?k7 (fun _ _ _ _ _ _ us hl => match us, hl with | [_, _], _ => rfl)) (Sf.fnAt_mk KX G ?a8 ?l8 ?c8 ?k8 (fun _ _ _ _ _ _ us hl => match us, hl with | [_, _], _ => rfl)) (Sf.fnAt_mk KX G ?a9 ?l9 ?c9 ?k9 (fun _ _ _ _ _ _ us hl => match us, hl with | [_, _], _ => rfl)) (Sf.fnAt_mk KX G ?a10 ?l10 ?c10 ?k10 (fun _ _ _ _ _ _ us hl => match us, hl with | [_], _ => rfl)) (Sf.fnAt_mk KX G ?a11 ?l11 ?c11 ?k11 (fun _ _ _ _ _ _ us hl => match us, hl with | [_, _], _ => rfl)) (Sf.fnAt_mk KX G ?a12 ?l12 ?c12 ?k12 (fun _ _ _ _ _ _ us hl => match us, hl with | [_], _ => rfl)) (Sf.fnAt_mk KX G ?a13 ?l13 ?c13 ?k13 (fun _ _ _ _ _ _ us hl => match us, hl with | [_], _ => rfl)) (Sf.fnAt_mk KX G ?a14 ?l14 ?c14 ?k14 (fun _ _ _ _ _ _ us hl => match us, hl with | [_, _, _], _ => rfl)) (Sf.fnAt_mk KX G ?a15 ?l15 ?c15 ?k15 (fun _ _ _ _ _ _ us hl => match us, hl with | [_, _, _], _ => rfl)) (Sf.fnAt_mk KX G ?a16 ?l16 ?c16 ?k16 (fun _ _ _ _ _ _ us hl => match us, hl with | [_, _, _], _ => rfl)) (Sf.fnAt_mk KX G ?a17 ?l17 ?c17 ?k17 (fun _ _ _ _ _ _ us hl => match us, hl with | [_, _], _ => rfl)) (Sf.fnAt_mk KX G ?a18 ?l18 ?c18 ?k18 (fun _ _ _ _ _ _ us hl => match us, hl with | [_, _, _], _ => rfl)) (Sf.fnAt_mk KX G ?a19 ?l19 ?c19 ?k19 (fun _ _ _ _ _ _ us hl => match us, hl with | [_, _, _, _], _ => rfl)) (Sf.fnAt_mk KX G ?a20 ?l20 ?c20 ?k20 (fun _ _ _ _ _ _ us hl => match us, hl with | [_, _, _, _], _ => rfl)) (Sf.fnAt_mk KX G ?a21 ?l21 ?c21 ?k21 (fun _ _ _ _ _ _ us hl => match us, hl with | [_], _ => rfl)) (Sf.fnAt_mk KX G ?a22 ?l22 ?c22 ?k22 (fun _ _ _ _ _ _ us hl => match us, hl with | [_, _, _], _ => rfl)) (Sf.fnAt_mk KX G ?a23 ?l23 ?c23 ?k23 (fun _ _ _ _ _ _ us hl => match us, hl with | [_, _], _ => rfl)) (Sf.fnAt_mk KX G ?a24 ?l24 ?c24 ?k24 (fun _ _ _ _ _ _ us hl => match us, hl with | [_, _, _], _ => rfl)) (Sf.fnAt_mk KX G ?a25 ?l25 ?c25 ?k25 (fun _ _ _ _ _ _ us hl => match us, hl with | [_], _ => rfl)) (Sf.fnAt_mk KX G ?a26 ?l26 ?c26 ?k26 (fun _ _ _ _ _ _ us hl => match us, hl with | [_], _ => rfl)) (Sf.fnAt_mk KX G ?a27 ?l27 ?c27 ?k27 (fun _ _ _ _ _ _ us hl => match us, hl with | [_], _ => rfl)) (Sf.fnAt_mk KX G ?a28 ?l28 ?c28 ?k28 (fun _ _ _ _ _ _ us hl => match us, hl with | [_, _, _], _ => rfl)) (Sf.fnAt_mk KX G ?a29 ?l29 ?c29 ?k29 (fun _ _ _ _ _ _ us hl => match us, hl with | [_], _ => rfl)) (Sf.fnAt_mk KX G ?a30 ?l30 ?c30 ?k30 (fun _ _ _ _ _ _ us hl => match us, hl with | [_, _], _ => rfl)) ⟨PySem.W.mg_none_of KX G ?z0, PySem.W.mg_none_of KX G ?z1, PySem.W.mg_none_of KX G ?z2, PySem.W.mg_none_of KX G ?z3, PySem.W.mg_none_of KX G ?z4, PySem.W.mg_none_of KX G ?z5, PySem.W.mg_none_of KX G ?z6, PySem.W.mg_none_of KX G ?z7, PySem.W.mg_none_of KX G ?z8, PySem.W.mg_none_of KX G ?z9, PySem.W.mg_none_of KX G ?z10, PySem.W.mg_none_of KX G ?z11⟩ (PySem.W.mg_none_of KX G ?y0) (PySem.W.mg_none_of KX G ?y1) (PySem.W.mg_none_of KX G ?y2) (PySem.W.mg_of KX G ?d0) (PySem.W.mg_of KX G ?d1) (PySem.W.mg_of KX G ?d2) (Sf.WC.mk ⟨?wWorldpg, ?wWorldhd, ?wWorldpo, ?wWorldsa⟩ ?wWorldf0 ?wWorldf1 (PySem.W.mg_of KX G ?wWorldaC) ?wWorldha ?wWorldhn ?wWorldhtk ?wWorldhm ?wWorldne) ?wWorldmk ?wWorldkc (Sf.mAt_mk ?wWorlda0 ?wWorldi0 ?wWorldl0 ?wWorldc0 ?wWorldk0 (fun _ _ _ _ _ _ us hl => match us, hl with | [_, _, _], _ => rfl)) (Sf.mAt_mk ?wWorlda1 ?wWorldi1 ?wWorldl1 ?wWorldc1 ?wWorldk1 (fun _ _ _ _ _ _ us hl => match us, hl with | [_, _, _], _ => rfl)) (Sf.mAt_mk ?wWorlda2 ?wWorldi2 ?wWorldl2 ?wWorldc2 ?wWorldk2 (fun _ _ _ _ _ _ us hl => match us, hl with | [_], _ => rfl)) (Sf.mAt_mk ?wWorlda3 ?wWorldi3 ?wWorldl3 ?wWorldc3 ?wWorldk3 (fun _ _ _ _ _ _ us hl => match us, hl with | [_, _], _ => rfl)) (Sf.mAt_mk ?wWorlda4 ?wWorldi4 ?wWorldl4 ?wWorldc4 ?wWorldk4 (fun _ _ _ _ _ _ us hl => match us, hl with | [_, _], _ => rfl)) (Sf.LE.mk (PySem.W.mg_of KX G ?leC) ?lerd ?lega ?leat ?levV (PySem.W.mg_none_of KX G ?lemV)) (Sf.fbD_mk ?lel ?lec ?lek (Sf.le_binds ?leo ?leo2))  (Sf.EL.mk ⟨?xNoPlaceini, ?xNoPlaceovr, ?xNoPlacedct, ?xNoPlacesa, ?xNoPlaceex, ?xNoPlacety, ?xNoPlacekC⟩ ?xNoPlaceiC ?xNoPlacetI (PySem.W.mg_of KX G ?xNoPlacegC) ⟨?xNoPlacega, ?xNoPlacegg, ?xNoPlaceex2, ?xNoPlacehd⟩ ?xNoPlacenw (Sf.exm_self ?xNoPlaceex3 ?xNoPlacecl ?xNoPlacety2 ?xNoPlacesub)) (Sf.fb_mk ?xNoPlaceil ?xNoPlaceic ?xNoPlaceik (fun _ _ _ _ _ _ us hl => match us, hl with | [_, _], _ => rfl)) ?fNoPlaceplace (Sf.mAtD_mk ?dseena ?dseeni ?dseenl ?dseenc ?dseenk ?dseeno ?dseens (Sf.seen_binds ?dseeno ?dseens) (Sf.seen_bindsD ?dseeno ?dseens)) (Sf.mAtD_mk ?dwaysa ?dwaysi ?dwaysl ?dwaysc ?dwaysk ?dwayso ?dwayss (Sf.ways_binds ?dwayso ?dwayss) (Sf.ways_bindsD ?dwayso ?dwayss))
    (case aL => k_is)
    (case lL => k_is)
    (case cL => k_is)
    (case kL => k_is)
    (case a0 => k_is)
    (case l0 => k_is)
    (case c0 => k_is)
    (case k0 => k_is)
    (case a1 => k_is)
    (case l1 => k_is)
    (case c1 => k_is)
    (case k1 => k_is)
    (case a2 => k_is)
    (case l2 => k_is)
    (case c2 => k_is)
    (case k2 => k_is)
    (case a3 => k_is)
    (case l3 => k_is)
    (case c3 => k_is)
    (case k3 => k_is)
    (case a4 => k_is)
    (case l4 => k_is)
    (case c4 => k_is)
    (case k4 => k_is)
    (case a5 => k_is)
    (case l5 => k_is)
    (case c5 => k_is)
    (case k5 => k_is)
    (case a6 => k_is)
    (case l6 => k_is)
    (case c6 => k_is)
    (case k6 => k_is)
    (case a7 => k_is)
    (case l7 => k_is)
    (case c7 => k_is)
    (case k7 => k_is)
    (case a8 => k_is)
    (case l8 => k_is)
    (case c8 => k_is)
    (case k8 => k_is)
    (case a9 => k_is)
    (case l9 => k_is)
    (case c9 => k_is)
    (case k9 => k_is)
    (case a10 => k_is)
    (case l10 => k_is)
    (case c10 => k_is)
    (case k10 => k_is)
    (case a11 => k_is)
    (case l11 => k_is)
    (case c11 => k_is)
    (case k11 => k_is)
    (case a12 => k_is)
    (case l12 => k_is)
    (case c12 => k_is)
    (case k12 => k_is)
    (case a13 => k_is)
    (case l13 => k_is)
    (case c13 => k_is)
    (case k13 => k_is)
    (case a14 => k_is)
    (case l14 => k_is)
    (case c14 => k_is)
    (case k14 => k_is)
    (case a15 => k_is)
    (case l15 => k_is)
    (case c15 => k_is)
    (case k15 => k_is)
    (case a16 => k_is)
    (case l16 => k_is)
    (case c16 => k_is)
    (case k16 => k_is)
    (case a17 => k_is)
    (case l17 => k_is)
    (case c17 => k_is)
    (case k17 => k_is)
    (case a18 => k_is)
    (case l18 => k_is)
    (case c18 => k_is)
    (case k18 => k_is)
    (case a19 => k_is)
    (case l19 => k_is)
    (case c19 => k_is)
    (case k19 => k_is)
    (case a20 => k_is)
    (case l20 => k_is)
    (case c20 => k_is)
    (case k20 => k_is)
    (case a21 => k_is)
    (case l21 => k_is)
    (case c21 => k_is)
    (case k21 => k_is)
    (case a22 => k_is)
    (case l22 => k_is)
    (case c22 => k_is)
    (case k22 => k_is)
    (case a23 => k_is)
    (case l23 => k_is)
    (case c23 => k_is)
    (case k23 => k_is)
    (case a24 => k_is)
    (case l24 => k_is)
    (case c24 => k_is)
    (case k24 => k_is)
    (case a25 => k_is)
    (case l25 => k_is)
    (case c25 => k_is)
    (case k25 => k_is)
    (case a26 => k_is)
    (case l26 => k_is)
    (case c26 => k_is)
    (case k26 => k_is)
    (case a27 => k_is)
    (case l27 => k_is)
    (case c27 => k_is)
    (case k27 => k_is)
    (case a28 => k_is)
    (case l28 => k_is)
    (case c28 => k_is)
    (case k28 => k_is)
    (case a29 => k_is)
    (case l29 => k_is)
    (case c29 => k_is)
    (case k29 => k_is)
    (case a30 => k_is)
    (case l30 => k_is)
    (case c30 => k_is)
    (case k30 => k_is)
    (case z0 => k_is)
    (case z1 => k_is)
    (case z2 => k_is)
    (case z3 => k_is)
    (case z4 => k_is)
    (case z5 => k_is)
    (case z6 => k_is)
    (case z7 => k_is)
    (case z8 => k_is)
    (case z9 => k_is)
    (case z10 => k_is)
    (case z11 => k_is)
    (case y0 => k_is)
    (case y1 => k_is)
    (case y2 => k_is)
    (case d0 => k_is)
    (case d1 => k_is)
    (case d2 => k_is)
    (case wWorldaC => k_is)
    (case wWorldpg => k_is)
    (case wWorldhd => k_is)
    (case wWorldpo => k_is)
    (case wWorldsa => k_is)
    (case wWorldf0 => k_is)
    (case wWorldf1 => k_is)
    (case wWorldha => k_is)
    (case wWorldhn => k_is)
    (case wWorldhtk => k_is)
    (case wWorldhm => k_is)
    (case wWorldne => k_is)
    (case wWorldmk => k_is)
    (case wWorldkc => k_is)
    (case wWorlda0 => k_is)
    (case wWorldi0 => k_is)
    (case wWorldl0 => k_is)
    (case wWorldc0 => k_is)
    (case wWorldk0 => k_is)
    (case wWorlda1 => k_is)
    (case wWorldi1 => k_is)
    (case wWorldl1 => k_is)
    (case wWorldc1 => k_is)
    (case wWorldk1 => k_is)
    (case wWorlda2 => k_is)
    (case wWorldi2 => k_is)
    (case wWorldl2 => k_is)
    (case wWorldc2 => k_is)
    (case wWorldk2 => k_is)
    (case wWorlda3 => k_is)
    (case wWorldi3 => k_is)
    (case wWorldl3 => k_is)
    (case wWorldc3 => k_is)
    (case wWorldk3 => k_is)
    (case wWorlda4 => k_is)
    (case wWorldi4 => k_is)
    (case wWorldl4 => k_is)
    (case wWorldc4 => k_is)
    (case wWorldk4 => k_is)
    (case leC => k_is)
    (case lerd => k_is)
    (case lega => k_is)
    (case leat => k_is)
    (case levV => k_is)
    (case lemV => k_is)
    (case lel => k_is)
    (case lec => k_is)
    (case lek => k_is)
    (case leo => k_is)
    (case leo2 => rfl)
    (case xNoPlacegC => k_is)
    (case xNoPlaceini => kx_is)
    (case xNoPlaceovr => kx_is)
    (case xNoPlacedct => k_is)
    (case xNoPlacesa => k_is)
    (case xNoPlaceex => k_is)
    (case xNoPlacety => k_is)
    (case xNoPlacekC => k_is)
    (case xNoPlaceiC => k_is)
    (case xNoPlacetI => k_is)
    (case xNoPlacega => k_is)
    (case xNoPlacegg => k_is)
    (case xNoPlaceex2 => k_is)
    (case xNoPlacehd => k_is)
    (case xNoPlacenw => k_is)
    (case xNoPlaceex3 => k_is)
    (case xNoPlacecl => k_is)
    (case xNoPlacety2 => k_is)
    (case xNoPlacesub => k_is)
    (case xNoPlaceil => k_is)
    (case xNoPlaceic => k_is)
    (case xNoPlaceik => k_is)
    (case fNoPlaceplace => k_is)
    (case dseena => k_is)
    (case dseeni => k_is)
    (case dseenl => k_is)
    (case dseenc => k_is)
    (case dseenk => k_is)
    (case dseeno => k_is)
    (case dseens => rfl)
    (case dwaysa => k_is)
    (case dwaysi => k_is)
    (case dwaysl => k_is)
    (case dwaysc => k_is)
    (case dwaysk => k_is)
    (case dwayso => k_is)
    (case dwayss => rfl)
